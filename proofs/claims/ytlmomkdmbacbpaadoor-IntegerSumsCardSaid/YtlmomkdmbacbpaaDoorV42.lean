/-
  The parts that the statement needs, 2 of 3.
-/
import Derived.Test.YtlmomkdmbacbpaaDoorV41
namespace Go.Ev
open Go.Proofs
set_option linter.unusedVariables false
set_option linter.unusedSimpArgs false
set_option maxRecDepth 100000
theorem k59_ok  : k59.ok Tryd.prog := by
  intro x hx
  obtain ⟨⟨ap, np, mp, tp, _⟩, ⟨aq, nq, mq, tq, _⟩, _⟩ := x
  obtain ⟨h1, h2⟩ := a59 ap np mp tp aq nq mq tq (s59 ap np mp tp aq nq mq tq (of_dec hx rfl))
  exact ⟨⟨400, (by decide : 2 + 1 + 1 ≤ 400), h1⟩, h2⟩
abbrev St46  := Empty
abbrev Rt46  := Bool × List Int
noncomputable def V46 (ng : Bool) (ap np mp : Nat) (tp : Nat → Int) (r : Rt46) : PV := PV.agg [PV.bool r.1, PV.own (2) (1) (List.length r.2)]
noncomputable def N46 (ng : Bool) (ap np mp : Nat) (tp : Nat → Int) (r : Rt46) : List Blk := [Blk.cols (List.length r.2) [Col.int IntKind.i64 fun j => S.at' r.2 j]]
noncomputable def I46 (ng : Bool) (ap np mp : Nat) (tp : Nat → Int) : St46 → Hd := fun s => s.elim
noncomputable def q46 (ng : Bool) (ap np mp : Nat) (tp : Nat → Int) : St46 → Option (St46 ⊕ Rt46) := fun s => s.elim
noncomputable def p46 (ng : Bool) (ap np mp : Nat) (tp : Nat → Int) : Option (St46 ⊕ Rt46) := bif (decide (ap + np ≤ mp ∧ np ≤ 1000000))
 then (bif (ng)
 then (bif (decide ((↑(S.trimN np fun j => tp (j + ap)) : Int) > (0 : Int)))
 then (bif (decide ((0 + S.trimN np fun j => tp (j + ap)) ≤ 1000000))
 then (bif (decide ((ap + S.trimN np fun j => tp (j + ap)) ≤ mp))
 then (some (.inr (true, S.mkl (0 + S.trimN np fun j => tp (j + ap)) fun j => tp (j + ap))))
 else (none))
 else (none))
 else (bif (decide ((0 + S.trimN np fun j => tp (j + ap)) ≤ 1000000))
 then (bif (decide ((ap + S.trimN np fun j => tp (j + ap)) ≤ mp))
 then (some (.inr (false, S.mkl (0 + S.trimN np fun j => tp (j + ap)) fun j => tp (j + ap))))
 else (none))
 else (none)))
 else (bif (decide ((0 + S.trimN np fun j => tp (j + ap)) ≤ 1000000))
 then (bif (decide ((ap + S.trimN np fun j => tp (j + ap)) ≤ mp))
 then (some (.inr (false, S.mkl (0 + S.trimN np fun j => tp (j + ap)) fun j => tp (j + ap))))
 else (none))
 else (none)))
 else (none)
noncomputable def Te46 (test : Bool → Prop → Prop → Prop) (Kst : KS) (Kret : KR) (ng : Bool) (ap np mp : Nat) (tp : Nat → Int) : Prop :=
  test (decide (ap + np ≤ mp ∧ np ≤ 1000000))
 (test (ng)
 (test (decide ((↑(S.trimN np fun j => tp (j + ap)) : Int) > (0 : Int)))
 (test (decide ((0 + S.trimN np fun j => tp (j + ap)) ≤ 1000000))
 (test (true)
 (test (decide ((ap + S.trimN np fun j => tp (j + ap)) ≤ mp))
 (Kret (PV.agg
 [PV.tf true,
 PV.own (4) (1) (0 + S.trimN np fun j => tp (j + ap))]) ([[(0, false, Blk.cols mp [Col.int IntKind.i64 tp]),
 (4, true,
 Blk.cols (0 + S.trimN np fun j => tp (j + ap))
 [Col.int IntKind.i64 fun j => tp (j + ap)])]]) (5))
 (False))
 (False))
 (False))
 (test (decide ((0 + S.trimN np fun j => tp (j + ap)) ≤ 1000000))
 (test (true)
 (test (decide ((ap + S.trimN np fun j => tp (j + ap)) ≤ mp))
 (Kret (PV.agg
 [PV.tf false,
 PV.own (4) (1) (0 + S.trimN np fun j => tp (j + ap))]) ([[(0, false, Blk.cols mp [Col.int IntKind.i64 tp]),
 (4, true,
 Blk.cols (0 + S.trimN np fun j => tp (j + ap))
 [Col.int IntKind.i64 fun j => tp (j + ap)])]]) (5))
 (False))
 (False))
 (False)))
 (test (decide ((0 + S.trimN np fun j => tp (j + ap)) ≤ 1000000))
 (test (true)
 (test (decide ((ap + S.trimN np fun j => tp (j + ap)) ≤ mp))
 (Kret (PV.agg
 [PV.tf false,
 PV.own (4) (1) (0 + S.trimN np fun j => tp (j + ap))]) ([[(0, false, Blk.cols mp [Col.int IntKind.i64 tp]),
 (4, true,
 Blk.cols (0 + S.trimN np fun j => tp (j + ap))
 [Col.int IntKind.i64 fun j => tp (j + ap)])]]) (5))
 (False))
 (False))
 (False)))
 (False)
theorem te46 (test : Bool → Prop → Prop → Prop) (Kst : KS) (Kret : KR) (ng : Bool) (ap np mp : Nat) (tp : Nat → Int) : run test Tryd.env true (xB0 test) true 400 ⟨46, [.cd (mkFn Tryd.f46).body], argT 0 [.bool ng, .loose ⟨0, 1, ap, 0⟩ np], [[], [(0, (false, .cols mp [.int .i64 tp]))]], 1⟩ (proj 1 [] Kst Kret) =
  Te46 test Kst Kret ng ap np mp tp := by kernel_rfl
attribute [local irreducible] Int.subNatNat in
theorem be46 (ng : Bool) (ap np mp : Nat) (tp : Nat → Int) (Kst : KS) (Kret : KR) (x : St46 ⊕ Rt46) (hS : HS 1 400 ((I46 ng ap np mp tp)) Kst x) (hR : HR 1 400 ((V46 ng ap np mp tp)) (fun r => [newL (1 + 1) ((N46 ng ap np mp tp) r) ++ [(0, (false, .cols mp [.int .i64 tp]))]]) Kret x) (h : p46 ng ap np mp tp = some x) : Te46 cond Kst Kret ng ap np mp tp := by
  unfold Te46
  unfold p46 at h
  refine bif_split h
   (fun c0 h => bif_split h
   (fun c1 h => bif_split h
   (fun c2 h => bif_split h
   (fun c3 h => cond_yes rfl (bif_split h
   (fun c4 h => ?_)
   (fun c4 h => ?_)))
   (fun c3 h => ?_))
   (fun c2 h => bif_split h
   (fun c3 h => cond_yes rfl (bif_split h
   (fun c4 h => ?_)
   (fun c4 h => ?_)))
   (fun c3 h => ?_)))
   (fun c1 h => bif_split h
   (fun c2 h => cond_yes rfl (bif_split h
   (fun c3 h => ?_)
   (fun c3 h => ?_)))
   (fun c2 h => ?_)))
   (fun c0 h => ?_)
  all_goals first
    | exact no_some h
    | exact ret_at hR _ h (fun n => bif Nat.beq n 2 then 4 else n) rfl rfl rfl (rn_agg ⟨(rn_bool_tf rfl), (rn_own (use_own rfl) rfl mkl_len), trivial⟩) rfl (entl_new (use_own rfl) rfl (Nat.le_of_eq mkl_len) (rcs_int (fun _ hj => col_mkl (fun (t : Int) => t) hj) rcs_nil) (entl_bor (use_lo rfl) rfl rfl entl_nil))
theorem a46 (ng : Bool) (ap np mp : Nat) (tp : Nat → Int) {r : Rt46} (h : Goes ((q46 ng ap np mp tp)) ((p46 ng ap np mp tp)) r) : CallR Tryd.prog 46 [.bool ng, .loose ⟨0, 1, ap, 0⟩ np] [[(0, (false, .cols mp [.int .i64 tp]))]] 1 ((V46 ng ap np mp tp) r) ((fun r => [newL (1 + 1) ((N46 ng ap np mp tp) r) ++ [(0, (false, .cols mp [.int .i64 tp]))]]) r) 400 ∧ ∃ F, Tryd.prog.funcs[46]? = some F ∧ F.body.isSome = true ∧ (F.name == "runtime.NumGoroutine") = false := by
  refine dec_calls (f := 46) (lo := 1) (hi := 400) (H := [[(0, (false, .cols mp [.int .i64 tp]))]]) (args := [.bool ng, .loose ⟨0, 1, ap, 0⟩ np]) Tryd.envOk Tryd.mixed xB0_ok ((I46 ng ap np mp tp)) ((V46 ng ap np mp tp)) (fun r => [newL (1 + 1) ((N46 ng ap np mp tp) r) ++ [(0, (false, .cols mp [.int .i64 tp]))]]) (fn := mkFn Tryd.f46) (ts := []) (n := 400) rfl (by decide) (by simp) (names_of rfl) ?_ ?_ ?_ h
  · intro s; exact s.elim
  · intro Kst Kret x hS hR h
    exact Holds.eq (te46 cond Kst Kret ng ap np mp tp) (be46 ng ap np mp tp Kst Kret x hS hR h)
  · intro Kst Kret x hS hR s h; exact s.elim
noncomputable def k46  : Con := ⟨46, [.one (.plain (.bool)), .one (.list [.int .i64])], fun (x : Bool × (Nat × Nat × Nat × (Nat → Int) × Unit) × Unit) => (fun (ng : Bool) (ap np mp : Nat) (tp : Nat → Int) => decide (ap + np ≤ mp ∧ np ≤ 1000000 ∧ S.okD np (fun j => tp (j + ap)) = true)) x.1 x.2.1.1 x.2.1.2.1 x.2.1.2.2.1 x.2.1.2.2.2.1, fun (x : Bool × (Nat × Nat × Nat × (Nat → Int) × Unit) × Unit) => (fun (ng : Bool) (ap np mp : Nat) (tp : Nat → Int) => (V46 ng ap np mp tp) (S.sgB ng (S.val np (fun j => tp (j + ap))), S.grp (S.val np (fun j => tp (j + ap))))) x.1 x.2.1.1 x.2.1.2.1 x.2.1.2.2.1 x.2.1.2.2.2.1, fun (x : Bool × (Nat × Nat × Nat × (Nat → Int) × Unit) × Unit) => (fun (ng : Bool) (ap np mp : Nat) (tp : Nat → Int) => (N46 ng ap np mp tp) (S.sgB ng (S.val np (fun j => tp (j + ap))), S.grp (S.val np (fun j => tp (j + ap))))) x.1 x.2.1.1 x.2.1.2.1 x.2.1.2.2.1 x.2.1.2.2.2.1, fun _ _ => .dead⟩
theorem s46 (ng : Bool) (ap np mp : Nat) (tp : Nat → Int) (hp : ap + np ≤ mp ∧ np ≤ 1000000 ∧ S.okD np (fun j => tp (j + ap)) = true) : Goes ((q46 ng ap np mp tp)) ((p46 ng ap np mp tp)) ((S.sgB ng (S.val np (fun j => tp (j + ap))), S.grp (S.val np (fun j => tp (j + ap))))) := by
  obtain ⟨hp1, hp2, hp3⟩ := hp
  have e1 := trim_mk (n := np) (t := (fun j => tp (j + ap)))
  have hl : S.trimN np (fun j => tp (j + ap)) ≤ np := by
    have := (trim_take (L := S.mkl np (fun j => tp (j + ap)))).1
    rw [mkl_len] at this
    exact this
  have e2 : (0 < S.trimN np (fun j => tp (j + ap))) ↔ 0 < S.val np (fun j => tp (j + ap)) := by
    unfold S.trimN
    rw [trim_mkl hp3]
    constructor
    · intro h
      refine Int.not_le.mp fun h2 => ?_
      rw [grp_neg h2] at h
      exact absurd h (by simp)
    · exact len_pos
  rw [← trim_mkl hp3, ← e1]
  generalize S.val np (fun j => tp (j + ap)) = v at *
  unfold S.sgB
  unfold p46
  rw [Nat.zero_add]
  generalize S.trimN np (fun j => tp (j + ap)) = k at *
  by_cases hk : 0 < k
  · rw [decide_eq_true (e2.mp hk)]
    cases ng
    repeat' first
      | with_reducible refine goes_if (fun h => ?_) (fun h => ?_) <;> (try simp only [SH] at h)
      | exact goes_none.mpr (by omega)
    all_goals first | (exfalso; omega) | exact goes_inr.mpr rfl | simp at *
  · rw [decide_eq_false (fun h => hk (e2.mpr h))]
    cases ng
    repeat' first
      | with_reducible refine goes_if (fun h => ?_) (fun h => ?_) <;> (try simp only [SH] at h)
      | exact goes_none.mpr (by omega)
    all_goals first | (exfalso; omega) | exact goes_inr.mpr rfl | simp at *
theorem k46_ok  : k46.ok Tryd.prog := by
  intro x hx
  obtain ⟨ng, ⟨ap, np, mp, tp, _⟩, _⟩ := x
  obtain ⟨h1, h2⟩ := a46 ng ap np mp tp (s46 ng ap np mp tp (of_dec hx rfl))
  exact ⟨⟨400, (by decide : 1 + 1 + 1 ≤ 400), h1⟩, h2⟩
namespace S
def okI (ng : Bool) (n : Nat) (t : Nat → Int) : Bool := decide (n ≤ 80) && (okG n t && (decide (0 < n) || !ng))
def sv (ng : Bool) (v : Int) : Int := bif ng then -v else v
def bigI (v : Int) : Bool × List Int := (decide (v < 0), grp (v.natAbs : Int))
end S
theorem okI_iff  {ng : Bool} {n : Nat} {t : Nat → Int} : S.okI ng n t = true ↔ n ≤ 80 ∧ S.okG n t = true ∧ (0 < n ∨ ng = false) := by
  unfold S.okI
  rw [Bool.and_eq_true, Bool.and_eq_true, Bool.or_eq_true, decide_eq_true_eq, decide_eq_true_eq, Bool.not_eq_true']
inductive St18 where
  | h0 (x0 : Int)
abbrev Rt18  := Bool
noncomputable def V18 (ng : Bool) (ap np mp : Nat) (tp : Nat → Int) (r : Rt18) : PV := PV.bool r
noncomputable def N18 (ng : Bool) (ap np mp : Nat) (tp : Nat → Int) (r : Rt18) : List Blk := []
noncomputable def I18 (ng : Bool) (ap np mp : Nat) (tp : Nat → Int) : St18 → Hd
  | .h0 x0 => ⟨hd Tryd.f18 0, [PV.ptr (PA.mk (1) (0) (0) (0)),
 PV.loose (PA.mk (0) (1) ap (0)) np, PV.int IntKind.i64 (↑np : Int),
 PV.int IntKind.i64 x0], [[(1, (true, Blk.cells [PV.bool ng, PV.loose (PA.mk (0) (1) ap (0)) np]))], [(0, (false, .cols mp [.int .i64 tp]))]], 2⟩
noncomputable def q18 (ng : Bool) (ap np mp : Nat) (tp : Nat → Int) : St18 → Option (St18 ⊕ Rt18)
  | .h0 x0 => bif (decide (x0 < (↑np : Int)))
 then (bif (decide ((0 : Int) ≤ x0 ∧ x0 < (↑np : Int)))
 then (bif (decide (Int.toNat x0 + ap < mp))
 then (bif (decide (tp (Int.toNat x0 + ap) < (0 : Int)))
 then (some (.inr (false)))
 else (bif (decide (tp (Int.toNat x0 + ap) ≥ (1000000 : Int)))
 then (some (.inr (false)))
 else (bif (lim IntKind.i64 (x0 + (1 : Int)))
 then (some (.inl (.h0 (x0 + (1 : Int)))))
 else (none))))
 else (none))
 else (none))
 else (bif ((↑np : Int) == (0 : Int))
 then (bif (ng)
 then (some (.inr (false)))
 else (some (.inr (true))))
 else (bif (lim IntKind.i64 ((↑np : Int) - (1 : Int)))
 then (bif (decide ((0 : Int) ≤ (↑np : Int) - (1 : Int) ∧ (↑np : Int) - (1 : Int) < (↑np : Int)))
 then (bif (decide (Int.toNat ((↑np : Int) - (1 : Int)) + ap < mp))
 then (bif (tp (Int.toNat ((↑np : Int) - (1 : Int)) + ap) != (0 : Int))
 then (some (.inr (true)))
 else (some (.inr (false))))
 else (none))
 else (none))
 else (none)))
noncomputable def p18 (ng : Bool) (ap np mp : Nat) (tp : Nat → Int) : Option (St18 ⊕ Rt18) := bif (decide ((↑np : Int) > (80 : Int)))
 then (some (.inr (false)))
 else (some (.inl (.h0 ((0 : Int)))))
noncomputable def Te18 (test : Bool → Prop → Prop → Prop) (Kst : KS) (Kret : KR) (ng : Bool) (ap np mp : Nat) (tp : Nat → Int) : Prop :=
  test (decide ((↑np : Int) > (80 : Int)))
 (Kret (PV.tf false) ([[(0, false, Blk.cols mp [Col.int IntKind.i64 tp])]]) (2))
 (Kst (hd Tryd.f18 0) ([PV.ptr (PA.mk (1) (0) (0) (0)),
 PV.loose (PA.mk (0) (1) ap (0)) np, PV.int IntKind.i64 (↑np : Int),
 PV.int IntKind.i64 (0 : Int)]) ([[(0, false, Blk.cols mp [Col.int IntKind.i64 tp]),
 (1, true,
 Blk.cells [PV.bool ng, PV.loose (PA.mk (0) (1) ap (0)) np])]]) (2))
theorem te18 (test : Bool → Prop → Prop → Prop) (Kst : KS) (Kret : KR) (ng : Bool) (ap np mp : Nat) (tp : Nat → Int) : run test Tryd.env true noX true 400 ⟨18, [.cd (mkFn Tryd.f18).body], argT 0 [.agg [.bool ng, .loose ⟨0, 1, ap, 0⟩ np]], [[], [(0, (false, .cols mp [.int .i64 tp]))]], 1⟩ (proj 1 [1, 10, 11, 12] Kst Kret) =
  Te18 test Kst Kret ng ap np mp tp := by kernel_rfl
noncomputable def T18_0 (test : Bool → Prop → Prop → Prop) (Kst : KS) (Kret : KR) (ng : Bool) (ap np mp : Nat) (tp : Nat → Int) (x0 : Int) : Prop :=
  test (decide (x0 < (↑np : Int)))
 (test (decide ((0 : Int) ≤ x0 ∧ x0 < (↑np : Int)))
 (test (decide (Int.toNat x0 + ap < mp))
 (test (decide (tp (Int.toNat x0 + ap) < (0 : Int)))
 (Kret (PV.tf false) ([[(0, false, Blk.cols mp [Col.int IntKind.i64 tp])]]) (2))
 (test (decide (tp (Int.toNat x0 + ap) ≥ (1000000 : Int)))
 (Kret (PV.tf false) ([[(0, false, Blk.cols mp [Col.int IntKind.i64 tp])]]) (2))
 (test (lim IntKind.i64 (x0 + (1 : Int)))
 (Kst (hd Tryd.f18 0) ([PV.ptr (PA.mk (1) (0) (0) (0)),
 PV.loose (PA.mk (0) (1) ap (0)) np, PV.int IntKind.i64 (↑np : Int),
 PV.int IntKind.i64 (x0 + (1 : Int))]) ([[(0, false, Blk.cols mp [Col.int IntKind.i64 tp]),
 (1, true,
 Blk.cells [PV.bool ng, PV.loose (PA.mk (0) (1) ap (0)) np])]]) (2))
 (False))))
 (False))
 (False))
 (test ((↑np : Int) == (0 : Int))
 (test (ng)
 (Kret (PV.tf false) ([[(0, false, Blk.cols mp [Col.int IntKind.i64 tp])]]) (2))
 (Kret (PV.tf true) ([[(0, false, Blk.cols mp [Col.int IntKind.i64 tp])]]) (2)))
 (test (lim IntKind.i64 ((↑np : Int) - (1 : Int)))
 (test (decide ((0 : Int) ≤ (↑np : Int) - (1 : Int) ∧ (↑np : Int) - (1 : Int) < (↑np : Int)))
 (test (decide (Int.toNat ((↑np : Int) - (1 : Int)) + ap < mp))
 (test (tp (Int.toNat ((↑np : Int) - (1 : Int)) + ap) != (0 : Int))
 (Kret (PV.tf true) ([[(0, false, Blk.cols mp [Col.int IntKind.i64 tp])]]) (2))
 (Kret (PV.tf false) ([[(0, false, Blk.cols mp [Col.int IntKind.i64 tp])]]) (2)))
 (False))
 (False))
 (False)))
theorem t18_0 (test : Bool → Prop → Prop → Prop) (Kst : KS) (Kret : KR) (ng : Bool) (ap np mp : Nat) (tp : Nat → Int) (x0 : Int) : run test Tryd.env true noX true 400 ⟨18, hd Tryd.f18 0, zipT [1, 10, 11, 12] [PV.ptr (PA.mk (1) (0) (0) (0)),
 PV.loose (PA.mk (0) (1) ap (0)) np, PV.int IntKind.i64 (↑np : Int),
 PV.int IntKind.i64 x0], [[(1, (true, Blk.cells [PV.bool ng, PV.loose (PA.mk (0) (1) ap (0)) np]))], [(0, (false, .cols mp [.int .i64 tp]))]], 2⟩ (proj 1 [1, 10, 11, 12] Kst Kret) =
  T18_0 test Kst Kret ng ap np mp tp x0 := by kernel_rfl
attribute [local irreducible] Int.subNatNat in
theorem be18 (ng : Bool) (ap np mp : Nat) (tp : Nat → Int) (Kst : KS) (Kret : KR) (x : St18 ⊕ Rt18) (hS : HS 1 400 ((I18 ng ap np mp tp)) Kst x) (hR : HR 1 400 ((V18 ng ap np mp tp)) (fun r => [newL (1 + 1) ((N18 ng ap np mp tp) r) ++ [(0, (false, .cols mp [.int .i64 tp]))]]) Kret x) (h : p18 ng ap np mp tp = some x) : Te18 cond Kst Kret ng ap np mp tp := by
  unfold Te18
  unfold p18 at h
  refine bif_split h
   (fun c0 h => ret_at hR _ h (fun n => n) rfl rfl rfl (rn_bool_tf rfl) rfl (entl_bor (use_lo rfl) rfl rfl entl_nil))
   (fun c0 h => stop_at hS _ h (fun n => bif Nat.beq n 1 then 1 else n) rfl rfl rfl ⟨(rn_ptr (use_own rfl) rfl rfl), ⟨(rn_loose (use_lo rfl) rfl rfl rfl), ⟨(rn_int rfl), ⟨(rn_int rfl), trivial⟩⟩⟩⟩ rfl (entl_b (use_own rfl) rfl (by simp) (rb_cells ⟨(rn_bool rfl), (rn_loose (use_lo rfl) rfl rfl rfl), trivial⟩) (entl_bor (use_lo rfl) rfl rfl entl_nil)))
attribute [local irreducible] Int.subNatNat in
theorem b18_0 (ng : Bool) (ap np mp : Nat) (tp : Nat → Int) (Kst : KS) (Kret : KR) (x : St18 ⊕ Rt18) (hS : HS 1 400 ((I18 ng ap np mp tp)) Kst x) (hR : HR 1 400 ((V18 ng ap np mp tp)) (fun r => [newL (1 + 1) ((N18 ng ap np mp tp) r) ++ [(0, (false, .cols mp [.int .i64 tp]))]]) Kret x) (x0 : Int) (h : (bif (decide (x0 < (↑np : Int)))
 then (bif (decide ((0 : Int) ≤ x0 ∧ x0 < (↑np : Int)))
 then (bif (decide (Int.toNat x0 + ap < mp))
 then (bif (decide (tp (Int.toNat x0 + ap) < (0 : Int)))
 then (some (.inr (false)))
 else (bif (decide (tp (Int.toNat x0 + ap) ≥ (1000000 : Int)))
 then (some (.inr (false)))
 else (bif (lim IntKind.i64 (x0 + (1 : Int)))
 then (some (.inl (.h0 (x0 + (1 : Int)))))
 else (none))))
 else (none))
 else (none))
 else (bif ((↑np : Int) == (0 : Int))
 then (bif (ng)
 then (some (.inr (false)))
 else (some (.inr (true))))
 else (bif (lim IntKind.i64 ((↑np : Int) - (1 : Int)))
 then (bif (decide ((0 : Int) ≤ (↑np : Int) - (1 : Int) ∧ (↑np : Int) - (1 : Int) < (↑np : Int)))
 then (bif (decide (Int.toNat ((↑np : Int) - (1 : Int)) + ap < mp))
 then (bif (tp (Int.toNat ((↑np : Int) - (1 : Int)) + ap) != (0 : Int))
 then (some (.inr (true)))
 else (some (.inr (false))))
 else (none))
 else (none))
 else (none))) : Option (St18 ⊕ Rt18)) = some x) : T18_0 cond Kst Kret ng ap np mp tp x0 := by
  unfold T18_0
  refine bif_split h
   (fun c0 h => bif_split h
   (fun c1 h => bif_split h
   (fun c2 h => bif_split h
   (fun c3 h => ?_)
   (fun c3 h => bif_split h
   (fun c4 h => ?_)
   (fun c4 h => bif_split h
   (fun c5 h => stop_at hS _ h (fun n => bif Nat.beq n 1 then 1 else n) rfl rfl rfl ⟨(rn_ptr (use_own rfl) rfl rfl), ⟨(rn_loose (use_lo rfl) rfl rfl rfl), ⟨(rn_int rfl), ⟨(rn_int rfl), trivial⟩⟩⟩⟩ rfl (entl_b (use_own rfl) rfl (by simp) (rb_cells ⟨(rn_bool rfl), (rn_loose (use_lo rfl) rfl rfl rfl), trivial⟩) (entl_bor (use_lo rfl) rfl rfl entl_nil)))
   (fun c5 h => ?_))))
   (fun c2 h => ?_))
   (fun c1 h => ?_))
   (fun c0 h => bif_split h
   (fun c1 h => bif_split h
   (fun c2 h => ?_)
   (fun c2 h => ?_))
   (fun c1 h => bif_split h
   (fun c2 h => bif_split h
   (fun c3 h => bif_split h
   (fun c4 h => bif_split h
   (fun c5 h => ?_)
   (fun c5 h => ?_))
   (fun c4 h => ?_))
   (fun c3 h => ?_))
   (fun c2 h => ?_)))
  all_goals first
    | exact ret_at hR _ h (fun n => n) rfl rfl rfl (rn_bool_tf rfl) rfl (entl_bor (use_lo rfl) rfl rfl entl_nil)
    | exact no_some h
theorem a18 (ng : Bool) (ap np mp : Nat) (tp : Nat → Int) {r : Rt18} (h : Goes ((q18 ng ap np mp tp)) ((p18 ng ap np mp tp)) r) : CallR Tryd.prog 18 [.agg [.bool ng, .loose ⟨0, 1, ap, 0⟩ np]] [[(0, (false, .cols mp [.int .i64 tp]))]] 1 ((V18 ng ap np mp tp) r) ((fun r => [newL (1 + 1) ((N18 ng ap np mp tp) r) ++ [(0, (false, .cols mp [.int .i64 tp]))]]) r) 400 ∧ ∃ F, Tryd.prog.funcs[18]? = some F ∧ F.body.isSome = true ∧ (F.name == "runtime.NumGoroutine") = false := by
  refine dec_calls (f := 18) (lo := 1) (hi := 400) (H := [[(0, (false, .cols mp [.int .i64 tp]))]]) (args := [.agg [.bool ng, .loose ⟨0, 1, ap, 0⟩ np]]) Tryd.envOk Tryd.mixed noX_ok ((I18 ng ap np mp tp)) ((V18 ng ap np mp tp)) (fun r => [newL (1 + 1) ((N18 ng ap np mp tp) r) ++ [(0, (false, .cols mp [.int .i64 tp]))]]) (fn := mkFn Tryd.f18) (ts := [1, 10, 11, 12]) (n := 400) rfl (by decide) (by simp) (names_of rfl) ?_ ?_ ?_ h
  · intro s; cases s <;> exact ⟨hd_ok _ _, by simp [I18], names_of rfl, Nat.le_of_ble_eq_true rfl⟩
  · intro Kst Kret x hS hR h
    exact Holds.eq (te18 cond Kst Kret ng ap np mp tp) (be18 ng ap np mp tp Kst Kret x hS hR h)
  · intro Kst Kret x hS hR s h
    cases s with
    | h0 x0 => exact Holds.eq (t18_0 cond Kst Kret ng ap np mp tp x0) (b18_0 ng ap np mp tp Kst Kret x hS hR x0 h)
noncomputable def k18  : Con := ⟨18, [.agg [.plain (.bool), .list [.int .i64]]], fun (x : (Bool × (Nat × Nat × Nat × (Nat → Int) × Unit) × Unit) × Unit) => (fun (ng : Bool) (ap np mp : Nat) (tp : Nat → Int) => decide (ap + np ≤ mp ∧ np ≤ 1000000)) x.1.1 x.1.2.1.1 x.1.2.1.2.1 x.1.2.1.2.2.1 x.1.2.1.2.2.2.1, fun (x : (Bool × (Nat × Nat × Nat × (Nat → Int) × Unit) × Unit) × Unit) => (fun (ng : Bool) (ap np mp : Nat) (tp : Nat → Int) => (V18 ng ap np mp tp) (S.okI ng np (fun j => tp (j + ap)))) x.1.1 x.1.2.1.1 x.1.2.1.2.1 x.1.2.1.2.2.1 x.1.2.1.2.2.2.1, fun (x : (Bool × (Nat × Nat × Nat × (Nat → Int) × Unit) × Unit) × Unit) => (fun (ng : Bool) (ap np mp : Nat) (tp : Nat → Int) => (N18 ng ap np mp tp) (S.okI ng np (fun j => tp (j + ap)))) x.1.1 x.1.2.1.1 x.1.2.1.2.1 x.1.2.1.2.2.1 x.1.2.1.2.2.2.1, fun _ _ => .dead⟩
theorem s18' (ng : Bool) (ap np mp : Nat) (tp : Nat → Int) (hp : ap + np ≤ mp ∧ np ≤ 1000000) (hn : np ≤ 80)  : ∀ (k i : Nat), i + k = np → (∀ j, j < i → 0 ≤ tp (j + ap) ∧ tp (j + ap) < 1000000) → Comes (q18 ng ap np mp tp) (.h0 (i : Int)) (S.okI ng np (fun j => tp (j + ap))) := by
  obtain ⟨hp1, hp2⟩ := hp
  intro k
  induction k with
  | zero =>
    intro i hi hj
    obtain rfl : np = i := by omega
    have hG : S.okG np (fun j => tp (j + ap)) = true ↔ (np = 0 ∨ tp (np - 1 + ap) ≠ 0) := by
      rw [okG_iff]
      exact ⟨fun h => h.2, fun h => ⟨hj, h⟩⟩
    have hI := okI_iff (ng := ng) (n := np) (t := (fun j => tp (j + ap)))
    rw [hG] at hI
    have e1 : ((np : Int) - 1).toNat = np - 1 := by omega
    generalize S.okI ng np (fun j => tp (j + ap)) = R at *
    have hR : (np ≤ 80 ∧ (np = 0 ∨ tp (np - 1 + ap) ≠ 0) ∧ (0 < np ∨ ng = false)) → true = R := fun h => (hI.mpr h).symm
    have hR' : ¬ (np ≤ 80 ∧ (np = 0 ∨ tp (np - 1 + ap) ≠ 0) ∧ (0 < np ∨ ng = false)) → false = R := fun h => by cases R; rfl; exact absurd (hI.mp rfl) h
    cases ng
    · apply Comes.of
      show Goes _ _ _
      (first | rw [q18] | unfold q18)
      repeat' first
        | with_reducible refine goes_if (fun h => ?_) (fun h => ?_) <;> (try simp only [SH, e1] at h)
        | exact goes_none.mpr (by omega)
      all_goals first
        | (exfalso; omega)
        | (refine goes_inr.mpr (hR ⟨by omega, by omega, ?_⟩); first | exact .inr rfl | (left; omega) | (left; rcases Nat.eq_zero_or_pos np with h | h <;> first | exact h | exact absurd (hl.1 h) (by decide)))
        | (refine goes_inr.mpr (hR' ?_); intro hx; first | (exact absurd hx.2.2 (by simp; omega)) | omega | (have h3 := hx.2.1; omega))
        | (exfalso; simp at *; done)
    · apply Comes.of
      show Goes _ _ _
      (first | rw [q18] | unfold q18)
      repeat' first
        | with_reducible refine goes_if (fun h => ?_) (fun h => ?_) <;> (try simp only [SH, e1] at h)
        | exact goes_none.mpr (by omega)
      all_goals first
        | (exfalso; omega)
        | (refine goes_inr.mpr (hR ⟨by omega, by omega, ?_⟩); first | exact .inr rfl | (left; omega) | (left; rcases Nat.eq_zero_or_pos np with h | h <;> first | exact h | exact absurd (hl.1 h) (by decide)))
        | (refine goes_inr.mpr (hR' ?_); intro hx; first | (exact absurd hx.2.2 (by simp; omega)) | omega | (have h3 := hx.2.1; omega))
        | (exfalso; simp at *; done)
  | succ k ih =>
    intro i hi hj
    by_cases hc : 0 ≤ tp (i + ap) ∧ tp (i + ap) < 1000000
    · have ih := ih (i + 1) (by omega) (fun j hlt => by
        rcases Nat.lt_or_eq_of_le (Nat.le_of_lt_succ hlt) with h2 | h2
        · exact hj j h2
        · subst h2; exact hc)
      apply Comes.of
      show Goes _ _ _
      (first | rw [q18] | unfold q18)
      repeat' first
        | with_reducible refine goes_if (fun h => ?_) (fun h => ?_) <;> (try simp only [SH] at h)
        | exact goes_none.mpr (by omega)
      all_goals first | (exfalso; omega) | exact ih
    · have hR : S.okI ng np (fun j => tp (j + ap)) = false := by
        rw [Bool.eq_false_iff]
        intro h
        exact hc ((okG_iff.mp (okI_iff.mp h).2.1).1 i (by omega))
      rw [hR]
      apply Comes.of
      show Goes _ _ _
      (first | rw [q18] | unfold q18)
      repeat' first
        | with_reducible refine goes_if (fun h => ?_) (fun h => ?_) <;> (try simp only [SH] at h)
        | exact goes_none.mpr (by omega)
      all_goals first | (exfalso; omega) | exact goes_inr.mpr rfl
theorem s18 (ng : Bool) (ap np mp : Nat) (tp : Nat → Int) (hp : ap + np ≤ mp ∧ np ≤ 1000000) : Goes ((q18 ng ap np mp tp)) ((p18 ng ap np mp tp)) (S.okI ng np (fun j => tp (j + ap))) := by
  have hI := okI_iff (ng := ng) (n := np) (t := (fun j => tp (j + ap)))
  rw [okG_iff] at hI
  by_cases hn : np ≤ 80
  · skip
    have hm := s18' ng ap np mp tp hp hn np 0 (by omega) (fun j hj => absurd hj (Nat.not_lt_zero j))
    skip
    have hR' : ¬ ((np = 0 ∨ tp (np - 1 + ap) ≠ 0) ∧ (0 < np ∨ ng = false)) → false = S.okI ng np (fun j => tp (j + ap)) := fun h => by
      cases hx : S.okI ng np (fun j => tp (j + ap))
      · rfl
      · exact absurd ⟨(hI.mp hx).2.1.2, (hI.mp hx).2.2⟩ h
    have e1 : ((np : Int) - 1).toNat = np - 1 := by omega
    generalize S.okI ng np (fun j => tp (j + ap)) = R at *
    obtain ⟨hp1, hp2⟩ := hp
    cases ng
    · skip
      show Goes _ _ _
      unfold p18
      repeat' first
        | with_reducible refine goes_if (fun h => ?_) (fun h => ?_) <;> (try simp only [SH, e1] at h)
        | exact goes_none.mpr (by omega)
      all_goals first
        | (exfalso; omega)
        | exact hm
        | exact hm ⟨fun _ => rfl, fun h => by omega⟩
        | (refine goes_inr.mpr (hR' ?_); intro hx; first | (exact absurd hx.2 (by simp; omega)) | omega | (have h3 := hx.1; omega))
        | (exfalso; simp at *; done)
    · skip
      show Goes _ _ _
      unfold p18
      repeat' first
        | with_reducible refine goes_if (fun h => ?_) (fun h => ?_) <;> (try simp only [SH, e1] at h)
        | exact goes_none.mpr (by omega)
      all_goals first
        | (exfalso; omega)
        | exact hm
        | exact hm ⟨fun h => by omega, fun h => by omega⟩
        | (refine goes_inr.mpr (hR' ?_); intro hx; first | (exact absurd hx.2 (by simp; omega)) | omega | (have h3 := hx.1; omega))
        | (exfalso; simp at *; done)
  · have hR : S.okI ng np (fun j => tp (j + ap)) = false := by
      rw [Bool.eq_false_iff]
      intro h
      exact hn (hI.mp h).1
    rw [hR]
    show Goes _ _ _
    unfold p18
    repeat' first
      | with_reducible refine goes_if (fun h => ?_) (fun h => ?_) <;> (try simp only [SH] at h)
      | exact goes_none.mpr (by omega)
    all_goals first | (exfalso; omega) | exact goes_inr.mpr rfl
theorem k18_ok  : k18.ok Tryd.prog := by
  intro x hx
  obtain ⟨⟨ng, ⟨ap, np, mp, tp, _⟩, _⟩, _⟩ := x
  obtain ⟨h1, h2⟩ := a18 ng ap np mp tp (s18 ng ap np mp tp (of_dec hx rfl))
  exact ⟨⟨400, (by decide : 1 + 1 + 0 ≤ 400), h1⟩, h2⟩
inductive St19 where
  | h0 (x0 : Int)
abbrev Rt19  := Bool
noncomputable def V19 (ng : Bool) (ap np mp : Nat) (tp : Nat → Int) (r : Rt19) : PV := PV.bool r
noncomputable def N19 (ng : Bool) (ap np mp : Nat) (tp : Nat → Int) (r : Rt19) : List Blk := []
noncomputable def I19 (ng : Bool) (ap np mp : Nat) (tp : Nat → Int) : St19 → Hd
  | .h0 x0 => ⟨hd Tryd.f19 0, [PV.ptr (PA.mk (1) (0) (0) (0)), PV.int IntKind.i64 (↑np : Int),
 PV.int IntKind.i64 x0], [[(1, (true, Blk.cells [PV.bool ng, PV.loose (PA.mk (0) (1) ap (0)) np]))], [(0, (false, .cols mp [.int .i64 tp]))]], 2⟩
noncomputable def q19 (ng : Bool) (ap np mp : Nat) (tp : Nat → Int) : St19 → Option (St19 ⊕ Rt19)
  | .h0 x0 => bif (decide (x0 < (↑np : Int)))
 then (bif (decide ((0 : Int) ≤ x0 ∧ x0 < (↑np : Int)))
 then (bif (decide (Int.toNat x0 + ap < mp))
 then (bif (decide (tp (Int.toNat x0 + ap) < (0 : Int)))
 then (some (.inr (false)))
 else (bif (decide (tp (Int.toNat x0 + ap) ≥ (1000000 : Int)))
 then (some (.inr (false)))
 else (bif (lim IntKind.i64 (x0 + (1 : Int)))
 then (some (.inl (.h0 (x0 + (1 : Int)))))
 else (none))))
 else (none))
 else (none))
 else (some (.inr (true)))
noncomputable def p19 (ng : Bool) (ap np mp : Nat) (tp : Nat → Int) : Option (St19 ⊕ Rt19) := bif (decide ((↑np : Int) > (80 : Int)))
 then (some (.inr (false)))
 else (bif ((↑np : Int) == (0 : Int))
 then (bif (ng)
 then (some (.inr (false)))
 else (bif (decide ((↑np : Int) > (0 : Int)))
 then (bif (lim IntKind.i64 ((↑np : Int) - (1 : Int)))
 then (bif (decide ((0 : Int) ≤ (↑np : Int) - (1 : Int) ∧ (↑np : Int) - (1 : Int) < (↑np : Int)))
 then (bif (decide (Int.toNat ((↑np : Int) - (1 : Int)) + ap < mp))
 then (bif (tp (Int.toNat ((↑np : Int) - (1 : Int)) + ap) == (0 : Int))
 then (some (.inr (false)))
 else (some (.inl (.h0 ((0 : Int))))))
 else (none))
 else (none))
 else (none))
 else (some (.inl (.h0 ((0 : Int)))))))
 else (bif (decide ((↑np : Int) > (0 : Int)))
 then (bif (lim IntKind.i64 ((↑np : Int) - (1 : Int)))
 then (bif (decide ((0 : Int) ≤ (↑np : Int) - (1 : Int) ∧ (↑np : Int) - (1 : Int) < (↑np : Int)))
 then (bif (decide (Int.toNat ((↑np : Int) - (1 : Int)) + ap < mp))
 then (bif (tp (Int.toNat ((↑np : Int) - (1 : Int)) + ap) == (0 : Int))
 then (some (.inr (false)))
 else (some (.inl (.h0 ((0 : Int))))))
 else (none))
 else (none))
 else (none))
 else (some (.inl (.h0 ((0 : Int)))))))
noncomputable def Te19 (test : Bool → Prop → Prop → Prop) (Kst : KS) (Kret : KR) (ng : Bool) (ap np mp : Nat) (tp : Nat → Int) : Prop :=
  test (decide ((↑np : Int) > (80 : Int)))
 (Kret (PV.tf false) ([[(0, false, Blk.cols mp [Col.int IntKind.i64 tp])]]) (2))
 (test ((↑np : Int) == (0 : Int))
 (test (ng)
 (Kret (PV.tf false) ([[(0, false, Blk.cols mp [Col.int IntKind.i64 tp])]]) (2))
 (test (decide ((↑np : Int) > (0 : Int)))
 (test (lim IntKind.i64 ((↑np : Int) - (1 : Int)))
 (test (decide ((0 : Int) ≤ (↑np : Int) - (1 : Int) ∧ (↑np : Int) - (1 : Int) < (↑np : Int)))
 (test (decide (Int.toNat ((↑np : Int) - (1 : Int)) + ap < mp))
 (test (tp (Int.toNat ((↑np : Int) - (1 : Int)) + ap) == (0 : Int))
 (Kret (PV.tf false) ([[(0, false, Blk.cols mp [Col.int IntKind.i64 tp])]]) (2))
 (Kst (hd Tryd.f19 0) ([PV.ptr (PA.mk (1) (0) (0) (0)), PV.int IntKind.i64 (↑np : Int),
 PV.int IntKind.i64 (0 : Int)]) ([[(0, false, Blk.cols mp [Col.int IntKind.i64 tp]),
 (1, true,
 Blk.cells [PV.bool ng, PV.loose (PA.mk (0) (1) ap (0)) np])]]) (2)))
 (False))
 (False))
 (False))
 (Kst (hd Tryd.f19 0) ([PV.ptr (PA.mk (1) (0) (0) (0)), PV.int IntKind.i64 (↑np : Int),
 PV.int IntKind.i64 (0 : Int)]) ([[(0, false, Blk.cols mp [Col.int IntKind.i64 tp]),
 (1, true,
 Blk.cells [PV.bool ng, PV.loose (PA.mk (0) (1) ap (0)) np])]]) (2))))
 (test (decide ((↑np : Int) > (0 : Int)))
 (test (lim IntKind.i64 ((↑np : Int) - (1 : Int)))
 (test (decide ((0 : Int) ≤ (↑np : Int) - (1 : Int) ∧ (↑np : Int) - (1 : Int) < (↑np : Int)))
 (test (decide (Int.toNat ((↑np : Int) - (1 : Int)) + ap < mp))
 (test (tp (Int.toNat ((↑np : Int) - (1 : Int)) + ap) == (0 : Int))
 (Kret (PV.tf false) ([[(0, false, Blk.cols mp [Col.int IntKind.i64 tp])]]) (2))
 (Kst (hd Tryd.f19 0) ([PV.ptr (PA.mk (1) (0) (0) (0)), PV.int IntKind.i64 (↑np : Int),
 PV.int IntKind.i64 (0 : Int)]) ([[(0, false, Blk.cols mp [Col.int IntKind.i64 tp]),
 (1, true,
 Blk.cells [PV.bool ng, PV.loose (PA.mk (0) (1) ap (0)) np])]]) (2)))
 (False))
 (False))
 (False))
 (Kst (hd Tryd.f19 0) ([PV.ptr (PA.mk (1) (0) (0) (0)), PV.int IntKind.i64 (↑np : Int),
 PV.int IntKind.i64 (0 : Int)]) ([[(0, false, Blk.cols mp [Col.int IntKind.i64 tp]),
 (1, true,
 Blk.cells [PV.bool ng, PV.loose (PA.mk (0) (1) ap (0)) np])]]) (2))))
theorem te19 (test : Bool → Prop → Prop → Prop) (Kst : KS) (Kret : KR) (ng : Bool) (ap np mp : Nat) (tp : Nat → Int) : run test Tryd.env true noX true 400 ⟨19, [.cd (mkFn Tryd.f19).body], argT 0 [.agg [.bool ng, .loose ⟨0, 1, ap, 0⟩ np]], [[], [(0, (false, .cols mp [.int .i64 tp]))]], 1⟩ (proj 1 [1, 3, 4] Kst Kret) =
  Te19 test Kst Kret ng ap np mp tp := by kernel_rfl
noncomputable def T19_0 (test : Bool → Prop → Prop → Prop) (Kst : KS) (Kret : KR) (ng : Bool) (ap np mp : Nat) (tp : Nat → Int) (x0 : Int) : Prop :=
  test (decide (x0 < (↑np : Int)))
 (test (decide ((0 : Int) ≤ x0 ∧ x0 < (↑np : Int)))
 (test (decide (Int.toNat x0 + ap < mp))
 (test (decide (tp (Int.toNat x0 + ap) < (0 : Int)))
 (Kret (PV.tf false) ([[(0, false, Blk.cols mp [Col.int IntKind.i64 tp])]]) (2))
 (test (decide ((0 : Int) ≤ x0 ∧ x0 < (↑np : Int)))
 (test (decide (Int.toNat x0 + ap < mp))
 (test (decide (tp (Int.toNat x0 + ap) ≥ (1000000 : Int)))
 (Kret (PV.tf false) ([[(0, false, Blk.cols mp [Col.int IntKind.i64 tp])]]) (2))
 (test (lim IntKind.i64 (x0 + (1 : Int)))
 (Kst (hd Tryd.f19 0) ([PV.ptr (PA.mk (1) (0) (0) (0)), PV.int IntKind.i64 (↑np : Int),
 PV.int IntKind.i64 (x0 + (1 : Int))]) ([[(0, false, Blk.cols mp [Col.int IntKind.i64 tp]),
 (1, true,
 Blk.cells [PV.bool ng, PV.loose (PA.mk (0) (1) ap (0)) np])]]) (2))
 (False)))
 (False))
 (False)))
 (False))
 (False))
 (Kret (PV.tf true) ([[(0, false, Blk.cols mp [Col.int IntKind.i64 tp])]]) (2))
theorem t19_0 (test : Bool → Prop → Prop → Prop) (Kst : KS) (Kret : KR) (ng : Bool) (ap np mp : Nat) (tp : Nat → Int) (x0 : Int) : run test Tryd.env true noX true 400 ⟨19, hd Tryd.f19 0, zipT [1, 3, 4] [PV.ptr (PA.mk (1) (0) (0) (0)), PV.int IntKind.i64 (↑np : Int),
 PV.int IntKind.i64 x0], [[(1, (true, Blk.cells [PV.bool ng, PV.loose (PA.mk (0) (1) ap (0)) np]))], [(0, (false, .cols mp [.int .i64 tp]))]], 2⟩ (proj 1 [1, 3, 4] Kst Kret) =
  T19_0 test Kst Kret ng ap np mp tp x0 := by kernel_rfl
attribute [local irreducible] Int.subNatNat in
theorem be19 (ng : Bool) (ap np mp : Nat) (tp : Nat → Int) (Kst : KS) (Kret : KR) (x : St19 ⊕ Rt19) (hS : HS 1 400 ((I19 ng ap np mp tp)) Kst x) (hR : HR 1 400 ((V19 ng ap np mp tp)) (fun r => [newL (1 + 1) ((N19 ng ap np mp tp) r) ++ [(0, (false, .cols mp [.int .i64 tp]))]]) Kret x) (h : p19 ng ap np mp tp = some x) : Te19 cond Kst Kret ng ap np mp tp := by
  unfold Te19
  unfold p19 at h
  refine bif_split h
   (fun c0 h => ?_)
   (fun c0 h => bif_split h
   (fun c1 h => bif_split h
   (fun c2 h => ?_)
   (fun c2 h => bif_split h
   (fun c3 h => bif_split h
   (fun c4 h => bif_split h
   (fun c5 h => bif_split h
   (fun c6 h => bif_split h
   (fun c7 h => ?_)
   (fun c7 h => ?_))
   (fun c6 h => ?_))
   (fun c5 h => ?_))
   (fun c4 h => ?_))
   (fun c3 h => ?_)))
   (fun c1 h => bif_split h
   (fun c2 h => bif_split h
   (fun c3 h => bif_split h
   (fun c4 h => bif_split h
   (fun c5 h => bif_split h
   (fun c6 h => ?_)
   (fun c6 h => ?_))
   (fun c5 h => ?_))
   (fun c4 h => ?_))
   (fun c3 h => ?_))
   (fun c2 h => ?_)))
  all_goals first
    | exact no_some h
    | exact ret_at hR _ h (fun n => n) rfl rfl rfl (rn_bool_tf rfl) rfl (entl_bor (use_lo rfl) rfl rfl entl_nil)
    | exact stop_at hS _ h (fun n => bif Nat.beq n 1 then 1 else n) rfl rfl rfl ⟨(rn_ptr (use_own rfl) rfl rfl), ⟨(rn_int rfl), ⟨(rn_int rfl), trivial⟩⟩⟩ rfl (entl_b (use_own rfl) rfl (by simp) (rb_cells ⟨(rn_bool rfl), (rn_loose (use_lo rfl) rfl rfl rfl), trivial⟩) (entl_bor (use_lo rfl) rfl rfl entl_nil))
attribute [local irreducible] Int.subNatNat in
theorem b19_0 (ng : Bool) (ap np mp : Nat) (tp : Nat → Int) (Kst : KS) (Kret : KR) (x : St19 ⊕ Rt19) (hS : HS 1 400 ((I19 ng ap np mp tp)) Kst x) (hR : HR 1 400 ((V19 ng ap np mp tp)) (fun r => [newL (1 + 1) ((N19 ng ap np mp tp) r) ++ [(0, (false, .cols mp [.int .i64 tp]))]]) Kret x) (x0 : Int) (h : (bif (decide (x0 < (↑np : Int)))
 then (bif (decide ((0 : Int) ≤ x0 ∧ x0 < (↑np : Int)))
 then (bif (decide (Int.toNat x0 + ap < mp))
 then (bif (decide (tp (Int.toNat x0 + ap) < (0 : Int)))
 then (some (.inr (false)))
 else (bif (decide (tp (Int.toNat x0 + ap) ≥ (1000000 : Int)))
 then (some (.inr (false)))
 else (bif (lim IntKind.i64 (x0 + (1 : Int)))
 then (some (.inl (.h0 (x0 + (1 : Int)))))
 else (none))))
 else (none))
 else (none))
 else (some (.inr (true))) : Option (St19 ⊕ Rt19)) = some x) : T19_0 cond Kst Kret ng ap np mp tp x0 := by
  unfold T19_0
  exact bif_split h
   (fun c0 h => bif_split h
   (fun c1 h => bif_split h
   (fun c2 h => bif_split h
   (fun c3 h => ret_at hR _ h (fun n => n) rfl rfl rfl (rn_bool_tf rfl) rfl (entl_bor (use_lo rfl) rfl rfl entl_nil))
   (fun c3 h => cond_yes c1 (cond_yes c2 (bif_split h
   (fun c4 h => ret_at hR _ h (fun n => n) rfl rfl rfl (rn_bool_tf rfl) rfl (entl_bor (use_lo rfl) rfl rfl entl_nil))
   (fun c4 h => bif_split h
   (fun c5 h => stop_at hS _ h (fun n => bif Nat.beq n 1 then 1 else n) rfl rfl rfl ⟨(rn_ptr (use_own rfl) rfl rfl), ⟨(rn_int rfl), ⟨(rn_int rfl), trivial⟩⟩⟩ rfl (entl_b (use_own rfl) rfl (by simp) (rb_cells ⟨(rn_bool rfl), (rn_loose (use_lo rfl) rfl rfl rfl), trivial⟩) (entl_bor (use_lo rfl) rfl rfl entl_nil)))
   (fun c5 h => no_some h))))))
   (fun c2 h => no_some h))
   (fun c1 h => no_some h))
   (fun c0 h => ret_at hR _ h (fun n => n) rfl rfl rfl (rn_bool_tf rfl) rfl (entl_bor (use_lo rfl) rfl rfl entl_nil))
theorem a19 (ng : Bool) (ap np mp : Nat) (tp : Nat → Int) {r : Rt19} (h : Goes ((q19 ng ap np mp tp)) ((p19 ng ap np mp tp)) r) : CallR Tryd.prog 19 [.agg [.bool ng, .loose ⟨0, 1, ap, 0⟩ np]] [[(0, (false, .cols mp [.int .i64 tp]))]] 1 ((V19 ng ap np mp tp) r) ((fun r => [newL (1 + 1) ((N19 ng ap np mp tp) r) ++ [(0, (false, .cols mp [.int .i64 tp]))]]) r) 400 ∧ ∃ F, Tryd.prog.funcs[19]? = some F ∧ F.body.isSome = true ∧ (F.name == "runtime.NumGoroutine") = false := by
  refine dec_calls (f := 19) (lo := 1) (hi := 400) (H := [[(0, (false, .cols mp [.int .i64 tp]))]]) (args := [.agg [.bool ng, .loose ⟨0, 1, ap, 0⟩ np]]) Tryd.envOk Tryd.mixed noX_ok ((I19 ng ap np mp tp)) ((V19 ng ap np mp tp)) (fun r => [newL (1 + 1) ((N19 ng ap np mp tp) r) ++ [(0, (false, .cols mp [.int .i64 tp]))]]) (fn := mkFn Tryd.f19) (ts := [1, 3, 4]) (n := 400) rfl (by decide) (by simp) (names_of rfl) ?_ ?_ ?_ h
  · intro s; cases s <;> exact ⟨hd_ok _ _, by simp [I19], names_of rfl, Nat.le_of_ble_eq_true rfl⟩
  · intro Kst Kret x hS hR h
    exact Holds.eq (te19 cond Kst Kret ng ap np mp tp) (be19 ng ap np mp tp Kst Kret x hS hR h)
  · intro Kst Kret x hS hR s h
    cases s with
    | h0 x0 => exact Holds.eq (t19_0 cond Kst Kret ng ap np mp tp x0) (b19_0 ng ap np mp tp Kst Kret x hS hR x0 h)
noncomputable def k19  : Con := ⟨19, [.agg [.plain (.bool), .list [.int .i64]]], fun (x : (Bool × (Nat × Nat × Nat × (Nat → Int) × Unit) × Unit) × Unit) => (fun (ng : Bool) (ap np mp : Nat) (tp : Nat → Int) => decide (ap + np ≤ mp ∧ np ≤ 1000000)) x.1.1 x.1.2.1.1 x.1.2.1.2.1 x.1.2.1.2.2.1 x.1.2.1.2.2.2.1, fun (x : (Bool × (Nat × Nat × Nat × (Nat → Int) × Unit) × Unit) × Unit) => (fun (ng : Bool) (ap np mp : Nat) (tp : Nat → Int) => (V19 ng ap np mp tp) (S.okI ng np (fun j => tp (j + ap)))) x.1.1 x.1.2.1.1 x.1.2.1.2.1 x.1.2.1.2.2.1 x.1.2.1.2.2.2.1, fun (x : (Bool × (Nat × Nat × Nat × (Nat → Int) × Unit) × Unit) × Unit) => (fun (ng : Bool) (ap np mp : Nat) (tp : Nat → Int) => (N19 ng ap np mp tp) (S.okI ng np (fun j => tp (j + ap)))) x.1.1 x.1.2.1.1 x.1.2.1.2.1 x.1.2.1.2.2.1 x.1.2.1.2.2.2.1, fun _ _ => .dead⟩
theorem s19' (ng : Bool) (ap np mp : Nat) (tp : Nat → Int) (hp : ap + np ≤ mp ∧ np ≤ 1000000) (hn : np ≤ 80) (hl : (np = 0 → ng = false) ∧ (0 < np → tp (np - 1 + ap) ≠ 0)) : ∀ (k i : Nat), i + k = np → (∀ j, j < i → 0 ≤ tp (j + ap) ∧ tp (j + ap) < 1000000) → Comes (q19 ng ap np mp tp) (.h0 (i : Int)) (S.okI ng np (fun j => tp (j + ap))) := by
  obtain ⟨hp1, hp2⟩ := hp
  intro k
  induction k with
  | zero =>
    intro i hi hj
    obtain rfl : np = i := by omega
    have hG : S.okG np (fun j => tp (j + ap)) = true ↔ (np = 0 ∨ tp (np - 1 + ap) ≠ 0) := by
      rw [okG_iff]
      exact ⟨fun h => h.2, fun h => ⟨hj, h⟩⟩
    have hI := okI_iff (ng := ng) (n := np) (t := (fun j => tp (j + ap)))
    rw [hG] at hI
    have e1 : ((np : Int) - 1).toNat = np - 1 := by omega
    generalize S.okI ng np (fun j => tp (j + ap)) = R at *
    have hR : (np ≤ 80 ∧ (np = 0 ∨ tp (np - 1 + ap) ≠ 0) ∧ (0 < np ∨ ng = false)) → true = R := fun h => (hI.mpr h).symm
    have hR' : ¬ (np ≤ 80 ∧ (np = 0 ∨ tp (np - 1 + ap) ≠ 0) ∧ (0 < np ∨ ng = false)) → false = R := fun h => by cases R; rfl; exact absurd (hI.mp rfl) h
    cases ng
    · apply Comes.of
      show Goes _ _ _
      (first | rw [q19] | unfold q19)
      repeat' first
        | with_reducible refine goes_if (fun h => ?_) (fun h => ?_) <;> (try simp only [SH, e1] at h)
        | exact goes_none.mpr (by omega)
      all_goals first
        | (exfalso; omega)
        | (refine goes_inr.mpr (hR ⟨by omega, by omega, ?_⟩); first | exact .inr rfl | (left; omega) | (left; rcases Nat.eq_zero_or_pos np with h | h <;> first | exact h | exact absurd (hl.1 h) (by decide)))
        | (refine goes_inr.mpr (hR' ?_); intro hx; first | (exact absurd hx.2.2 (by simp; omega)) | omega | (have h3 := hx.2.1; omega))
        | (exfalso; simp at *; done)
    · apply Comes.of
      show Goes _ _ _
      (first | rw [q19] | unfold q19)
      repeat' first
        | with_reducible refine goes_if (fun h => ?_) (fun h => ?_) <;> (try simp only [SH, e1] at h)
        | exact goes_none.mpr (by omega)
      all_goals first
        | (exfalso; omega)
        | (refine goes_inr.mpr (hR ⟨by omega, by omega, ?_⟩); first | exact .inr rfl | (left; omega) | (left; rcases Nat.eq_zero_or_pos np with h | h <;> first | exact h | exact absurd (hl.1 h) (by decide)))
        | (refine goes_inr.mpr (hR' ?_); intro hx; first | (exact absurd hx.2.2 (by simp; omega)) | omega | (have h3 := hx.2.1; omega))
        | (exfalso; simp at *; done)
  | succ k ih =>
    intro i hi hj
    by_cases hc : 0 ≤ tp (i + ap) ∧ tp (i + ap) < 1000000
    · have ih := ih (i + 1) (by omega) (fun j hlt => by
        rcases Nat.lt_or_eq_of_le (Nat.le_of_lt_succ hlt) with h2 | h2
        · exact hj j h2
        · subst h2; exact hc)
      apply Comes.of
      show Goes _ _ _
      (first | rw [q19] | unfold q19)
      repeat' first
        | with_reducible refine goes_if (fun h => ?_) (fun h => ?_) <;> (try simp only [SH] at h)
        | exact goes_none.mpr (by omega)
      all_goals first | (exfalso; omega) | exact ih
    · have hR : S.okI ng np (fun j => tp (j + ap)) = false := by
        rw [Bool.eq_false_iff]
        intro h
        exact hc ((okG_iff.mp (okI_iff.mp h).2.1).1 i (by omega))
      rw [hR]
      apply Comes.of
      show Goes _ _ _
      (first | rw [q19] | unfold q19)
      repeat' first
        | with_reducible refine goes_if (fun h => ?_) (fun h => ?_) <;> (try simp only [SH] at h)
        | exact goes_none.mpr (by omega)
      all_goals first | (exfalso; omega) | exact goes_inr.mpr rfl
theorem s19 (ng : Bool) (ap np mp : Nat) (tp : Nat → Int) (hp : ap + np ≤ mp ∧ np ≤ 1000000) : Goes ((q19 ng ap np mp tp)) ((p19 ng ap np mp tp)) (S.okI ng np (fun j => tp (j + ap))) := by
  have hI := okI_iff (ng := ng) (n := np) (t := (fun j => tp (j + ap)))
  rw [okG_iff] at hI
  by_cases hn : np ≤ 80
  · skip
    skip
    have hm := fun hl => s19' ng ap np mp tp hp hn hl np 0 (by omega) (fun j hj => absurd hj (Nat.not_lt_zero j))
    have hR' : ¬ ((np = 0 ∨ tp (np - 1 + ap) ≠ 0) ∧ (0 < np ∨ ng = false)) → false = S.okI ng np (fun j => tp (j + ap)) := fun h => by
      cases hx : S.okI ng np (fun j => tp (j + ap))
      · rfl
      · exact absurd ⟨(hI.mp hx).2.1.2, (hI.mp hx).2.2⟩ h
    have e1 : ((np : Int) - 1).toNat = np - 1 := by omega
    generalize S.okI ng np (fun j => tp (j + ap)) = R at *
    obtain ⟨hp1, hp2⟩ := hp
    cases ng
    · skip
      show Goes _ _ _
      unfold p19
      repeat' first
        | with_reducible refine goes_if (fun h => ?_) (fun h => ?_) <;> (try simp only [SH, e1] at h)
        | exact goes_none.mpr (by omega)
      all_goals first
        | (exfalso; omega)
        | exact hm
        | exact hm ⟨fun _ => rfl, fun h => by omega⟩
        | (refine goes_inr.mpr (hR' ?_); intro hx; first | (exact absurd hx.2 (by simp; omega)) | omega | (have h3 := hx.1; omega))
        | (exfalso; simp at *; done)
    · skip
      show Goes _ _ _
      unfold p19
      repeat' first
        | with_reducible refine goes_if (fun h => ?_) (fun h => ?_) <;> (try simp only [SH, e1] at h)
        | exact goes_none.mpr (by omega)
      all_goals first
        | (exfalso; omega)
        | exact hm
        | exact hm ⟨fun h => by omega, fun h => by omega⟩
        | (refine goes_inr.mpr (hR' ?_); intro hx; first | (exact absurd hx.2 (by simp; omega)) | omega | (have h3 := hx.1; omega))
        | (exfalso; simp at *; done)
  · have hR : S.okI ng np (fun j => tp (j + ap)) = false := by
      rw [Bool.eq_false_iff]
      intro h
      exact hn (hI.mp h).1
    rw [hR]
    show Goes _ _ _
    unfold p19
    repeat' first
      | with_reducible refine goes_if (fun h => ?_) (fun h => ?_) <;> (try simp only [SH] at h)
      | exact goes_none.mpr (by omega)
    all_goals first | (exfalso; omega) | exact goes_inr.mpr rfl
theorem k19_ok  : k19.ok Tryd.prog := by
  intro x hx
  obtain ⟨⟨ng, ⟨ap, np, mp, tp, _⟩, _⟩, _⟩ := x
  obtain ⟨h1, h2⟩ := a19 ng ap np mp tp (s19 ng ap np mp tp (of_dec hx rfl))
  exact ⟨⟨400, (by decide : 1 + 1 + 0 ≤ 400), h1⟩, h2⟩
noncomputable def xC (test : Bool → Prop → Prop → Prop) : Ext := consX test [k69, k65, k69v, k65v, k60, k61, k44, k55, k45, k58, k56, k59, k46, k18, k19]
theorem xC_ok  : ExtOk Tryd.prog (xC cond) := consX_ok ⟨k69_ok, k65_ok, k69v_ok, k65v_ok, k60_ok, k61_ok, k44_ok, k55_ok, k45_ok, k58_ok, k56_ok, k59_ok, k46_ok, k18_ok, k19_ok, trivial⟩
namespace S
def fitI (v : Int) : Bool × Int × List Int := if (grp (v.natAbs : Int)).length > 80 then (false, 3, []) else (decide (v < 0), 0, grp (v.natAbs : Int))
def addS (n1 : Bool) (n : Nat) (t : Nat → Int) (n2 : Bool) (m : Nat) (u : Nat → Int) : Bool × Int × List Int := if okI n1 n t = true ∧ okI n2 m u = true then fitI (sv n1 (val n t) + sv n2 (val m u)) else (false, 1, [])
def subI (n1 : Bool) (n : Nat) (t : Nat → Int) (n2 : Bool) (m : Nat) (u : Nat → Int) : Bool × Int × List Int := if okI n1 n t = true ∧ okI n2 m u = true then fitI (sv n1 (val n t) - sv n2 (val m u)) else (false, 1, [])
end S
theorem big_of  {neg : Bool} {v : Int} (h : 0 ≤ v) : S.bigI (S.sv neg v) = (neg && decide (0 < v), S.grp v) := by
  unfold S.bigI S.sv
  cases neg
  · simp only [cond_false, Bool.false_and, Prod.mk.injEq, decide_eq_false_iff_not]
    exact ⟨by omega, by rw [Int.natAbs_of_nonneg h]⟩
  · simp only [cond_true, Bool.true_and, Prod.mk.injEq]
    refine ⟨?_, by rw [Int.natAbs_neg, Int.natAbs_of_nonneg h]⟩
    rw [decide_eq_decide]
    omega
theorem sv_same  {neg : Bool} {v w : Int} : S.sv neg v + S.sv neg w = S.sv neg (v + w) := by
  cases neg <;> simp only [S.sv, cond_true, cond_false]
  omega
theorem sv_diff  {neg : Bool} {v w : Int} : S.sv neg v + S.sv (!neg) w = S.sv neg (v - w) := by
  cases neg <;> simp only [S.sv, Bool.not_false, Bool.not_true, cond_true, cond_false] <;> omega
theorem len_zero  {v : Int} : ((S.grp v).length = 0) ↔ v ≤ 0 := by
  constructor
  · intro h
    refine Int.not_lt.mp fun h2 => ?_
    have := len_pos h2
    omega
  · intro h
    rw [grp_neg h]; rfl
theorem val_grpL  {v : Int} (h : 0 ≤ v) : (S.val (S.grp v).length fun j => S.at' (S.grp v) j) = v := by
  have := val_at (L := S.grp v)
  rw [val_grp h] at this
  exact this
theorem valF_lt  {t : Nat → Int} : ∀ {k i : Nat}, (∀ j, i ≤ j → j < i + k → 0 ≤ t j ∧ t j < 1000000) → S.valF t i k < S.pw k
  | 0, _, _ => by show (0 : Int) < 1; omega
  | k + 1, i, h => by
    have h0 := h i (Nat.le_refl _) (by omega)
    have h1 := valF_lt (t := t) (k := k) (i := i + 1) fun j h1 h2 => h j (by omega) (by omega)
    simp only [S.valF, S.pw]
    omega
theorem pw_pos  : ∀ {k : Nat}, 0 < S.pw k
  | 0 => by show (0 : Int) < 1; omega
  | k + 1 => by have := pw_pos (k := k); simp only [S.pw]; omega
theorem pw_mono  {k m : Nat} (h : k ≤ m) : S.pw k ≤ S.pw m := by
  induction m with
  | zero => rw [show k = 0 by omega]; exact Int.le_refl _
  | succ m ih =>
    rcases Nat.lt_or_eq_of_le h with h2 | h2
    · have := ih (by omega)
      have := pw_pos (k := m)
      simp only [S.pw]
      omega
    · rw [h2]; exact Int.le_refl _
theorem val_lt  {n m : Nat} {t : Nat → Int} (h : S.okD n t = true) (hm : n ≤ m) : S.val n t < S.pw m := Int.lt_of_lt_of_le (valF_lt fun j _ hj => okD_iff.mp h j (by omega)) (pw_mono hm)
theorem grp_le  : ∀ {n : Nat} {v : Int}, v < S.pw n → (S.grp v).length ≤ n
  | 0, v, h => by
    have h : v < 1 := h
    rw [grp_neg (by omega)]; exact Nat.le_refl _
  | n + 1, v, h => by
    have h : v < 1000000 * S.pw n := h
    by_cases h0 : 0 < v
    · rw [grp_pos h0]
      have := grp_le (n := n) (v := v / 1000000) (by omega)
      simp only [List.length_cons]
      omega
    · rw [grp_neg (by omega)]; exact Nat.zero_le _
abbrev St48  := Empty
abbrev Rt48  := Bool × List Int
noncomputable def V48 (n1 : Bool) (ap np mp : Nat) (tp : Nat → Int) (n2 : Bool) (aq nq mq : Nat) (tq : Nat → Int) (r : Rt48) : PV := PV.agg [PV.bool r.1, PV.own (3) (1) (List.length r.2)]
noncomputable def N48 (n1 : Bool) (ap np mp : Nat) (tp : Nat → Int) (n2 : Bool) (aq nq mq : Nat) (tq : Nat → Int) (r : Rt48) : List Blk := [Blk.cols (List.length r.2) [Col.int IntKind.i64 fun j => S.at' r.2 j]]
noncomputable def I48 (n1 : Bool) (ap np mp : Nat) (tp : Nat → Int) (n2 : Bool) (aq nq mq : Nat) (tq : Nat → Int) : St48 → Hd := fun s => s.elim
noncomputable def q48 (n1 : Bool) (ap np mp : Nat) (tp : Nat → Int) (n2 : Bool) (aq nq mq : Nat) (tq : Nat → Int) : St48 → Option (St48 ⊕ Rt48) := fun s => s.elim
noncomputable def p48 (n1 : Bool) (ap np mp : Nat) (tp : Nat → Int) (n2 : Bool) (aq nq mq : Nat) (tq : Nat → Int) : Option (St48 ⊕ Rt48) := bif (n1)
 then (bif (n2)
 then (bif (decide
 ((ap + np ≤ mp ∧ aq + nq ≤ mq) ∧
 (np ≤ 1000 ∧ nq ≤ 1000) ∧
 (S.okG np fun j => tp (j + ap)) = true ∧
 (S.okG nq fun j => tq (j + aq)) = true))
 then (bif ((↑(List.length
 (S.grp ((S.val np fun j => tp (j + ap)) + S.val nq fun j => tq (j + aq)))) :
 Int) ==
 (0 : Int))
 then (some (.inr (false, [])))
 else (some (.inr (true, S.grp ((S.val np fun j => tp (j + ap)) + S.val nq fun j => tq (j + aq))))))
 else (none))
 else (bif (decide
 (ap + np ≤ mp ∧
 np ≤ 1000000 ∧
 aq + nq ≤ mq ∧
 nq ≤ 1000000 ∧
 (S.okG np fun j => tp (j + ap)) = true ∧
 (S.okG nq fun j => tq (j + aq)) = true))
 then (bif (decide
 (S.cmpS (S.val np fun j => tp (j + ap)) (S.val nq fun j => tq (j + aq)) ≥ (0 : Int)))
 then (bif (decide
 ((ap + np ≤ mp ∧ aq + nq ≤ mq) ∧
 (np ≤ 1000 ∧ nq ≤ 1000) ∧
 (S.okG np fun j => tp (j + ap)) = true ∧
 (S.okG nq fun j => tq (j + aq)) = true ∧
 (S.val nq fun j => tq (j + aq)) ≤ S.val np fun j => tp (j + ap)))
 then (bif ((↑(List.length
 (S.grp ((S.val np fun j => tp (j + ap)) - S.val nq fun j => tq (j + aq)))) :
 Int) ==
 (0 : Int))
 then (some (.inr (false, [])))
 else (some (.inr (true, S.grp ((S.val np fun j => tp (j + ap)) - S.val nq fun j => tq (j + aq))))))
 else (none))
 else (bif (decide
 ((aq + nq ≤ mq ∧ ap + np ≤ mp) ∧
 (nq ≤ 1000 ∧ np ≤ 1000) ∧
 (S.okG nq fun j => tq (j + aq)) = true ∧
 (S.okG np fun j => tp (j + ap)) = true ∧
 (S.val np fun j => tp (j + ap)) ≤ S.val nq fun j => tq (j + aq)))
 then (bif ((↑(List.length
 (S.grp ((S.val nq fun j => tq (j + aq)) - S.val np fun j => tp (j + ap)))) :
 Int) ==
 (0 : Int))
 then (some (.inr (false, [])))
 else (some (.inr (false, S.grp ((S.val nq fun j => tq (j + aq)) - S.val np fun j => tp (j + ap))))))
 else (none)))
 else (none)))
 else (bif (n2)
 then (bif (decide
 (ap + np ≤ mp ∧
 np ≤ 1000000 ∧
 aq + nq ≤ mq ∧
 nq ≤ 1000000 ∧
 (S.okG np fun j => tp (j + ap)) = true ∧
 (S.okG nq fun j => tq (j + aq)) = true))
 then (bif (decide
 (S.cmpS (S.val np fun j => tp (j + ap)) (S.val nq fun j => tq (j + aq)) ≥ (0 : Int)))
 then (bif (decide
 ((ap + np ≤ mp ∧ aq + nq ≤ mq) ∧
 (np ≤ 1000 ∧ nq ≤ 1000) ∧
 (S.okG np fun j => tp (j + ap)) = true ∧
 (S.okG nq fun j => tq (j + aq)) = true ∧
 (S.val nq fun j => tq (j + aq)) ≤ S.val np fun j => tp (j + ap)))
 then (bif ((↑(List.length
 (S.grp ((S.val np fun j => tp (j + ap)) - S.val nq fun j => tq (j + aq)))) :
 Int) ==
 (0 : Int))
 then (some (.inr (false, [])))
 else (some (.inr (false, S.grp ((S.val np fun j => tp (j + ap)) - S.val nq fun j => tq (j + aq))))))
 else (none))
 else (bif (decide
 ((aq + nq ≤ mq ∧ ap + np ≤ mp) ∧
 (nq ≤ 1000 ∧ np ≤ 1000) ∧
 (S.okG nq fun j => tq (j + aq)) = true ∧
 (S.okG np fun j => tp (j + ap)) = true ∧
 (S.val np fun j => tp (j + ap)) ≤ S.val nq fun j => tq (j + aq)))
 then (bif ((↑(List.length
 (S.grp ((S.val nq fun j => tq (j + aq)) - S.val np fun j => tp (j + ap)))) :
 Int) ==
 (0 : Int))
 then (some (.inr (false, [])))
 else (some (.inr (true, S.grp ((S.val nq fun j => tq (j + aq)) - S.val np fun j => tp (j + ap))))))
 else (none)))
 else (none))
 else (bif (decide
 ((ap + np ≤ mp ∧ aq + nq ≤ mq) ∧
 (np ≤ 1000 ∧ nq ≤ 1000) ∧
 (S.okG np fun j => tp (j + ap)) = true ∧
 (S.okG nq fun j => tq (j + aq)) = true))
 then (bif ((↑(List.length
 (S.grp ((S.val np fun j => tp (j + ap)) + S.val nq fun j => tq (j + aq)))) :
 Int) ==
 (0 : Int))
 then (some (.inr (false, [])))
 else (some (.inr (false, S.grp ((S.val np fun j => tp (j + ap)) + S.val nq fun j => tq (j + aq))))))
 else (none)))
noncomputable def Te48 (test : Bool → Prop → Prop → Prop) (Kst : KS) (Kret : KR) (n1 : Bool) (ap np mp : Nat) (tp : Nat → Int) (n2 : Bool) (aq nq mq : Nat) (tq : Nat → Int) : Prop :=
  test (n1)
 (test (n2)
 (test (n1)
 (test (decide
 ((ap + np ≤ mp ∧ aq + nq ≤ mq) ∧
 (np ≤ 1000 ∧ nq ≤ 1000) ∧
 (S.okG np fun j => tp (j + ap)) = true ∧
 (S.okG nq fun j => tq (j + aq)) = true))
 (test ((↑(List.length
 (S.grp ((S.val np fun j => tp (j + ap)) + S.val nq fun j => tq (j + aq)))) :
 Int) ==
 (0 : Int))
 (Kret (PV.agg [PV.tf false, PV.nils]) ([[(1, false, Blk.cols mq [Col.int IntKind.i64 tq]),
 (0, false, Blk.cols mp [Col.int IntKind.i64 tp])]]) (8))
 (Kret (PV.agg
 [PV.tf true,
 PV.own (6) (1)
 (List.length
 (S.grp ((S.val np fun j => tp (j + ap)) + S.val nq fun j => tq (j + aq))))]) ([[(1, false, Blk.cols mq [Col.int IntKind.i64 tq]),
 (0, false, Blk.cols mp [Col.int IntKind.i64 tp]),
 (6, true,
 Blk.cols
 (List.length
 (S.grp ((S.val np fun j => tp (j + ap)) + S.val nq fun j => tq (j + aq))))
 [Col.int IntKind.i64 fun j =>
 S.at'
 (S.grp
 ((S.val np fun j => tp (j + ap)) + S.val nq fun j => tq (j + aq)))
 j])]]) (8)))
 (False))
 (test (decide
 ((ap + np ≤ mp ∧ aq + nq ≤ mq) ∧
 (np ≤ 1000 ∧ nq ≤ 1000) ∧
 (S.okG np fun j => tp (j + ap)) = true ∧
 (S.okG nq fun j => tq (j + aq)) = true))
 (test ((↑(List.length
 (S.grp ((S.val np fun j => tp (j + ap)) + S.val nq fun j => tq (j + aq)))) :
 Int) ==
 (0 : Int))
 (Kret (PV.agg [PV.tf false, PV.nils]) ([[(1, false, Blk.cols mq [Col.int IntKind.i64 tq]),
 (0, false, Blk.cols mp [Col.int IntKind.i64 tp])]]) (8))
 (Kret (PV.agg
 [PV.tf false,
 PV.own (6) (1)
 (List.length
 (S.grp ((S.val np fun j => tp (j + ap)) + S.val nq fun j => tq (j + aq))))]) ([[(1, false, Blk.cols mq [Col.int IntKind.i64 tq]),
 (0, false, Blk.cols mp [Col.int IntKind.i64 tp]),
 (6, true,
 Blk.cols
 (List.length
 (S.grp ((S.val np fun j => tp (j + ap)) + S.val nq fun j => tq (j + aq))))
 [Col.int IntKind.i64 fun j =>
 S.at'
 (S.grp
 ((S.val np fun j => tp (j + ap)) + S.val nq fun j => tq (j + aq)))
 j])]]) (8)))
 (False)))
 (test (decide
 (ap + np ≤ mp ∧
 np ≤ 1000000 ∧
 aq + nq ≤ mq ∧
 nq ≤ 1000000 ∧
 (S.okG np fun j => tp (j + ap)) = true ∧
 (S.okG nq fun j => tq (j + aq)) = true))
 (test (decide
 (S.cmpS (S.val np fun j => tp (j + ap)) (S.val nq fun j => tq (j + aq)) ≥ (0 : Int)))
 (test (n1)
 (test (decide
 ((ap + np ≤ mp ∧ aq + nq ≤ mq) ∧
 (np ≤ 1000 ∧ nq ≤ 1000) ∧
 (S.okG np fun j => tp (j + ap)) = true ∧
 (S.okG nq fun j => tq (j + aq)) = true ∧
 (S.val nq fun j => tq (j + aq)) ≤ S.val np fun j => tp (j + ap)))
 (test ((↑(List.length
 (S.grp ((S.val np fun j => tp (j + ap)) - S.val nq fun j => tq (j + aq)))) :
 Int) ==
 (0 : Int))
 (Kret (PV.agg [PV.tf false, PV.nils]) ([[(1, false, Blk.cols mq [Col.int IntKind.i64 tq]),
 (0, false, Blk.cols mp [Col.int IntKind.i64 tp])]]) (9))
 (Kret (PV.agg
 [PV.tf true,
 PV.own (7) (1)
 (List.length
 (S.grp ((S.val np fun j => tp (j + ap)) - S.val nq fun j => tq (j + aq))))]) ([[(1, false, Blk.cols mq [Col.int IntKind.i64 tq]),
 (0, false, Blk.cols mp [Col.int IntKind.i64 tp]),
 (7, true,
 Blk.cols
 (List.length
 (S.grp ((S.val np fun j => tp (j + ap)) - S.val nq fun j => tq (j + aq))))
 [Col.int IntKind.i64 fun j =>
 S.at'
 (S.grp
 ((S.val np fun j => tp (j + ap)) - S.val nq fun j => tq (j + aq)))
 j])]]) (9)))
 (False))
 (test (decide
 ((ap + np ≤ mp ∧ aq + nq ≤ mq) ∧
 (np ≤ 1000 ∧ nq ≤ 1000) ∧
 (S.okG np fun j => tp (j + ap)) = true ∧
 (S.okG nq fun j => tq (j + aq)) = true ∧
 (S.val nq fun j => tq (j + aq)) ≤ S.val np fun j => tp (j + ap)))
 (test ((↑(List.length
 (S.grp ((S.val np fun j => tp (j + ap)) - S.val nq fun j => tq (j + aq)))) :
 Int) ==
 (0 : Int))
 (Kret (PV.agg [PV.tf false, PV.nils]) ([[(1, false, Blk.cols mq [Col.int IntKind.i64 tq]),
 (0, false, Blk.cols mp [Col.int IntKind.i64 tp])]]) (9))
 (Kret (PV.agg
 [PV.tf false,
 PV.own (7) (1)
 (List.length
 (S.grp ((S.val np fun j => tp (j + ap)) - S.val nq fun j => tq (j + aq))))]) ([[(1, false, Blk.cols mq [Col.int IntKind.i64 tq]),
 (0, false, Blk.cols mp [Col.int IntKind.i64 tp]),
 (7, true,
 Blk.cols
 (List.length
 (S.grp ((S.val np fun j => tp (j + ap)) - S.val nq fun j => tq (j + aq))))
 [Col.int IntKind.i64 fun j =>
 S.at'
 (S.grp
 ((S.val np fun j => tp (j + ap)) - S.val nq fun j => tq (j + aq)))
 j])]]) (9)))
 (False)))
 (test (n2)
 (test (decide
 ((aq + nq ≤ mq ∧ ap + np ≤ mp) ∧
 (nq ≤ 1000 ∧ np ≤ 1000) ∧
 (S.okG nq fun j => tq (j + aq)) = true ∧
 (S.okG np fun j => tp (j + ap)) = true ∧
 (S.val np fun j => tp (j + ap)) ≤ S.val nq fun j => tq (j + aq)))
 (test ((↑(List.length
 (S.grp ((S.val nq fun j => tq (j + aq)) - S.val np fun j => tp (j + ap)))) :
 Int) ==
 (0 : Int))
 (Kret (PV.agg [PV.tf false, PV.nils]) ([[(1, false, Blk.cols mq [Col.int IntKind.i64 tq]),
 (0, false, Blk.cols mp [Col.int IntKind.i64 tp])]]) (9))
 (Kret (PV.agg
 [PV.tf true,
 PV.own (7) (1)
 (List.length
 (S.grp ((S.val nq fun j => tq (j + aq)) - S.val np fun j => tp (j + ap))))]) ([[(1, false, Blk.cols mq [Col.int IntKind.i64 tq]),
 (0, false, Blk.cols mp [Col.int IntKind.i64 tp]),
 (7, true,
 Blk.cols
 (List.length
 (S.grp ((S.val nq fun j => tq (j + aq)) - S.val np fun j => tp (j + ap))))
 [Col.int IntKind.i64 fun j =>
 S.at'
 (S.grp
 ((S.val nq fun j => tq (j + aq)) - S.val np fun j => tp (j + ap)))
 j])]]) (9)))
 (False))
 (test (decide
 ((aq + nq ≤ mq ∧ ap + np ≤ mp) ∧
 (nq ≤ 1000 ∧ np ≤ 1000) ∧
 (S.okG nq fun j => tq (j + aq)) = true ∧
 (S.okG np fun j => tp (j + ap)) = true ∧
 (S.val np fun j => tp (j + ap)) ≤ S.val nq fun j => tq (j + aq)))
 (test ((↑(List.length
 (S.grp ((S.val nq fun j => tq (j + aq)) - S.val np fun j => tp (j + ap)))) :
 Int) ==
 (0 : Int))
 (Kret (PV.agg [PV.tf false, PV.nils]) ([[(1, false, Blk.cols mq [Col.int IntKind.i64 tq]),
 (0, false, Blk.cols mp [Col.int IntKind.i64 tp])]]) (9))
 (Kret (PV.agg
 [PV.tf false,
 PV.own (7) (1)
 (List.length
 (S.grp ((S.val nq fun j => tq (j + aq)) - S.val np fun j => tp (j + ap))))]) ([[(1, false, Blk.cols mq [Col.int IntKind.i64 tq]),
 (0, false, Blk.cols mp [Col.int IntKind.i64 tp]),
 (7, true,
 Blk.cols
 (List.length
 (S.grp ((S.val nq fun j => tq (j + aq)) - S.val np fun j => tp (j + ap))))
 [Col.int IntKind.i64 fun j =>
 S.at'
 (S.grp
 ((S.val nq fun j => tq (j + aq)) - S.val np fun j => tp (j + ap)))
 j])]]) (9)))
 (False))))
 (False)))
 (test (n2)
 (test (decide
 (ap + np ≤ mp ∧
 np ≤ 1000000 ∧
 aq + nq ≤ mq ∧
 nq ≤ 1000000 ∧
 (S.okG np fun j => tp (j + ap)) = true ∧
 (S.okG nq fun j => tq (j + aq)) = true))
 (test (decide
 (S.cmpS (S.val np fun j => tp (j + ap)) (S.val nq fun j => tq (j + aq)) ≥ (0 : Int)))
 (test (n1)
 (test (decide
 ((ap + np ≤ mp ∧ aq + nq ≤ mq) ∧
 (np ≤ 1000 ∧ nq ≤ 1000) ∧
 (S.okG np fun j => tp (j + ap)) = true ∧
 (S.okG nq fun j => tq (j + aq)) = true ∧
 (S.val nq fun j => tq (j + aq)) ≤ S.val np fun j => tp (j + ap)))
 (test ((↑(List.length
 (S.grp ((S.val np fun j => tp (j + ap)) - S.val nq fun j => tq (j + aq)))) :
 Int) ==
 (0 : Int))
 (Kret (PV.agg [PV.tf false, PV.nils]) ([[(1, false, Blk.cols mq [Col.int IntKind.i64 tq]),
 (0, false, Blk.cols mp [Col.int IntKind.i64 tp])]]) (9))
 (Kret (PV.agg
 [PV.tf true,
 PV.own (7) (1)
 (List.length
 (S.grp ((S.val np fun j => tp (j + ap)) - S.val nq fun j => tq (j + aq))))]) ([[(1, false, Blk.cols mq [Col.int IntKind.i64 tq]),
 (0, false, Blk.cols mp [Col.int IntKind.i64 tp]),
 (7, true,
 Blk.cols
 (List.length
 (S.grp ((S.val np fun j => tp (j + ap)) - S.val nq fun j => tq (j + aq))))
 [Col.int IntKind.i64 fun j =>
 S.at'
 (S.grp
 ((S.val np fun j => tp (j + ap)) - S.val nq fun j => tq (j + aq)))
 j])]]) (9)))
 (False))
 (test (decide
 ((ap + np ≤ mp ∧ aq + nq ≤ mq) ∧
 (np ≤ 1000 ∧ nq ≤ 1000) ∧
 (S.okG np fun j => tp (j + ap)) = true ∧
 (S.okG nq fun j => tq (j + aq)) = true ∧
 (S.val nq fun j => tq (j + aq)) ≤ S.val np fun j => tp (j + ap)))
 (test ((↑(List.length
 (S.grp ((S.val np fun j => tp (j + ap)) - S.val nq fun j => tq (j + aq)))) :
 Int) ==
 (0 : Int))
 (Kret (PV.agg [PV.tf false, PV.nils]) ([[(1, false, Blk.cols mq [Col.int IntKind.i64 tq]),
 (0, false, Blk.cols mp [Col.int IntKind.i64 tp])]]) (9))
 (Kret (PV.agg
 [PV.tf false,
 PV.own (7) (1)
 (List.length
 (S.grp ((S.val np fun j => tp (j + ap)) - S.val nq fun j => tq (j + aq))))]) ([[(1, false, Blk.cols mq [Col.int IntKind.i64 tq]),
 (0, false, Blk.cols mp [Col.int IntKind.i64 tp]),
 (7, true,
 Blk.cols
 (List.length
 (S.grp ((S.val np fun j => tp (j + ap)) - S.val nq fun j => tq (j + aq))))
 [Col.int IntKind.i64 fun j =>
 S.at'
 (S.grp
 ((S.val np fun j => tp (j + ap)) - S.val nq fun j => tq (j + aq)))
 j])]]) (9)))
 (False)))
 (test (n2)
 (test (decide
 ((aq + nq ≤ mq ∧ ap + np ≤ mp) ∧
 (nq ≤ 1000 ∧ np ≤ 1000) ∧
 (S.okG nq fun j => tq (j + aq)) = true ∧
 (S.okG np fun j => tp (j + ap)) = true ∧
 (S.val np fun j => tp (j + ap)) ≤ S.val nq fun j => tq (j + aq)))
 (test ((↑(List.length
 (S.grp ((S.val nq fun j => tq (j + aq)) - S.val np fun j => tp (j + ap)))) :
 Int) ==
 (0 : Int))
 (Kret (PV.agg [PV.tf false, PV.nils]) ([[(1, false, Blk.cols mq [Col.int IntKind.i64 tq]),
 (0, false, Blk.cols mp [Col.int IntKind.i64 tp])]]) (9))
 (Kret (PV.agg
 [PV.tf true,
 PV.own (7) (1)
 (List.length
 (S.grp ((S.val nq fun j => tq (j + aq)) - S.val np fun j => tp (j + ap))))]) ([[(1, false, Blk.cols mq [Col.int IntKind.i64 tq]),
 (0, false, Blk.cols mp [Col.int IntKind.i64 tp]),
 (7, true,
 Blk.cols
 (List.length
 (S.grp ((S.val nq fun j => tq (j + aq)) - S.val np fun j => tp (j + ap))))
 [Col.int IntKind.i64 fun j =>
 S.at'
 (S.grp
 ((S.val nq fun j => tq (j + aq)) - S.val np fun j => tp (j + ap)))
 j])]]) (9)))
 (False))
 (test (decide
 ((aq + nq ≤ mq ∧ ap + np ≤ mp) ∧
 (nq ≤ 1000 ∧ np ≤ 1000) ∧
 (S.okG nq fun j => tq (j + aq)) = true ∧
 (S.okG np fun j => tp (j + ap)) = true ∧
 (S.val np fun j => tp (j + ap)) ≤ S.val nq fun j => tq (j + aq)))
 (test ((↑(List.length
 (S.grp ((S.val nq fun j => tq (j + aq)) - S.val np fun j => tp (j + ap)))) :
 Int) ==
 (0 : Int))
 (Kret (PV.agg [PV.tf false, PV.nils]) ([[(1, false, Blk.cols mq [Col.int IntKind.i64 tq]),
 (0, false, Blk.cols mp [Col.int IntKind.i64 tp])]]) (9))
 (Kret (PV.agg
 [PV.tf false,
 PV.own (7) (1)
 (List.length
 (S.grp ((S.val nq fun j => tq (j + aq)) - S.val np fun j => tp (j + ap))))]) ([[(1, false, Blk.cols mq [Col.int IntKind.i64 tq]),
 (0, false, Blk.cols mp [Col.int IntKind.i64 tp]),
 (7, true,
 Blk.cols
 (List.length
 (S.grp ((S.val nq fun j => tq (j + aq)) - S.val np fun j => tp (j + ap))))
 [Col.int IntKind.i64 fun j =>
 S.at'
 (S.grp
 ((S.val nq fun j => tq (j + aq)) - S.val np fun j => tp (j + ap)))
 j])]]) (9)))
 (False))))
 (False))
 (test (n1)
 (test (decide
 ((ap + np ≤ mp ∧ aq + nq ≤ mq) ∧
 (np ≤ 1000 ∧ nq ≤ 1000) ∧
 (S.okG np fun j => tp (j + ap)) = true ∧
 (S.okG nq fun j => tq (j + aq)) = true))
 (test ((↑(List.length
 (S.grp ((S.val np fun j => tp (j + ap)) + S.val nq fun j => tq (j + aq)))) :
 Int) ==
 (0 : Int))
 (Kret (PV.agg [PV.tf false, PV.nils]) ([[(1, false, Blk.cols mq [Col.int IntKind.i64 tq]),
 (0, false, Blk.cols mp [Col.int IntKind.i64 tp])]]) (8))
 (Kret (PV.agg
 [PV.tf true,
 PV.own (6) (1)
 (List.length
 (S.grp ((S.val np fun j => tp (j + ap)) + S.val nq fun j => tq (j + aq))))]) ([[(1, false, Blk.cols mq [Col.int IntKind.i64 tq]),
 (0, false, Blk.cols mp [Col.int IntKind.i64 tp]),
 (6, true,
 Blk.cols
 (List.length
 (S.grp ((S.val np fun j => tp (j + ap)) + S.val nq fun j => tq (j + aq))))
 [Col.int IntKind.i64 fun j =>
 S.at'
 (S.grp
 ((S.val np fun j => tp (j + ap)) + S.val nq fun j => tq (j + aq)))
 j])]]) (8)))
 (False))
 (test (decide
 ((ap + np ≤ mp ∧ aq + nq ≤ mq) ∧
 (np ≤ 1000 ∧ nq ≤ 1000) ∧
 (S.okG np fun j => tp (j + ap)) = true ∧
 (S.okG nq fun j => tq (j + aq)) = true))
 (test ((↑(List.length
 (S.grp ((S.val np fun j => tp (j + ap)) + S.val nq fun j => tq (j + aq)))) :
 Int) ==
 (0 : Int))
 (Kret (PV.agg [PV.tf false, PV.nils]) ([[(1, false, Blk.cols mq [Col.int IntKind.i64 tq]),
 (0, false, Blk.cols mp [Col.int IntKind.i64 tp])]]) (8))
 (Kret (PV.agg
 [PV.tf false,
 PV.own (6) (1)
 (List.length
 (S.grp ((S.val np fun j => tp (j + ap)) + S.val nq fun j => tq (j + aq))))]) ([[(1, false, Blk.cols mq [Col.int IntKind.i64 tq]),
 (0, false, Blk.cols mp [Col.int IntKind.i64 tp]),
 (6, true,
 Blk.cols
 (List.length
 (S.grp ((S.val np fun j => tp (j + ap)) + S.val nq fun j => tq (j + aq))))
 [Col.int IntKind.i64 fun j =>
 S.at'
 (S.grp
 ((S.val np fun j => tp (j + ap)) + S.val nq fun j => tq (j + aq)))
 j])]]) (8)))
 (False))))
theorem te48 (test : Bool → Prop → Prop → Prop) (Kst : KS) (Kret : KR) (n1 : Bool) (ap np mp : Nat) (tp : Nat → Int) (n2 : Bool) (aq nq mq : Nat) (tq : Nat → Int) : run test Tryd.env true (xC test) true 400 ⟨48, [.cd (mkFn Tryd.f48).body], argT 0 [.agg [.bool n1, .loose ⟨0, 1, ap, 0⟩ np], .agg [.bool n2, .loose ⟨1, 1, aq, 0⟩ nq]], [[], [(0, (false, .cols mp [.int .i64 tp])), (1, (false, .cols mq [.int .i64 tq]))]], 2⟩ (proj 2 [] Kst Kret) =
  Te48 test Kst Kret n1 ap np mp tp n2 aq nq mq tq := by kernel_rfl
attribute [local irreducible] Int.subNatNat in
theorem be48 (n1 : Bool) (ap np mp : Nat) (tp : Nat → Int) (n2 : Bool) (aq nq mq : Nat) (tq : Nat → Int) (Kst : KS) (Kret : KR) (x : St48 ⊕ Rt48) (hS : HS 2 400 ((I48 n1 ap np mp tp n2 aq nq mq tq)) Kst x) (hR : HR 2 400 ((V48 n1 ap np mp tp n2 aq nq mq tq)) (fun r => [newL (2 + 1) ((N48 n1 ap np mp tp n2 aq nq mq tq) r) ++ [(0, (false, .cols mp [.int .i64 tp])), (1, (false, .cols mq [.int .i64 tq]))]]) Kret x) (h : p48 n1 ap np mp tp n2 aq nq mq tq = some x) : Te48 cond Kst Kret n1 ap np mp tp n2 aq nq mq tq := by
  unfold Te48
  unfold p48 at h
  refine bif_split h
   (fun c0 h => bif_split h
   (fun c1 h => cond_yes c0 (bif_split h
   (fun c2 h => bif_split h
   (fun c3 h => ?_)
   (fun c3 h => ?_))
   (fun c2 h => ?_)))
   (fun c1 h => bif_split h
   (fun c2 h => bif_split h
   (fun c3 h => cond_yes c0 (bif_split h
   (fun c4 h => bif_split h
   (fun c5 h => ?_)
   (fun c5 h => ?_))
   (fun c4 h => ?_)))
   (fun c3 h => cond_no c1 (bif_split h
   (fun c4 h => bif_split h
   (fun c5 h => ?_)
   (fun c5 h => ?_))
   (fun c4 h => ?_))))
   (fun c2 h => ?_)))
   (fun c0 h => bif_split h
   (fun c1 h => bif_split h
   (fun c2 h => bif_split h
   (fun c3 h => cond_no c0 (bif_split h
   (fun c4 h => bif_split h
   (fun c5 h => ?_)
   (fun c5 h => ?_))
   (fun c4 h => ?_)))
   (fun c3 h => cond_yes c1 (bif_split h
   (fun c4 h => bif_split h
   (fun c5 h => ?_)
   (fun c5 h => ?_))
   (fun c4 h => ?_))))
   (fun c2 h => ?_))
   (fun c1 h => cond_no c0 (bif_split h
   (fun c2 h => bif_split h
   (fun c3 h => ?_)
   (fun c3 h => ?_))
   (fun c2 h => ?_))))
  all_goals first
    | exact no_some h
    | exact ret_at hR _ h (fun n => bif Nat.beq n 3 then 399 else n) rfl rfl rfl (rn_agg ⟨(rn_bool_tf rfl), (rn_own_nils rfl), trivial⟩) rfl (entl_fresh (use_own rfl) (fresh_ok rfl) (entl_bor (use_lo rfl) rfl rfl (entl_bor (use_lo rfl) rfl rfl entl_nil)))
    | exact ret_at hR _ h (fun n => bif Nat.beq n 3 then 7 else n) rfl rfl rfl (rn_agg ⟨(rn_bool_tf rfl), (rn_own (use_own rfl) rfl rfl), trivial⟩) rfl (entl_new (use_own rfl) rfl (Nat.le_of_eq rfl) (rcs_int (fun _ _ => rfl) rcs_nil) (entl_bor (use_lo rfl) rfl rfl (entl_bor (use_lo rfl) rfl rfl entl_nil)))
    | exact ret_at hR _ h (fun n => bif Nat.beq n 3 then 6 else n) rfl rfl rfl (rn_agg ⟨(rn_bool_tf rfl), (rn_own (use_own rfl) rfl rfl), trivial⟩) rfl (entl_new (use_own rfl) rfl (Nat.le_of_eq rfl) (rcs_int (fun _ _ => rfl) rcs_nil) (entl_bor (use_lo rfl) rfl rfl (entl_bor (use_lo rfl) rfl rfl entl_nil)))
theorem a48 (n1 : Bool) (ap np mp : Nat) (tp : Nat → Int) (n2 : Bool) (aq nq mq : Nat) (tq : Nat → Int) {r : Rt48} (h : Goes ((q48 n1 ap np mp tp n2 aq nq mq tq)) ((p48 n1 ap np mp tp n2 aq nq mq tq)) r) : CallR Tryd.prog 48 [.agg [.bool n1, .loose ⟨0, 1, ap, 0⟩ np], .agg [.bool n2, .loose ⟨1, 1, aq, 0⟩ nq]] [[(0, (false, .cols mp [.int .i64 tp])), (1, (false, .cols mq [.int .i64 tq]))]] 2 ((V48 n1 ap np mp tp n2 aq nq mq tq) r) ((fun r => [newL (2 + 1) ((N48 n1 ap np mp tp n2 aq nq mq tq) r) ++ [(0, (false, .cols mp [.int .i64 tp])), (1, (false, .cols mq [.int .i64 tq]))]]) r) 400 ∧ ∃ F, Tryd.prog.funcs[48]? = some F ∧ F.body.isSome = true ∧ (F.name == "runtime.NumGoroutine") = false := by
  refine dec_calls (f := 48) (lo := 2) (hi := 400) (H := [[(0, (false, .cols mp [.int .i64 tp])), (1, (false, .cols mq [.int .i64 tq]))]]) (args := [.agg [.bool n1, .loose ⟨0, 1, ap, 0⟩ np], .agg [.bool n2, .loose ⟨1, 1, aq, 0⟩ nq]]) Tryd.envOk Tryd.mixed xC_ok ((I48 n1 ap np mp tp n2 aq nq mq tq)) ((V48 n1 ap np mp tp n2 aq nq mq tq)) (fun r => [newL (2 + 1) ((N48 n1 ap np mp tp n2 aq nq mq tq) r) ++ [(0, (false, .cols mp [.int .i64 tp])), (1, (false, .cols mq [.int .i64 tq]))]]) (fn := mkFn Tryd.f48) (ts := []) (n := 400) rfl (by decide) (by simp) (names_of rfl) ?_ ?_ ?_ h
  · intro s; exact s.elim
  · intro Kst Kret x hS hR h
    exact Holds.eq (te48 cond Kst Kret n1 ap np mp tp n2 aq nq mq tq) (be48 n1 ap np mp tp n2 aq nq mq tq Kst Kret x hS hR h)
  · intro Kst Kret x hS hR s h; exact s.elim
noncomputable def k48  : Con := ⟨48, [.agg [.plain (.bool), .list [.int .i64]], .agg [.plain (.bool), .list [.int .i64]]], fun (x : (Bool × (Nat × Nat × Nat × (Nat → Int) × Unit) × Unit) × (Bool × (Nat × Nat × Nat × (Nat → Int) × Unit) × Unit) × Unit) => (fun (n1 : Bool) (ap np mp : Nat) (tp : Nat → Int) (n2 : Bool) (aq nq mq : Nat) (tq : Nat → Int) => decide ((ap + np ≤ mp ∧ aq + nq ≤ mq) ∧ (np ≤ 1000 ∧ nq ≤ 1000) ∧ S.okG np (fun j => tp (j + ap)) = true ∧ S.okG nq (fun j => tq (j + aq)) = true)) x.1.1 x.1.2.1.1 x.1.2.1.2.1 x.1.2.1.2.2.1 x.1.2.1.2.2.2.1 x.2.1.1 x.2.1.2.1.1 x.2.1.2.1.2.1 x.2.1.2.1.2.2.1 x.2.1.2.1.2.2.2.1, fun (x : (Bool × (Nat × Nat × Nat × (Nat → Int) × Unit) × Unit) × (Bool × (Nat × Nat × Nat × (Nat → Int) × Unit) × Unit) × Unit) => (fun (n1 : Bool) (ap np mp : Nat) (tp : Nat → Int) (n2 : Bool) (aq nq mq : Nat) (tq : Nat → Int) => (V48 n1 ap np mp tp n2 aq nq mq tq) ((S.bigI (S.sv n1 (S.val np (fun j => tp (j + ap))) + S.sv n2 (S.val nq (fun j => tq (j + aq))))).1, (S.bigI (S.sv n1 (S.val np (fun j => tp (j + ap))) + S.sv n2 (S.val nq (fun j => tq (j + aq))))).2)) x.1.1 x.1.2.1.1 x.1.2.1.2.1 x.1.2.1.2.2.1 x.1.2.1.2.2.2.1 x.2.1.1 x.2.1.2.1.1 x.2.1.2.1.2.1 x.2.1.2.1.2.2.1 x.2.1.2.1.2.2.2.1, fun (x : (Bool × (Nat × Nat × Nat × (Nat → Int) × Unit) × Unit) × (Bool × (Nat × Nat × Nat × (Nat → Int) × Unit) × Unit) × Unit) => (fun (n1 : Bool) (ap np mp : Nat) (tp : Nat → Int) (n2 : Bool) (aq nq mq : Nat) (tq : Nat → Int) => (N48 n1 ap np mp tp n2 aq nq mq tq) ((S.bigI (S.sv n1 (S.val np (fun j => tp (j + ap))) + S.sv n2 (S.val nq (fun j => tq (j + aq))))).1, (S.bigI (S.sv n1 (S.val np (fun j => tp (j + ap))) + S.sv n2 (S.val nq (fun j => tq (j + aq))))).2)) x.1.1 x.1.2.1.1 x.1.2.1.2.1 x.1.2.1.2.2.1 x.1.2.1.2.2.2.1 x.2.1.1 x.2.1.2.1.1 x.2.1.2.1.2.1 x.2.1.2.1.2.2.1 x.2.1.2.1.2.2.2.1, fun _ _ => .dead⟩
theorem s48 (n1 : Bool) (ap np mp : Nat) (tp : Nat → Int) (n2 : Bool) (aq nq mq : Nat) (tq : Nat → Int) (hp : (ap + np ≤ mp ∧ aq + nq ≤ mq) ∧ (np ≤ 1000 ∧ nq ≤ 1000) ∧ S.okG np (fun j => tp (j + ap)) = true ∧ S.okG nq (fun j => tq (j + aq)) = true) : Goes ((q48 n1 ap np mp tp n2 aq nq mq tq)) ((p48 n1 ap np mp tp n2 aq nq mq tq)) ((S.bigI (S.sv n1 (S.val np (fun j => tp (j + ap))) + S.sv n2 (S.val nq (fun j => tq (j + aq))))).1, (S.bigI (S.sv n1 (S.val np (fun j => tp (j + ap))) + S.sv n2 (S.val nq (fun j => tq (j + aq))))).2) := by
  have hp' := hp
  obtain ⟨⟨hp1, hp2⟩, ⟨hp3, hp4⟩, g1, g2⟩ := hp
  have v1 := val_nn (okG_D g1)
  have v2 := val_nn (okG_D g2)
  have lz := @len_zero
  have hC : S.cmpS (S.val np (fun j => tp (j + ap))) (S.val nq (fun j => tq (j + aq))) ≥ 0 ↔ (S.val nq (fun j => tq (j + aq))) ≤ (S.val np (fun j => tp (j + ap))) := by
    unfold S.cmpS
    (repeat' split) <;> omega
  have c1 : (ap + np ≤ mp ∧ np ≤ 1000000 ∧ aq + nq ≤ mq ∧ nq ≤ 1000000 ∧ S.okG np (fun j => tp (j + ap)) = true ∧ S.okG nq (fun j => tq (j + aq)) = true) := ⟨hp1, by omega, hp2, by omega, g1, g2⟩
  have cd : ∀ v : Int, 0 ≤ v → (S.okD (S.grp v).length fun j => S.at' (S.grp v) j) = true := fun v _ => okG_D grp_ok
  have cl : ∀ v : Int, v ≤ (S.val np (fun j => tp (j + ap))) + (S.val nq (fun j => tq (j + aq))) → (S.grp v).length ≤ 1000000 := fun v hv => by
    have h := grp_le (v := v) (n := 1001) (by have q1 := val_lt (okG_D g1) (show np ≤ 1000 by omega); have q2 := val_lt (okG_D g2) (show nq ≤ 1000 by omega); have e : S.pw 1001 = 1000000 * S.pw 1000 := rfl; omega)
    omega
  unfold p48
  have e0 : ∀ v : Int, 0 ≤ v → ((((S.grp v).length : Nat) : Int) == 0) = decide (v = 0) := fun v hv => by
    rw [Bool.eq_iff_iff, beq_iff_eq, decide_eq_true_eq]
    have := len_zero (v := v)
    omega
  have same : ∀ v : Int, ∀ neg : Bool, 0 ≤ v → Goes (q48 n1 ap np mp tp n2 aq nq mq tq) (bif (((S.grp v).length : Nat) : Int) == 0 then some (.inr (false, [])) else some (.inr (neg, S.grp v))) ((S.bigI (S.sv neg v)).1, (S.bigI (S.sv neg v)).2) := fun v neg hv => by
    rw [e0 v hv, big_of hv]
    rcases Int.lt_or_eq_of_le hv with h | h
    · rw [decide_eq_false (by omega), decide_eq_true h, Bool.and_true]
      exact goes_inr.mpr rfl
    · rw [← h, decide_eq_true rfl, decide_eq_false (by omega), Bool.and_false, grp_zero]
      exact goes_inr.mpr rfl
  cases n1
  · cases n2
    · rw [sv_same]
      have s := same ((S.val np (fun j => tp (j + ap))) + (S.val nq (fun j => tq (j + aq)))) false (by omega)
      simp only [cond_true, cond_false, decide_eq_true hp', Bool.false_eq_true]
      exact s
    · have e : S.sv false (S.val np (fun j => tp (j + ap))) + S.sv true (S.val nq (fun j => tq (j + aq))) = S.sv false ((S.val np (fun j => tp (j + ap))) - (S.val nq (fun j => tq (j + aq)))) := sv_diff
      have e' : S.sv false (S.val np (fun j => tp (j + ap))) + S.sv true (S.val nq (fun j => tq (j + aq))) = S.sv true ((S.val nq (fun j => tq (j + aq))) - (S.val np (fun j => tp (j + ap)))) := by rw [Int.add_comm]; exact sv_diff
      simp only [cond_true, cond_false, decide_eq_true c1]
      by_cases hc : (S.val nq (fun j => tq (j + aq))) ≤ (S.val np (fun j => tp (j + ap)))
      · rw [decide_eq_true (hC.mpr hc), e]
        simp only [cond_true, decide_eq_true (⟨⟨hp1, hp2⟩, ⟨hp3, hp4⟩, g1, g2, hc⟩ : (ap + np ≤ mp ∧ aq + nq ≤ mq) ∧ (np ≤ 1000 ∧ nq ≤ 1000) ∧ S.okG np (fun j => tp (j + ap)) = true ∧ S.okG nq (fun j => tq (j + aq)) = true ∧ (S.val nq (fun j => tq (j + aq))) ≤ (S.val np (fun j => tp (j + ap))))]
        exact same _ false (by omega)
      · rw [decide_eq_false (fun h => hc (hC.mp h)), e']
        simp only [cond_false, cond_true, decide_eq_true (⟨⟨hp2, hp1⟩, ⟨hp4, hp3⟩, g2, g1, by omega⟩ : (aq + nq ≤ mq ∧ ap + np ≤ mp) ∧ (nq ≤ 1000 ∧ np ≤ 1000) ∧ S.okG nq (fun j => tq (j + aq)) = true ∧ S.okG np (fun j => tp (j + ap)) = true ∧ (S.val np (fun j => tp (j + ap))) ≤ (S.val nq (fun j => tq (j + aq))))]
        exact same _ true (by omega)
  · cases n2
    · have e : S.sv true (S.val np (fun j => tp (j + ap))) + S.sv false (S.val nq (fun j => tq (j + aq))) = S.sv true ((S.val np (fun j => tp (j + ap))) - (S.val nq (fun j => tq (j + aq)))) := sv_diff
      have e' : S.sv true (S.val np (fun j => tp (j + ap))) + S.sv false (S.val nq (fun j => tq (j + aq))) = S.sv false ((S.val nq (fun j => tq (j + aq))) - (S.val np (fun j => tp (j + ap)))) := by rw [Int.add_comm]; exact sv_diff
      simp only [cond_true, cond_false, decide_eq_true c1]
      by_cases hc : (S.val nq (fun j => tq (j + aq))) ≤ (S.val np (fun j => tp (j + ap)))
      · rw [decide_eq_true (hC.mpr hc), e]
        simp only [cond_true, decide_eq_true (⟨⟨hp1, hp2⟩, ⟨hp3, hp4⟩, g1, g2, hc⟩ : (ap + np ≤ mp ∧ aq + nq ≤ mq) ∧ (np ≤ 1000 ∧ nq ≤ 1000) ∧ S.okG np (fun j => tp (j + ap)) = true ∧ S.okG nq (fun j => tq (j + aq)) = true ∧ (S.val nq (fun j => tq (j + aq))) ≤ (S.val np (fun j => tp (j + ap))))]
        exact same _ true (by omega)
      · rw [decide_eq_false (fun h => hc (hC.mp h)), e']
        simp only [cond_false, cond_true, decide_eq_true (⟨⟨hp2, hp1⟩, ⟨hp4, hp3⟩, g2, g1, by omega⟩ : (aq + nq ≤ mq ∧ ap + np ≤ mp) ∧ (nq ≤ 1000 ∧ np ≤ 1000) ∧ S.okG nq (fun j => tq (j + aq)) = true ∧ S.okG np (fun j => tp (j + ap)) = true ∧ (S.val np (fun j => tp (j + ap))) ≤ (S.val nq (fun j => tq (j + aq))))]
        exact same _ false (by omega)
    · rw [sv_same]
      have s := same ((S.val np (fun j => tp (j + ap))) + (S.val nq (fun j => tq (j + aq)))) true (by omega)
      simp only [cond_true, cond_false, decide_eq_true hp', Bool.false_eq_true]
      exact s
theorem k48_ok  : k48.ok Tryd.prog := by
  intro x hx
  obtain ⟨⟨n1, ⟨ap, np, mp, tp, _⟩, _⟩, ⟨n2, ⟨aq, nq, mq, tq, _⟩, _⟩, _⟩ := x
  obtain ⟨h1, h2⟩ := a48 n1 ap np mp tp n2 aq nq mq tq (s48 n1 ap np mp tp n2 aq nq mq tq (of_dec hx rfl))
  exact ⟨⟨400, (by decide : 2 + 1 + 1 ≤ 400), h1⟩, h2⟩
abbrev St50  := Empty
abbrev Rt50  := Bool × List Int
noncomputable def V50 (n1 : Bool) (ap np mp : Nat) (tp : Nat → Int) (n2 : Bool) (aq nq mq : Nat) (tq : Nat → Int) (r : Rt50) : PV := PV.agg [PV.bool r.1, PV.own (3) (1) (List.length r.2)]
noncomputable def N50 (n1 : Bool) (ap np mp : Nat) (tp : Nat → Int) (n2 : Bool) (aq nq mq : Nat) (tq : Nat → Int) (r : Rt50) : List Blk := [Blk.cols (List.length r.2) [Col.int IntKind.i64 fun j => S.at' r.2 j]]
noncomputable def I50 (n1 : Bool) (ap np mp : Nat) (tp : Nat → Int) (n2 : Bool) (aq nq mq : Nat) (tq : Nat → Int) : St50 → Hd := fun s => s.elim
noncomputable def q50 (n1 : Bool) (ap np mp : Nat) (tp : Nat → Int) (n2 : Bool) (aq nq mq : Nat) (tq : Nat → Int) : St50 → Option (St50 ⊕ Rt50) := fun s => s.elim
noncomputable def p50 (n1 : Bool) (ap np mp : Nat) (tp : Nat → Int) (n2 : Bool) (aq nq mq : Nat) (tq : Nat → Int) : Option (St50 ⊕ Rt50) := bif (n1)
 then (bif (n2)
 then (bif (decide
 ((ap + np ≤ mp ∧ aq + nq ≤ mq) ∧
 (np ≤ 1000 ∧ nq ≤ 1000) ∧
 (S.okG np fun j => tp (j + ap)) = true ∧
 (S.okG nq fun j => tq (j + aq)) = true))
 then (bif (decide
 (0 +
 Prod.fst
 (S.grpP ((S.val np fun j => tp (j + ap)) + S.val nq fun j => tq (j + aq))) ≤
 List.length
 (Prod.snd
 (S.grpP
 ((S.val np fun j => tp (j + ap)) + S.val nq fun j => tq (j + aq)))) ∧
 Prod.fst
 (S.grpP ((S.val np fun j => tp (j + ap)) + S.val nq fun j => tq (j + aq))) ≤
 1000000 ∧
 (S.okD
 (Prod.fst
 (S.grpP
 ((S.val np fun j => tp (j + ap)) + S.val nq fun j => tq (j + aq))))
 fun j =>
 S.at'
 (Prod.snd
 (S.grpP
 ((S.val np fun j => tp (j + ap)) + S.val nq fun j => tq (j + aq))))
 j) =
 true))
 then (some (.inr (S.sgB true
 (S.val
 (Prod.fst
 (S.grpP ((S.val np fun j => tp (j + ap)) + S.val nq fun j => tq (j + aq))))
 fun j =>
 S.at'
 (Prod.snd
 (S.grpP ((S.val np fun j => tp (j + ap)) + S.val nq fun j => tq (j + aq))))
 j), S.grp
 (S.val
 (Prod.fst
 (S.grpP ((S.val np fun j => tp (j + ap)) + S.val nq fun j => tq (j + aq))))
 fun j =>
 S.at'
 (Prod.snd
 (S.grpP ((S.val np fun j => tp (j + ap)) + S.val nq fun j => tq (j + aq))))
 j))))
 else (none))
 else (none))
 else (bif (decide
 (ap + np ≤ mp ∧
 np ≤ 1000000 ∧
 aq + nq ≤ mq ∧
 nq ≤ 1000000 ∧
 (S.okG np fun j => tp (j + ap)) = true ∧
 (S.okG nq fun j => tq (j + aq)) = true))
 then (bif (decide
 (S.cmpS (S.val np fun j => tp (j + ap)) (S.val nq fun j => tq (j + aq)) ≥ (0 : Int)))
 then (bif (decide
 ((ap + np ≤ mp ∧ aq + nq ≤ mq) ∧
 (np ≤ 1000 ∧ nq ≤ 1000) ∧
 (S.okG np fun j => tp (j + ap)) = true ∧
 (S.okG nq fun j => tq (j + aq)) = true ∧
 (S.val nq fun j => tq (j + aq)) ≤ S.val np fun j => tp (j + ap)))
 then (bif (decide
 (0 +
 List.length
 (S.grp ((S.val np fun j => tp (j + ap)) - S.val nq fun j => tq (j + aq))) ≤
 List.length
 (S.grp ((S.val np fun j => tp (j + ap)) - S.val nq fun j => tq (j + aq))) ∧
 List.length
 (S.grp ((S.val np fun j => tp (j + ap)) - S.val nq fun j => tq (j + aq))) ≤
 1000000 ∧
 (S.okD
 (List.length
 (S.grp ((S.val np fun j => tp (j + ap)) - S.val nq fun j => tq (j + aq))))
 fun j =>
 S.at'
 (S.grp ((S.val np fun j => tp (j + ap)) - S.val nq fun j => tq (j + aq)))
 j) =
 true))
 then (some (.inr (S.sgB true
 (S.val
 (List.length
 (S.grp ((S.val np fun j => tp (j + ap)) - S.val nq fun j => tq (j + aq))))
 fun j =>
 S.at'
 (S.grp ((S.val np fun j => tp (j + ap)) - S.val nq fun j => tq (j + aq))) j), S.grp
 (S.val
 (List.length
 (S.grp ((S.val np fun j => tp (j + ap)) - S.val nq fun j => tq (j + aq))))
 fun j =>
 S.at'
 (S.grp ((S.val np fun j => tp (j + ap)) - S.val nq fun j => tq (j + aq))) j))))
 else (none))
 else (none))
 else (bif (decide
 ((aq + nq ≤ mq ∧ ap + np ≤ mp) ∧
 (nq ≤ 1000 ∧ np ≤ 1000) ∧
 (S.okG nq fun j => tq (j + aq)) = true ∧
 (S.okG np fun j => tp (j + ap)) = true ∧
 (S.val np fun j => tp (j + ap)) ≤ S.val nq fun j => tq (j + aq)))
 then (bif (decide
 (0 +
 List.length
 (S.grp ((S.val nq fun j => tq (j + aq)) - S.val np fun j => tp (j + ap))) ≤
 List.length
 (S.grp ((S.val nq fun j => tq (j + aq)) - S.val np fun j => tp (j + ap))) ∧
 List.length
 (S.grp ((S.val nq fun j => tq (j + aq)) - S.val np fun j => tp (j + ap))) ≤
 1000000 ∧
 (S.okD
 (List.length
 (S.grp ((S.val nq fun j => tq (j + aq)) - S.val np fun j => tp (j + ap))))
 fun j =>
 S.at'
 (S.grp ((S.val nq fun j => tq (j + aq)) - S.val np fun j => tp (j + ap)))
 j) =
 true))
 then (some (.inr (S.sgB false
 (S.val
 (List.length
 (S.grp ((S.val nq fun j => tq (j + aq)) - S.val np fun j => tp (j + ap))))
 fun j =>
 S.at'
 (S.grp ((S.val nq fun j => tq (j + aq)) - S.val np fun j => tp (j + ap))) j), S.grp
 (S.val
 (List.length
 (S.grp ((S.val nq fun j => tq (j + aq)) - S.val np fun j => tp (j + ap))))
 fun j =>
 S.at'
 (S.grp ((S.val nq fun j => tq (j + aq)) - S.val np fun j => tp (j + ap))) j))))
 else (none))
 else (none)))
 else (none)))
 else (bif (n2)
 then (bif (decide
 (ap + np ≤ mp ∧
 np ≤ 1000000 ∧
 aq + nq ≤ mq ∧
 nq ≤ 1000000 ∧
 (S.okG np fun j => tp (j + ap)) = true ∧
 (S.okG nq fun j => tq (j + aq)) = true))
 then (bif (decide
 (S.cmpS (S.val np fun j => tp (j + ap)) (S.val nq fun j => tq (j + aq)) ≥ (0 : Int)))
 then (bif (decide
 ((ap + np ≤ mp ∧ aq + nq ≤ mq) ∧
 (np ≤ 1000 ∧ nq ≤ 1000) ∧
 (S.okG np fun j => tp (j + ap)) = true ∧
 (S.okG nq fun j => tq (j + aq)) = true ∧
 (S.val nq fun j => tq (j + aq)) ≤ S.val np fun j => tp (j + ap)))
 then (bif (decide
 (0 +
 List.length
 (S.grp ((S.val np fun j => tp (j + ap)) - S.val nq fun j => tq (j + aq))) ≤
 List.length
 (S.grp ((S.val np fun j => tp (j + ap)) - S.val nq fun j => tq (j + aq))) ∧
 List.length
 (S.grp ((S.val np fun j => tp (j + ap)) - S.val nq fun j => tq (j + aq))) ≤
 1000000 ∧
 (S.okD
 (List.length
 (S.grp ((S.val np fun j => tp (j + ap)) - S.val nq fun j => tq (j + aq))))
 fun j =>
 S.at'
 (S.grp ((S.val np fun j => tp (j + ap)) - S.val nq fun j => tq (j + aq)))
 j) =
 true))
 then (some (.inr (S.sgB false
 (S.val
 (List.length
 (S.grp ((S.val np fun j => tp (j + ap)) - S.val nq fun j => tq (j + aq))))
 fun j =>
 S.at'
 (S.grp ((S.val np fun j => tp (j + ap)) - S.val nq fun j => tq (j + aq))) j), S.grp
 (S.val
 (List.length
 (S.grp ((S.val np fun j => tp (j + ap)) - S.val nq fun j => tq (j + aq))))
 fun j =>
 S.at'
 (S.grp ((S.val np fun j => tp (j + ap)) - S.val nq fun j => tq (j + aq))) j))))
 else (none))
 else (none))
 else (bif (decide
 ((aq + nq ≤ mq ∧ ap + np ≤ mp) ∧
 (nq ≤ 1000 ∧ np ≤ 1000) ∧
 (S.okG nq fun j => tq (j + aq)) = true ∧
 (S.okG np fun j => tp (j + ap)) = true ∧
 (S.val np fun j => tp (j + ap)) ≤ S.val nq fun j => tq (j + aq)))
 then (bif (decide
 (0 +
 List.length
 (S.grp ((S.val nq fun j => tq (j + aq)) - S.val np fun j => tp (j + ap))) ≤
 List.length
 (S.grp ((S.val nq fun j => tq (j + aq)) - S.val np fun j => tp (j + ap))) ∧
 List.length
 (S.grp ((S.val nq fun j => tq (j + aq)) - S.val np fun j => tp (j + ap))) ≤
 1000000 ∧
 (S.okD
 (List.length
 (S.grp ((S.val nq fun j => tq (j + aq)) - S.val np fun j => tp (j + ap))))
 fun j =>
 S.at'
 (S.grp ((S.val nq fun j => tq (j + aq)) - S.val np fun j => tp (j + ap)))
 j) =
 true))
 then (some (.inr (S.sgB true
 (S.val
 (List.length
 (S.grp ((S.val nq fun j => tq (j + aq)) - S.val np fun j => tp (j + ap))))
 fun j =>
 S.at'
 (S.grp ((S.val nq fun j => tq (j + aq)) - S.val np fun j => tp (j + ap))) j), S.grp
 (S.val
 (List.length
 (S.grp ((S.val nq fun j => tq (j + aq)) - S.val np fun j => tp (j + ap))))
 fun j =>
 S.at'
 (S.grp ((S.val nq fun j => tq (j + aq)) - S.val np fun j => tp (j + ap))) j))))
 else (none))
 else (none)))
 else (none))
 else (bif (decide
 ((ap + np ≤ mp ∧ aq + nq ≤ mq) ∧
 (np ≤ 1000 ∧ nq ≤ 1000) ∧
 (S.okG np fun j => tp (j + ap)) = true ∧
 (S.okG nq fun j => tq (j + aq)) = true))
 then (bif (decide
 (0 +
 Prod.fst
 (S.grpP ((S.val np fun j => tp (j + ap)) + S.val nq fun j => tq (j + aq))) ≤
 List.length
 (Prod.snd
 (S.grpP
 ((S.val np fun j => tp (j + ap)) + S.val nq fun j => tq (j + aq)))) ∧
 Prod.fst
 (S.grpP ((S.val np fun j => tp (j + ap)) + S.val nq fun j => tq (j + aq))) ≤
 1000000 ∧
 (S.okD
 (Prod.fst
 (S.grpP
 ((S.val np fun j => tp (j + ap)) + S.val nq fun j => tq (j + aq))))
 fun j =>
 S.at'
 (Prod.snd
 (S.grpP
 ((S.val np fun j => tp (j + ap)) + S.val nq fun j => tq (j + aq))))
 j) =
 true))
 then (some (.inr (S.sgB false
 (S.val
 (Prod.fst
 (S.grpP ((S.val np fun j => tp (j + ap)) + S.val nq fun j => tq (j + aq))))
 fun j =>
 S.at'
 (Prod.snd
 (S.grpP ((S.val np fun j => tp (j + ap)) + S.val nq fun j => tq (j + aq))))
 j), S.grp
 (S.val
 (Prod.fst
 (S.grpP ((S.val np fun j => tp (j + ap)) + S.val nq fun j => tq (j + aq))))
 fun j =>
 S.at'
 (Prod.snd
 (S.grpP ((S.val np fun j => tp (j + ap)) + S.val nq fun j => tq (j + aq))))
 j))))
 else (none))
 else (none)))
noncomputable def Te50 (test : Bool → Prop → Prop → Prop) (Kst : KS) (Kret : KR) (n1 : Bool) (ap np mp : Nat) (tp : Nat → Int) (n2 : Bool) (aq nq mq : Nat) (tq : Nat → Int) : Prop :=
  test (n1)
 (test (n2)
 (test (n1)
 (test (decide
 ((ap + np ≤ mp ∧ aq + nq ≤ mq) ∧
 (np ≤ 1000 ∧ nq ≤ 1000) ∧
 (S.okG np fun j => tp (j + ap)) = true ∧
 (S.okG nq fun j => tq (j + aq)) = true))
 (test (decide
 (0 +
 Prod.fst
 (S.grpP ((S.val np fun j => tp (j + ap)) + S.val nq fun j => tq (j + aq))) ≤
 List.length
 (Prod.snd
 (S.grpP
 ((S.val np fun j => tp (j + ap)) + S.val nq fun j => tq (j + aq)))) ∧
 Prod.fst
 (S.grpP ((S.val np fun j => tp (j + ap)) + S.val nq fun j => tq (j + aq))) ≤
 1000000 ∧
 (S.okD
 (Prod.fst
 (S.grpP
 ((S.val np fun j => tp (j + ap)) + S.val nq fun j => tq (j + aq))))
 fun j =>
 S.at'
 (Prod.snd
 (S.grpP
 ((S.val np fun j => tp (j + ap)) + S.val nq fun j => tq (j + aq))))
 j) =
 true))
 (Kret (PV.agg
 [PV.bool
 (S.sgB true
 (S.val
 (Prod.fst
 (S.grpP
 ((S.val np fun j => tp (j + ap)) + S.val nq fun j => tq (j + aq))))
 fun j =>
 S.at'
 (Prod.snd
 (S.grpP
 ((S.val np fun j => tp (j + ap)) + S.val nq fun j => tq (j + aq))))
 j)),
 PV.own (8) (1)
 (List.length
 (S.grp
 (S.val
 (Prod.fst
 (S.grpP
 ((S.val np fun j => tp (j + ap)) + S.val nq fun j => tq (j + aq))))
 fun j =>
 S.at'
 (Prod.snd
 (S.grpP
 ((S.val np fun j => tp (j + ap)) + S.val nq fun j => tq (j + aq))))
 j)))]) ([[(1, false, Blk.cols mq [Col.int IntKind.i64 tq]),
 (0, false, Blk.cols mp [Col.int IntKind.i64 tp]),
 (8, true,
 Blk.cols
 (List.length
 (S.grp
 (S.val
 (Prod.fst
 (S.grpP
 ((S.val np fun j => tp (j + ap)) + S.val nq fun j => tq (j + aq))))
 fun j =>
 S.at'
 (Prod.snd
 (S.grpP
 ((S.val np fun j => tp (j + ap)) + S.val nq fun j => tq (j + aq))))
 j)))
 [Col.int IntKind.i64 fun j =>
 S.at'
 (S.grp
 (S.val
 (Prod.fst
 (S.grpP
 ((S.val np fun j => tp (j + ap)) + S.val nq fun j => tq (j + aq))))
 fun j =>
 S.at'
 (Prod.snd
 (S.grpP
 ((S.val np fun j => tp (j + ap)) + S.val nq fun j => tq (j + aq))))
 j))
 j])]]) (9))
 (False))
 (False))
 (test (decide
 ((ap + np ≤ mp ∧ aq + nq ≤ mq) ∧
 (np ≤ 1000 ∧ nq ≤ 1000) ∧
 (S.okG np fun j => tp (j + ap)) = true ∧
 (S.okG nq fun j => tq (j + aq)) = true))
 (test (decide
 (0 +
 Prod.fst
 (S.grpP ((S.val np fun j => tp (j + ap)) + S.val nq fun j => tq (j + aq))) ≤
 List.length
 (Prod.snd
 (S.grpP
 ((S.val np fun j => tp (j + ap)) + S.val nq fun j => tq (j + aq)))) ∧
 Prod.fst
 (S.grpP ((S.val np fun j => tp (j + ap)) + S.val nq fun j => tq (j + aq))) ≤
 1000000 ∧
 (S.okD
 (Prod.fst
 (S.grpP
 ((S.val np fun j => tp (j + ap)) + S.val nq fun j => tq (j + aq))))
 fun j =>
 S.at'
 (Prod.snd
 (S.grpP
 ((S.val np fun j => tp (j + ap)) + S.val nq fun j => tq (j + aq))))
 j) =
 true))
 (Kret (PV.agg
 [PV.bool
 (S.sgB false
 (S.val
 (Prod.fst
 (S.grpP
 ((S.val np fun j => tp (j + ap)) + S.val nq fun j => tq (j + aq))))
 fun j =>
 S.at'
 (Prod.snd
 (S.grpP
 ((S.val np fun j => tp (j + ap)) + S.val nq fun j => tq (j + aq))))
 j)),
 PV.own (8) (1)
 (List.length
 (S.grp
 (S.val
 (Prod.fst
 (S.grpP
 ((S.val np fun j => tp (j + ap)) + S.val nq fun j => tq (j + aq))))
 fun j =>
 S.at'
 (Prod.snd
 (S.grpP
 ((S.val np fun j => tp (j + ap)) + S.val nq fun j => tq (j + aq))))
 j)))]) ([[(1, false, Blk.cols mq [Col.int IntKind.i64 tq]),
 (0, false, Blk.cols mp [Col.int IntKind.i64 tp]),
 (8, true,
 Blk.cols
 (List.length
 (S.grp
 (S.val
 (Prod.fst
 (S.grpP
 ((S.val np fun j => tp (j + ap)) + S.val nq fun j => tq (j + aq))))
 fun j =>
 S.at'
 (Prod.snd
 (S.grpP
 ((S.val np fun j => tp (j + ap)) + S.val nq fun j => tq (j + aq))))
 j)))
 [Col.int IntKind.i64 fun j =>
 S.at'
 (S.grp
 (S.val
 (Prod.fst
 (S.grpP
 ((S.val np fun j => tp (j + ap)) + S.val nq fun j => tq (j + aq))))
 fun j =>
 S.at'
 (Prod.snd
 (S.grpP
 ((S.val np fun j => tp (j + ap)) + S.val nq fun j => tq (j + aq))))
 j))
 j])]]) (9))
 (False))
 (False)))
 (test (decide
 (ap + np ≤ mp ∧
 np ≤ 1000000 ∧
 aq + nq ≤ mq ∧
 nq ≤ 1000000 ∧
 (S.okG np fun j => tp (j + ap)) = true ∧
 (S.okG nq fun j => tq (j + aq)) = true))
 (test (decide
 (S.cmpS (S.val np fun j => tp (j + ap)) (S.val nq fun j => tq (j + aq)) ≥ (0 : Int)))
 (test (n1)
 (test (decide
 ((ap + np ≤ mp ∧ aq + nq ≤ mq) ∧
 (np ≤ 1000 ∧ nq ≤ 1000) ∧
 (S.okG np fun j => tp (j + ap)) = true ∧
 (S.okG nq fun j => tq (j + aq)) = true ∧
 (S.val nq fun j => tq (j + aq)) ≤ S.val np fun j => tp (j + ap)))
 (test (decide
 (0 +
 List.length
 (S.grp ((S.val np fun j => tp (j + ap)) - S.val nq fun j => tq (j + aq))) ≤
 List.length
 (S.grp ((S.val np fun j => tp (j + ap)) - S.val nq fun j => tq (j + aq))) ∧
 List.length
 (S.grp ((S.val np fun j => tp (j + ap)) - S.val nq fun j => tq (j + aq))) ≤
 1000000 ∧
 (S.okD
 (List.length
 (S.grp ((S.val np fun j => tp (j + ap)) - S.val nq fun j => tq (j + aq))))
 fun j =>
 S.at'
 (S.grp ((S.val np fun j => tp (j + ap)) - S.val nq fun j => tq (j + aq)))
 j) =
 true))
 (Kret (PV.agg
 [PV.bool
 (S.sgB true
 (S.val
 (List.length
 (S.grp ((S.val np fun j => tp (j + ap)) - S.val nq fun j => tq (j + aq))))
 fun j =>
 S.at'
 (S.grp ((S.val np fun j => tp (j + ap)) - S.val nq fun j => tq (j + aq)))
 j)),
 PV.own (9) (1)
 (List.length
 (S.grp
 (S.val
 (List.length
 (S.grp
 ((S.val np fun j => tp (j + ap)) - S.val nq fun j => tq (j + aq))))
 fun j =>
 S.at'
 (S.grp
 ((S.val np fun j => tp (j + ap)) - S.val nq fun j => tq (j + aq)))
 j)))]) ([[(1, false, Blk.cols mq [Col.int IntKind.i64 tq]),
 (0, false, Blk.cols mp [Col.int IntKind.i64 tp]),
 (9, true,
 Blk.cols
 (List.length
 (S.grp
 (S.val
 (List.length
 (S.grp
 ((S.val np fun j => tp (j + ap)) - S.val nq fun j => tq (j + aq))))
 fun j =>
 S.at'
 (S.grp
 ((S.val np fun j => tp (j + ap)) - S.val nq fun j => tq (j + aq)))
 j)))
 [Col.int IntKind.i64 fun j =>
 S.at'
 (S.grp
 (S.val
 (List.length
 (S.grp
 ((S.val np fun j => tp (j + ap)) - S.val nq fun j => tq (j + aq))))
 fun j =>
 S.at'
 (S.grp
 ((S.val np fun j => tp (j + ap)) - S.val nq fun j => tq (j + aq)))
 j))
 j])]]) (10))
 (False))
 (False))
 (test (decide
 ((ap + np ≤ mp ∧ aq + nq ≤ mq) ∧
 (np ≤ 1000 ∧ nq ≤ 1000) ∧
 (S.okG np fun j => tp (j + ap)) = true ∧
 (S.okG nq fun j => tq (j + aq)) = true ∧
 (S.val nq fun j => tq (j + aq)) ≤ S.val np fun j => tp (j + ap)))
 (test (decide
 (0 +
 List.length
 (S.grp ((S.val np fun j => tp (j + ap)) - S.val nq fun j => tq (j + aq))) ≤
 List.length
 (S.grp ((S.val np fun j => tp (j + ap)) - S.val nq fun j => tq (j + aq))) ∧
 List.length
 (S.grp ((S.val np fun j => tp (j + ap)) - S.val nq fun j => tq (j + aq))) ≤
 1000000 ∧
 (S.okD
 (List.length
 (S.grp ((S.val np fun j => tp (j + ap)) - S.val nq fun j => tq (j + aq))))
 fun j =>
 S.at'
 (S.grp ((S.val np fun j => tp (j + ap)) - S.val nq fun j => tq (j + aq)))
 j) =
 true))
 (Kret (PV.agg
 [PV.bool
 (S.sgB false
 (S.val
 (List.length
 (S.grp ((S.val np fun j => tp (j + ap)) - S.val nq fun j => tq (j + aq))))
 fun j =>
 S.at'
 (S.grp ((S.val np fun j => tp (j + ap)) - S.val nq fun j => tq (j + aq)))
 j)),
 PV.own (9) (1)
 (List.length
 (S.grp
 (S.val
 (List.length
 (S.grp
 ((S.val np fun j => tp (j + ap)) - S.val nq fun j => tq (j + aq))))
 fun j =>
 S.at'
 (S.grp
 ((S.val np fun j => tp (j + ap)) - S.val nq fun j => tq (j + aq)))
 j)))]) ([[(1, false, Blk.cols mq [Col.int IntKind.i64 tq]),
 (0, false, Blk.cols mp [Col.int IntKind.i64 tp]),
 (9, true,
 Blk.cols
 (List.length
 (S.grp
 (S.val
 (List.length
 (S.grp
 ((S.val np fun j => tp (j + ap)) - S.val nq fun j => tq (j + aq))))
 fun j =>
 S.at'
 (S.grp
 ((S.val np fun j => tp (j + ap)) - S.val nq fun j => tq (j + aq)))
 j)))
 [Col.int IntKind.i64 fun j =>
 S.at'
 (S.grp
 (S.val
 (List.length
 (S.grp
 ((S.val np fun j => tp (j + ap)) - S.val nq fun j => tq (j + aq))))
 fun j =>
 S.at'
 (S.grp
 ((S.val np fun j => tp (j + ap)) - S.val nq fun j => tq (j + aq)))
 j))
 j])]]) (10))
 (False))
 (False)))
 (test (n2)
 (test (decide
 ((aq + nq ≤ mq ∧ ap + np ≤ mp) ∧
 (nq ≤ 1000 ∧ np ≤ 1000) ∧
 (S.okG nq fun j => tq (j + aq)) = true ∧
 (S.okG np fun j => tp (j + ap)) = true ∧
 (S.val np fun j => tp (j + ap)) ≤ S.val nq fun j => tq (j + aq)))
 (test (decide
 (0 +
 List.length
 (S.grp ((S.val nq fun j => tq (j + aq)) - S.val np fun j => tp (j + ap))) ≤
 List.length
 (S.grp ((S.val nq fun j => tq (j + aq)) - S.val np fun j => tp (j + ap))) ∧
 List.length
 (S.grp ((S.val nq fun j => tq (j + aq)) - S.val np fun j => tp (j + ap))) ≤
 1000000 ∧
 (S.okD
 (List.length
 (S.grp ((S.val nq fun j => tq (j + aq)) - S.val np fun j => tp (j + ap))))
 fun j =>
 S.at'
 (S.grp ((S.val nq fun j => tq (j + aq)) - S.val np fun j => tp (j + ap)))
 j) =
 true))
 (Kret (PV.agg
 [PV.bool
 (S.sgB true
 (S.val
 (List.length
 (S.grp ((S.val nq fun j => tq (j + aq)) - S.val np fun j => tp (j + ap))))
 fun j =>
 S.at'
 (S.grp ((S.val nq fun j => tq (j + aq)) - S.val np fun j => tp (j + ap)))
 j)),
 PV.own (9) (1)
 (List.length
 (S.grp
 (S.val
 (List.length
 (S.grp
 ((S.val nq fun j => tq (j + aq)) - S.val np fun j => tp (j + ap))))
 fun j =>
 S.at'
 (S.grp
 ((S.val nq fun j => tq (j + aq)) - S.val np fun j => tp (j + ap)))
 j)))]) ([[(1, false, Blk.cols mq [Col.int IntKind.i64 tq]),
 (0, false, Blk.cols mp [Col.int IntKind.i64 tp]),
 (9, true,
 Blk.cols
 (List.length
 (S.grp
 (S.val
 (List.length
 (S.grp
 ((S.val nq fun j => tq (j + aq)) - S.val np fun j => tp (j + ap))))
 fun j =>
 S.at'
 (S.grp
 ((S.val nq fun j => tq (j + aq)) - S.val np fun j => tp (j + ap)))
 j)))
 [Col.int IntKind.i64 fun j =>
 S.at'
 (S.grp
 (S.val
 (List.length
 (S.grp
 ((S.val nq fun j => tq (j + aq)) - S.val np fun j => tp (j + ap))))
 fun j =>
 S.at'
 (S.grp
 ((S.val nq fun j => tq (j + aq)) - S.val np fun j => tp (j + ap)))
 j))
 j])]]) (10))
 (False))
 (False))
 (test (decide
 ((aq + nq ≤ mq ∧ ap + np ≤ mp) ∧
 (nq ≤ 1000 ∧ np ≤ 1000) ∧
 (S.okG nq fun j => tq (j + aq)) = true ∧
 (S.okG np fun j => tp (j + ap)) = true ∧
 (S.val np fun j => tp (j + ap)) ≤ S.val nq fun j => tq (j + aq)))
 (test (decide
 (0 +
 List.length
 (S.grp ((S.val nq fun j => tq (j + aq)) - S.val np fun j => tp (j + ap))) ≤
 List.length
 (S.grp ((S.val nq fun j => tq (j + aq)) - S.val np fun j => tp (j + ap))) ∧
 List.length
 (S.grp ((S.val nq fun j => tq (j + aq)) - S.val np fun j => tp (j + ap))) ≤
 1000000 ∧
 (S.okD
 (List.length
 (S.grp ((S.val nq fun j => tq (j + aq)) - S.val np fun j => tp (j + ap))))
 fun j =>
 S.at'
 (S.grp ((S.val nq fun j => tq (j + aq)) - S.val np fun j => tp (j + ap)))
 j) =
 true))
 (Kret (PV.agg
 [PV.bool
 (S.sgB false
 (S.val
 (List.length
 (S.grp ((S.val nq fun j => tq (j + aq)) - S.val np fun j => tp (j + ap))))
 fun j =>
 S.at'
 (S.grp ((S.val nq fun j => tq (j + aq)) - S.val np fun j => tp (j + ap)))
 j)),
 PV.own (9) (1)
 (List.length
 (S.grp
 (S.val
 (List.length
 (S.grp
 ((S.val nq fun j => tq (j + aq)) - S.val np fun j => tp (j + ap))))
 fun j =>
 S.at'
 (S.grp
 ((S.val nq fun j => tq (j + aq)) - S.val np fun j => tp (j + ap)))
 j)))]) ([[(1, false, Blk.cols mq [Col.int IntKind.i64 tq]),
 (0, false, Blk.cols mp [Col.int IntKind.i64 tp]),
 (9, true,
 Blk.cols
 (List.length
 (S.grp
 (S.val
 (List.length
 (S.grp
 ((S.val nq fun j => tq (j + aq)) - S.val np fun j => tp (j + ap))))
 fun j =>
 S.at'
 (S.grp
 ((S.val nq fun j => tq (j + aq)) - S.val np fun j => tp (j + ap)))
 j)))
 [Col.int IntKind.i64 fun j =>
 S.at'
 (S.grp
 (S.val
 (List.length
 (S.grp
 ((S.val nq fun j => tq (j + aq)) - S.val np fun j => tp (j + ap))))
 fun j =>
 S.at'
 (S.grp
 ((S.val nq fun j => tq (j + aq)) - S.val np fun j => tp (j + ap)))
 j))
 j])]]) (10))
 (False))
 (False))))
 (False)))
 (test (n2)
 (test (decide
 (ap + np ≤ mp ∧
 np ≤ 1000000 ∧
 aq + nq ≤ mq ∧
 nq ≤ 1000000 ∧
 (S.okG np fun j => tp (j + ap)) = true ∧
 (S.okG nq fun j => tq (j + aq)) = true))
 (test (decide
 (S.cmpS (S.val np fun j => tp (j + ap)) (S.val nq fun j => tq (j + aq)) ≥ (0 : Int)))
 (test (n1)
 (test (decide
 ((ap + np ≤ mp ∧ aq + nq ≤ mq) ∧
 (np ≤ 1000 ∧ nq ≤ 1000) ∧
 (S.okG np fun j => tp (j + ap)) = true ∧
 (S.okG nq fun j => tq (j + aq)) = true ∧
 (S.val nq fun j => tq (j + aq)) ≤ S.val np fun j => tp (j + ap)))
 (test (decide
 (0 +
 List.length
 (S.grp ((S.val np fun j => tp (j + ap)) - S.val nq fun j => tq (j + aq))) ≤
 List.length
 (S.grp ((S.val np fun j => tp (j + ap)) - S.val nq fun j => tq (j + aq))) ∧
 List.length
 (S.grp ((S.val np fun j => tp (j + ap)) - S.val nq fun j => tq (j + aq))) ≤
 1000000 ∧
 (S.okD
 (List.length
 (S.grp ((S.val np fun j => tp (j + ap)) - S.val nq fun j => tq (j + aq))))
 fun j =>
 S.at'
 (S.grp ((S.val np fun j => tp (j + ap)) - S.val nq fun j => tq (j + aq)))
 j) =
 true))
 (Kret (PV.agg
 [PV.bool
 (S.sgB true
 (S.val
 (List.length
 (S.grp ((S.val np fun j => tp (j + ap)) - S.val nq fun j => tq (j + aq))))
 fun j =>
 S.at'
 (S.grp ((S.val np fun j => tp (j + ap)) - S.val nq fun j => tq (j + aq)))
 j)),
 PV.own (9) (1)
 (List.length
 (S.grp
 (S.val
 (List.length
 (S.grp
 ((S.val np fun j => tp (j + ap)) - S.val nq fun j => tq (j + aq))))
 fun j =>
 S.at'
 (S.grp
 ((S.val np fun j => tp (j + ap)) - S.val nq fun j => tq (j + aq)))
 j)))]) ([[(1, false, Blk.cols mq [Col.int IntKind.i64 tq]),
 (0, false, Blk.cols mp [Col.int IntKind.i64 tp]),
 (9, true,
 Blk.cols
 (List.length
 (S.grp
 (S.val
 (List.length
 (S.grp
 ((S.val np fun j => tp (j + ap)) - S.val nq fun j => tq (j + aq))))
 fun j =>
 S.at'
 (S.grp
 ((S.val np fun j => tp (j + ap)) - S.val nq fun j => tq (j + aq)))
 j)))
 [Col.int IntKind.i64 fun j =>
 S.at'
 (S.grp
 (S.val
 (List.length
 (S.grp
 ((S.val np fun j => tp (j + ap)) - S.val nq fun j => tq (j + aq))))
 fun j =>
 S.at'
 (S.grp
 ((S.val np fun j => tp (j + ap)) - S.val nq fun j => tq (j + aq)))
 j))
 j])]]) (10))
 (False))
 (False))
 (test (decide
 ((ap + np ≤ mp ∧ aq + nq ≤ mq) ∧
 (np ≤ 1000 ∧ nq ≤ 1000) ∧
 (S.okG np fun j => tp (j + ap)) = true ∧
 (S.okG nq fun j => tq (j + aq)) = true ∧
 (S.val nq fun j => tq (j + aq)) ≤ S.val np fun j => tp (j + ap)))
 (test (decide
 (0 +
 List.length
 (S.grp ((S.val np fun j => tp (j + ap)) - S.val nq fun j => tq (j + aq))) ≤
 List.length
 (S.grp ((S.val np fun j => tp (j + ap)) - S.val nq fun j => tq (j + aq))) ∧
 List.length
 (S.grp ((S.val np fun j => tp (j + ap)) - S.val nq fun j => tq (j + aq))) ≤
 1000000 ∧
 (S.okD
 (List.length
 (S.grp ((S.val np fun j => tp (j + ap)) - S.val nq fun j => tq (j + aq))))
 fun j =>
 S.at'
 (S.grp ((S.val np fun j => tp (j + ap)) - S.val nq fun j => tq (j + aq)))
 j) =
 true))
 (Kret (PV.agg
 [PV.bool
 (S.sgB false
 (S.val
 (List.length
 (S.grp ((S.val np fun j => tp (j + ap)) - S.val nq fun j => tq (j + aq))))
 fun j =>
 S.at'
 (S.grp ((S.val np fun j => tp (j + ap)) - S.val nq fun j => tq (j + aq)))
 j)),
 PV.own (9) (1)
 (List.length
 (S.grp
 (S.val
 (List.length
 (S.grp
 ((S.val np fun j => tp (j + ap)) - S.val nq fun j => tq (j + aq))))
 fun j =>
 S.at'
 (S.grp
 ((S.val np fun j => tp (j + ap)) - S.val nq fun j => tq (j + aq)))
 j)))]) ([[(1, false, Blk.cols mq [Col.int IntKind.i64 tq]),
 (0, false, Blk.cols mp [Col.int IntKind.i64 tp]),
 (9, true,
 Blk.cols
 (List.length
 (S.grp
 (S.val
 (List.length
 (S.grp
 ((S.val np fun j => tp (j + ap)) - S.val nq fun j => tq (j + aq))))
 fun j =>
 S.at'
 (S.grp
 ((S.val np fun j => tp (j + ap)) - S.val nq fun j => tq (j + aq)))
 j)))
 [Col.int IntKind.i64 fun j =>
 S.at'
 (S.grp
 (S.val
 (List.length
 (S.grp
 ((S.val np fun j => tp (j + ap)) - S.val nq fun j => tq (j + aq))))
 fun j =>
 S.at'
 (S.grp
 ((S.val np fun j => tp (j + ap)) - S.val nq fun j => tq (j + aq)))
 j))
 j])]]) (10))
 (False))
 (False)))
 (test (n2)
 (test (decide
 ((aq + nq ≤ mq ∧ ap + np ≤ mp) ∧
 (nq ≤ 1000 ∧ np ≤ 1000) ∧
 (S.okG nq fun j => tq (j + aq)) = true ∧
 (S.okG np fun j => tp (j + ap)) = true ∧
 (S.val np fun j => tp (j + ap)) ≤ S.val nq fun j => tq (j + aq)))
 (test (decide
 (0 +
 List.length
 (S.grp ((S.val nq fun j => tq (j + aq)) - S.val np fun j => tp (j + ap))) ≤
 List.length
 (S.grp ((S.val nq fun j => tq (j + aq)) - S.val np fun j => tp (j + ap))) ∧
 List.length
 (S.grp ((S.val nq fun j => tq (j + aq)) - S.val np fun j => tp (j + ap))) ≤
 1000000 ∧
 (S.okD
 (List.length
 (S.grp ((S.val nq fun j => tq (j + aq)) - S.val np fun j => tp (j + ap))))
 fun j =>
 S.at'
 (S.grp ((S.val nq fun j => tq (j + aq)) - S.val np fun j => tp (j + ap)))
 j) =
 true))
 (Kret (PV.agg
 [PV.bool
 (S.sgB true
 (S.val
 (List.length
 (S.grp ((S.val nq fun j => tq (j + aq)) - S.val np fun j => tp (j + ap))))
 fun j =>
 S.at'
 (S.grp ((S.val nq fun j => tq (j + aq)) - S.val np fun j => tp (j + ap)))
 j)),
 PV.own (9) (1)
 (List.length
 (S.grp
 (S.val
 (List.length
 (S.grp
 ((S.val nq fun j => tq (j + aq)) - S.val np fun j => tp (j + ap))))
 fun j =>
 S.at'
 (S.grp
 ((S.val nq fun j => tq (j + aq)) - S.val np fun j => tp (j + ap)))
 j)))]) ([[(1, false, Blk.cols mq [Col.int IntKind.i64 tq]),
 (0, false, Blk.cols mp [Col.int IntKind.i64 tp]),
 (9, true,
 Blk.cols
 (List.length
 (S.grp
 (S.val
 (List.length
 (S.grp
 ((S.val nq fun j => tq (j + aq)) - S.val np fun j => tp (j + ap))))
 fun j =>
 S.at'
 (S.grp
 ((S.val nq fun j => tq (j + aq)) - S.val np fun j => tp (j + ap)))
 j)))
 [Col.int IntKind.i64 fun j =>
 S.at'
 (S.grp
 (S.val
 (List.length
 (S.grp
 ((S.val nq fun j => tq (j + aq)) - S.val np fun j => tp (j + ap))))
 fun j =>
 S.at'
 (S.grp
 ((S.val nq fun j => tq (j + aq)) - S.val np fun j => tp (j + ap)))
 j))
 j])]]) (10))
 (False))
 (False))
 (test (decide
 ((aq + nq ≤ mq ∧ ap + np ≤ mp) ∧
 (nq ≤ 1000 ∧ np ≤ 1000) ∧
 (S.okG nq fun j => tq (j + aq)) = true ∧
 (S.okG np fun j => tp (j + ap)) = true ∧
 (S.val np fun j => tp (j + ap)) ≤ S.val nq fun j => tq (j + aq)))
 (test (decide
 (0 +
 List.length
 (S.grp ((S.val nq fun j => tq (j + aq)) - S.val np fun j => tp (j + ap))) ≤
 List.length
 (S.grp ((S.val nq fun j => tq (j + aq)) - S.val np fun j => tp (j + ap))) ∧
 List.length
 (S.grp ((S.val nq fun j => tq (j + aq)) - S.val np fun j => tp (j + ap))) ≤
 1000000 ∧
 (S.okD
 (List.length
 (S.grp ((S.val nq fun j => tq (j + aq)) - S.val np fun j => tp (j + ap))))
 fun j =>
 S.at'
 (S.grp ((S.val nq fun j => tq (j + aq)) - S.val np fun j => tp (j + ap)))
 j) =
 true))
 (Kret (PV.agg
 [PV.bool
 (S.sgB false
 (S.val
 (List.length
 (S.grp ((S.val nq fun j => tq (j + aq)) - S.val np fun j => tp (j + ap))))
 fun j =>
 S.at'
 (S.grp ((S.val nq fun j => tq (j + aq)) - S.val np fun j => tp (j + ap)))
 j)),
 PV.own (9) (1)
 (List.length
 (S.grp
 (S.val
 (List.length
 (S.grp
 ((S.val nq fun j => tq (j + aq)) - S.val np fun j => tp (j + ap))))
 fun j =>
 S.at'
 (S.grp
 ((S.val nq fun j => tq (j + aq)) - S.val np fun j => tp (j + ap)))
 j)))]) ([[(1, false, Blk.cols mq [Col.int IntKind.i64 tq]),
 (0, false, Blk.cols mp [Col.int IntKind.i64 tp]),
 (9, true,
 Blk.cols
 (List.length
 (S.grp
 (S.val
 (List.length
 (S.grp
 ((S.val nq fun j => tq (j + aq)) - S.val np fun j => tp (j + ap))))
 fun j =>
 S.at'
 (S.grp
 ((S.val nq fun j => tq (j + aq)) - S.val np fun j => tp (j + ap)))
 j)))
 [Col.int IntKind.i64 fun j =>
 S.at'
 (S.grp
 (S.val
 (List.length
 (S.grp
 ((S.val nq fun j => tq (j + aq)) - S.val np fun j => tp (j + ap))))
 fun j =>
 S.at'
 (S.grp
 ((S.val nq fun j => tq (j + aq)) - S.val np fun j => tp (j + ap)))
 j))
 j])]]) (10))
 (False))
 (False))))
 (False))
 (test (n1)
 (test (decide
 ((ap + np ≤ mp ∧ aq + nq ≤ mq) ∧
 (np ≤ 1000 ∧ nq ≤ 1000) ∧
 (S.okG np fun j => tp (j + ap)) = true ∧
 (S.okG nq fun j => tq (j + aq)) = true))
 (test (decide
 (0 +
 Prod.fst
 (S.grpP ((S.val np fun j => tp (j + ap)) + S.val nq fun j => tq (j + aq))) ≤
 List.length
 (Prod.snd
 (S.grpP
 ((S.val np fun j => tp (j + ap)) + S.val nq fun j => tq (j + aq)))) ∧
 Prod.fst
 (S.grpP ((S.val np fun j => tp (j + ap)) + S.val nq fun j => tq (j + aq))) ≤
 1000000 ∧
 (S.okD
 (Prod.fst
 (S.grpP
 ((S.val np fun j => tp (j + ap)) + S.val nq fun j => tq (j + aq))))
 fun j =>
 S.at'
 (Prod.snd
 (S.grpP
 ((S.val np fun j => tp (j + ap)) + S.val nq fun j => tq (j + aq))))
 j) =
 true))
 (Kret (PV.agg
 [PV.bool
 (S.sgB true
 (S.val
 (Prod.fst
 (S.grpP
 ((S.val np fun j => tp (j + ap)) + S.val nq fun j => tq (j + aq))))
 fun j =>
 S.at'
 (Prod.snd
 (S.grpP
 ((S.val np fun j => tp (j + ap)) + S.val nq fun j => tq (j + aq))))
 j)),
 PV.own (8) (1)
 (List.length
 (S.grp
 (S.val
 (Prod.fst
 (S.grpP
 ((S.val np fun j => tp (j + ap)) + S.val nq fun j => tq (j + aq))))
 fun j =>
 S.at'
 (Prod.snd
 (S.grpP
 ((S.val np fun j => tp (j + ap)) + S.val nq fun j => tq (j + aq))))
 j)))]) ([[(1, false, Blk.cols mq [Col.int IntKind.i64 tq]),
 (0, false, Blk.cols mp [Col.int IntKind.i64 tp]),
 (8, true,
 Blk.cols
 (List.length
 (S.grp
 (S.val
 (Prod.fst
 (S.grpP
 ((S.val np fun j => tp (j + ap)) + S.val nq fun j => tq (j + aq))))
 fun j =>
 S.at'
 (Prod.snd
 (S.grpP
 ((S.val np fun j => tp (j + ap)) + S.val nq fun j => tq (j + aq))))
 j)))
 [Col.int IntKind.i64 fun j =>
 S.at'
 (S.grp
 (S.val
 (Prod.fst
 (S.grpP
 ((S.val np fun j => tp (j + ap)) + S.val nq fun j => tq (j + aq))))
 fun j =>
 S.at'
 (Prod.snd
 (S.grpP
 ((S.val np fun j => tp (j + ap)) + S.val nq fun j => tq (j + aq))))
 j))
 j])]]) (9))
 (False))
 (False))
 (test (decide
 ((ap + np ≤ mp ∧ aq + nq ≤ mq) ∧
 (np ≤ 1000 ∧ nq ≤ 1000) ∧
 (S.okG np fun j => tp (j + ap)) = true ∧
 (S.okG nq fun j => tq (j + aq)) = true))
 (test (decide
 (0 +
 Prod.fst
 (S.grpP ((S.val np fun j => tp (j + ap)) + S.val nq fun j => tq (j + aq))) ≤
 List.length
 (Prod.snd
 (S.grpP
 ((S.val np fun j => tp (j + ap)) + S.val nq fun j => tq (j + aq)))) ∧
 Prod.fst
 (S.grpP ((S.val np fun j => tp (j + ap)) + S.val nq fun j => tq (j + aq))) ≤
 1000000 ∧
 (S.okD
 (Prod.fst
 (S.grpP
 ((S.val np fun j => tp (j + ap)) + S.val nq fun j => tq (j + aq))))
 fun j =>
 S.at'
 (Prod.snd
 (S.grpP
 ((S.val np fun j => tp (j + ap)) + S.val nq fun j => tq (j + aq))))
 j) =
 true))
 (Kret (PV.agg
 [PV.bool
 (S.sgB false
 (S.val
 (Prod.fst
 (S.grpP
 ((S.val np fun j => tp (j + ap)) + S.val nq fun j => tq (j + aq))))
 fun j =>
 S.at'
 (Prod.snd
 (S.grpP
 ((S.val np fun j => tp (j + ap)) + S.val nq fun j => tq (j + aq))))
 j)),
 PV.own (8) (1)
 (List.length
 (S.grp
 (S.val
 (Prod.fst
 (S.grpP
 ((S.val np fun j => tp (j + ap)) + S.val nq fun j => tq (j + aq))))
 fun j =>
 S.at'
 (Prod.snd
 (S.grpP
 ((S.val np fun j => tp (j + ap)) + S.val nq fun j => tq (j + aq))))
 j)))]) ([[(1, false, Blk.cols mq [Col.int IntKind.i64 tq]),
 (0, false, Blk.cols mp [Col.int IntKind.i64 tp]),
 (8, true,
 Blk.cols
 (List.length
 (S.grp
 (S.val
 (Prod.fst
 (S.grpP
 ((S.val np fun j => tp (j + ap)) + S.val nq fun j => tq (j + aq))))
 fun j =>
 S.at'
 (Prod.snd
 (S.grpP
 ((S.val np fun j => tp (j + ap)) + S.val nq fun j => tq (j + aq))))
 j)))
 [Col.int IntKind.i64 fun j =>
 S.at'
 (S.grp
 (S.val
 (Prod.fst
 (S.grpP
 ((S.val np fun j => tp (j + ap)) + S.val nq fun j => tq (j + aq))))
 fun j =>
 S.at'
 (Prod.snd
 (S.grpP
 ((S.val np fun j => tp (j + ap)) + S.val nq fun j => tq (j + aq))))
 j))
 j])]]) (9))
 (False))
 (False))))
theorem te50 (test : Bool → Prop → Prop → Prop) (Kst : KS) (Kret : KR) (n1 : Bool) (ap np mp : Nat) (tp : Nat → Int) (n2 : Bool) (aq nq mq : Nat) (tq : Nat → Int) : run test Tryd.env true (xC test) true 400 ⟨50, [.cd (mkFn Tryd.f50).body], argT 0 [.agg [.bool n1, .loose ⟨0, 1, ap, 0⟩ np], .agg [.bool n2, .loose ⟨1, 1, aq, 0⟩ nq]], [[], [(0, (false, .cols mp [.int .i64 tp])), (1, (false, .cols mq [.int .i64 tq]))]], 2⟩ (proj 2 [] Kst Kret) =
  Te50 test Kst Kret n1 ap np mp tp n2 aq nq mq tq := by kernel_rfl
attribute [local irreducible] Int.subNatNat in
theorem be50 (n1 : Bool) (ap np mp : Nat) (tp : Nat → Int) (n2 : Bool) (aq nq mq : Nat) (tq : Nat → Int) (Kst : KS) (Kret : KR) (x : St50 ⊕ Rt50) (hS : HS 2 400 ((I50 n1 ap np mp tp n2 aq nq mq tq)) Kst x) (hR : HR 2 400 ((V50 n1 ap np mp tp n2 aq nq mq tq)) (fun r => [newL (2 + 1) ((N50 n1 ap np mp tp n2 aq nq mq tq) r) ++ [(0, (false, .cols mp [.int .i64 tp])), (1, (false, .cols mq [.int .i64 tq]))]]) Kret x) (h : p50 n1 ap np mp tp n2 aq nq mq tq = some x) : Te50 cond Kst Kret n1 ap np mp tp n2 aq nq mq tq := by
  unfold Te50
  unfold p50 at h
  refine bif_split h
   (fun c0 h => bif_split h
   (fun c1 h => cond_yes c0 (bif_split h
   (fun c2 h => bif_split h
   (fun c3 h => ?_)
   (fun c3 h => ?_))
   (fun c2 h => ?_)))
   (fun c1 h => bif_split h
   (fun c2 h => bif_split h
   (fun c3 h => cond_yes c0 (bif_split h
   (fun c4 h => bif_split h
   (fun c5 h => ?_)
   (fun c5 h => ?_))
   (fun c4 h => ?_)))
   (fun c3 h => cond_no c1 (bif_split h
   (fun c4 h => bif_split h
   (fun c5 h => ?_)
   (fun c5 h => ?_))
   (fun c4 h => ?_))))
   (fun c2 h => ?_)))
   (fun c0 h => bif_split h
   (fun c1 h => bif_split h
   (fun c2 h => bif_split h
   (fun c3 h => cond_no c0 (bif_split h
   (fun c4 h => bif_split h
   (fun c5 h => ?_)
   (fun c5 h => ?_))
   (fun c4 h => ?_)))
   (fun c3 h => cond_yes c1 (bif_split h
   (fun c4 h => bif_split h
   (fun c5 h => ?_)
   (fun c5 h => ?_))
   (fun c4 h => ?_))))
   (fun c2 h => ?_))
   (fun c1 h => cond_no c0 (bif_split h
   (fun c2 h => bif_split h
   (fun c3 h => ?_)
   (fun c3 h => ?_))
   (fun c2 h => ?_))))
  all_goals first
    | exact no_some h
    | exact ret_at hR _ h (fun n => bif Nat.beq n 3 then 9 else n) rfl rfl rfl (rn_agg ⟨(rn_bool rfl), (rn_own (use_own rfl) rfl rfl), trivial⟩) rfl (entl_new (use_own rfl) rfl (Nat.le_of_eq rfl) (rcs_int (fun _ _ => rfl) rcs_nil) (entl_bor (use_lo rfl) rfl rfl (entl_bor (use_lo rfl) rfl rfl entl_nil)))
    | exact ret_at hR _ h (fun n => bif Nat.beq n 3 then 8 else n) rfl rfl rfl (rn_agg ⟨(rn_bool rfl), (rn_own (use_own rfl) rfl rfl), trivial⟩) rfl (entl_new (use_own rfl) rfl (Nat.le_of_eq rfl) (rcs_int (fun _ _ => rfl) rcs_nil) (entl_bor (use_lo rfl) rfl rfl (entl_bor (use_lo rfl) rfl rfl entl_nil)))
theorem a50 (n1 : Bool) (ap np mp : Nat) (tp : Nat → Int) (n2 : Bool) (aq nq mq : Nat) (tq : Nat → Int) {r : Rt50} (h : Goes ((q50 n1 ap np mp tp n2 aq nq mq tq)) ((p50 n1 ap np mp tp n2 aq nq mq tq)) r) : CallR Tryd.prog 50 [.agg [.bool n1, .loose ⟨0, 1, ap, 0⟩ np], .agg [.bool n2, .loose ⟨1, 1, aq, 0⟩ nq]] [[(0, (false, .cols mp [.int .i64 tp])), (1, (false, .cols mq [.int .i64 tq]))]] 2 ((V50 n1 ap np mp tp n2 aq nq mq tq) r) ((fun r => [newL (2 + 1) ((N50 n1 ap np mp tp n2 aq nq mq tq) r) ++ [(0, (false, .cols mp [.int .i64 tp])), (1, (false, .cols mq [.int .i64 tq]))]]) r) 400 ∧ ∃ F, Tryd.prog.funcs[50]? = some F ∧ F.body.isSome = true ∧ (F.name == "runtime.NumGoroutine") = false := by
  refine dec_calls (f := 50) (lo := 2) (hi := 400) (H := [[(0, (false, .cols mp [.int .i64 tp])), (1, (false, .cols mq [.int .i64 tq]))]]) (args := [.agg [.bool n1, .loose ⟨0, 1, ap, 0⟩ np], .agg [.bool n2, .loose ⟨1, 1, aq, 0⟩ nq]]) Tryd.envOk Tryd.mixed xC_ok ((I50 n1 ap np mp tp n2 aq nq mq tq)) ((V50 n1 ap np mp tp n2 aq nq mq tq)) (fun r => [newL (2 + 1) ((N50 n1 ap np mp tp n2 aq nq mq tq) r) ++ [(0, (false, .cols mp [.int .i64 tp])), (1, (false, .cols mq [.int .i64 tq]))]]) (fn := mkFn Tryd.f50) (ts := []) (n := 400) rfl (by decide) (by simp) (names_of rfl) ?_ ?_ ?_ h
  · intro s; exact s.elim
  · intro Kst Kret x hS hR h
    exact Holds.eq (te50 cond Kst Kret n1 ap np mp tp n2 aq nq mq tq) (be50 n1 ap np mp tp n2 aq nq mq tq Kst Kret x hS hR h)
  · intro Kst Kret x hS hR s h; exact s.elim
noncomputable def k50  : Con := ⟨50, [.agg [.plain (.bool), .list [.int .i64]], .agg [.plain (.bool), .list [.int .i64]]], fun (x : (Bool × (Nat × Nat × Nat × (Nat → Int) × Unit) × Unit) × (Bool × (Nat × Nat × Nat × (Nat → Int) × Unit) × Unit) × Unit) => (fun (n1 : Bool) (ap np mp : Nat) (tp : Nat → Int) (n2 : Bool) (aq nq mq : Nat) (tq : Nat → Int) => decide ((ap + np ≤ mp ∧ aq + nq ≤ mq) ∧ (np ≤ 1000 ∧ nq ≤ 1000) ∧ S.okG np (fun j => tp (j + ap)) = true ∧ S.okG nq (fun j => tq (j + aq)) = true)) x.1.1 x.1.2.1.1 x.1.2.1.2.1 x.1.2.1.2.2.1 x.1.2.1.2.2.2.1 x.2.1.1 x.2.1.2.1.1 x.2.1.2.1.2.1 x.2.1.2.1.2.2.1 x.2.1.2.1.2.2.2.1, fun (x : (Bool × (Nat × Nat × Nat × (Nat → Int) × Unit) × Unit) × (Bool × (Nat × Nat × Nat × (Nat → Int) × Unit) × Unit) × Unit) => (fun (n1 : Bool) (ap np mp : Nat) (tp : Nat → Int) (n2 : Bool) (aq nq mq : Nat) (tq : Nat → Int) => (V50 n1 ap np mp tp n2 aq nq mq tq) ((S.bigI (S.sv n1 (S.val np (fun j => tp (j + ap))) + S.sv n2 (S.val nq (fun j => tq (j + aq))))).1, (S.bigI (S.sv n1 (S.val np (fun j => tp (j + ap))) + S.sv n2 (S.val nq (fun j => tq (j + aq))))).2)) x.1.1 x.1.2.1.1 x.1.2.1.2.1 x.1.2.1.2.2.1 x.1.2.1.2.2.2.1 x.2.1.1 x.2.1.2.1.1 x.2.1.2.1.2.1 x.2.1.2.1.2.2.1 x.2.1.2.1.2.2.2.1, fun (x : (Bool × (Nat × Nat × Nat × (Nat → Int) × Unit) × Unit) × (Bool × (Nat × Nat × Nat × (Nat → Int) × Unit) × Unit) × Unit) => (fun (n1 : Bool) (ap np mp : Nat) (tp : Nat → Int) (n2 : Bool) (aq nq mq : Nat) (tq : Nat → Int) => (N50 n1 ap np mp tp n2 aq nq mq tq) ((S.bigI (S.sv n1 (S.val np (fun j => tp (j + ap))) + S.sv n2 (S.val nq (fun j => tq (j + aq))))).1, (S.bigI (S.sv n1 (S.val np (fun j => tp (j + ap))) + S.sv n2 (S.val nq (fun j => tq (j + aq))))).2)) x.1.1 x.1.2.1.1 x.1.2.1.2.1 x.1.2.1.2.2.1 x.1.2.1.2.2.2.1 x.2.1.1 x.2.1.2.1.1 x.2.1.2.1.2.1 x.2.1.2.1.2.2.1 x.2.1.2.1.2.2.2.1, fun _ _ => .dead⟩
theorem s50 (n1 : Bool) (ap np mp : Nat) (tp : Nat → Int) (n2 : Bool) (aq nq mq : Nat) (tq : Nat → Int) (hp : (ap + np ≤ mp ∧ aq + nq ≤ mq) ∧ (np ≤ 1000 ∧ nq ≤ 1000) ∧ S.okG np (fun j => tp (j + ap)) = true ∧ S.okG nq (fun j => tq (j + aq)) = true) : Goes ((q50 n1 ap np mp tp n2 aq nq mq tq)) ((p50 n1 ap np mp tp n2 aq nq mq tq)) ((S.bigI (S.sv n1 (S.val np (fun j => tp (j + ap))) + S.sv n2 (S.val nq (fun j => tq (j + aq))))).1, (S.bigI (S.sv n1 (S.val np (fun j => tp (j + ap))) + S.sv n2 (S.val nq (fun j => tq (j + aq))))).2) := by
  have hp' := hp
  obtain ⟨⟨hp1, hp2⟩, ⟨hp3, hp4⟩, g1, g2⟩ := hp
  have v1 := val_nn (okG_D g1)
  have v2 := val_nn (okG_D g2)
  have lz := @len_zero
  have hC : S.cmpS (S.val np (fun j => tp (j + ap))) (S.val nq (fun j => tq (j + aq))) ≥ 0 ↔ (S.val nq (fun j => tq (j + aq))) ≤ (S.val np (fun j => tp (j + ap))) := by
    unfold S.cmpS
    (repeat' split) <;> omega
  have c1 : (ap + np ≤ mp ∧ np ≤ 1000000 ∧ aq + nq ≤ mq ∧ nq ≤ 1000000 ∧ S.okG np (fun j => tp (j + ap)) = true ∧ S.okG nq (fun j => tq (j + aq)) = true) := ⟨hp1, by omega, hp2, by omega, g1, g2⟩
  have cd : ∀ v : Int, 0 ≤ v → (S.okD (S.grp v).length fun j => S.at' (S.grp v) j) = true := fun v _ => okG_D grp_ok
  have cl : ∀ v : Int, v ≤ (S.val np (fun j => tp (j + ap))) + (S.val nq (fun j => tq (j + aq))) → (S.grp v).length ≤ 1000000 := fun v hv => by
    have h := grp_le (v := v) (n := 1001) (by have q1 := val_lt (okG_D g1) (show np ≤ 1000 by omega); have q2 := val_lt (okG_D g2) (show nq ≤ 1000 by omega); have e : S.pw 1001 = 1000000 * S.pw 1000 := rfl; omega)
    omega
  unfold p50
  have same : ∀ v : Int, ∀ neg : Bool, 0 ≤ v → v ≤ (S.val np (fun j => tp (j + ap))) + (S.val nq (fun j => tq (j + aq))) → Goes (q50 n1 ap np mp tp n2 aq nq mq tq) (bif decide (0 + (S.grp v).length ≤ (S.grp v).length ∧ (S.grp v).length ≤ 1000000 ∧ (S.okD (S.grp v).length fun j => S.at' (S.grp v) j) = true) then some (.inr (S.sgB neg (S.val (S.grp v).length fun j => S.at' (S.grp v) j), S.grp (S.val (S.grp v).length fun j => S.at' (S.grp v) j))) else none) ((S.bigI (S.sv neg v)).1, (S.bigI (S.sv neg v)).2) := fun v neg hv hv2 => by
    rw [decide_eq_true (⟨Nat.le_of_eq (Nat.zero_add _), cl v hv2, cd v hv⟩), cond_true, val_grpL hv, big_of hv]
    exact goes_inr.mpr rfl
  cases n1
  · cases n2
    · rw [sv_same]
      have s := same ((S.val np (fun j => tp (j + ap))) + (S.val nq (fun j => tq (j + aq)))) false (by omega) (Int.le_refl _)
      simp only [cond_true, cond_false, decide_eq_true hp', Bool.false_eq_true, S.grpP]
      exact s
    · have e : S.sv false (S.val np (fun j => tp (j + ap))) + S.sv true (S.val nq (fun j => tq (j + aq))) = S.sv false ((S.val np (fun j => tp (j + ap))) - (S.val nq (fun j => tq (j + aq)))) := sv_diff
      have e' : S.sv false (S.val np (fun j => tp (j + ap))) + S.sv true (S.val nq (fun j => tq (j + aq))) = S.sv true ((S.val nq (fun j => tq (j + aq))) - (S.val np (fun j => tp (j + ap)))) := by rw [Int.add_comm]; exact sv_diff
      simp only [cond_true, cond_false, decide_eq_true c1]
      by_cases hc : (S.val nq (fun j => tq (j + aq))) ≤ (S.val np (fun j => tp (j + ap)))
      · rw [decide_eq_true (hC.mpr hc), e]
        simp only [cond_true, decide_eq_true (⟨⟨hp1, hp2⟩, ⟨hp3, hp4⟩, g1, g2, hc⟩ : (ap + np ≤ mp ∧ aq + nq ≤ mq) ∧ (np ≤ 1000 ∧ nq ≤ 1000) ∧ S.okG np (fun j => tp (j + ap)) = true ∧ S.okG nq (fun j => tq (j + aq)) = true ∧ (S.val nq (fun j => tq (j + aq))) ≤ (S.val np (fun j => tp (j + ap))))]
        exact same _ false (by omega) (by omega)
      · rw [decide_eq_false (fun h => hc (hC.mp h)), e']
        simp only [cond_false, cond_true, decide_eq_true (⟨⟨hp2, hp1⟩, ⟨hp4, hp3⟩, g2, g1, by omega⟩ : (aq + nq ≤ mq ∧ ap + np ≤ mp) ∧ (nq ≤ 1000 ∧ np ≤ 1000) ∧ S.okG nq (fun j => tq (j + aq)) = true ∧ S.okG np (fun j => tp (j + ap)) = true ∧ (S.val np (fun j => tp (j + ap))) ≤ (S.val nq (fun j => tq (j + aq))))]
        exact same _ true (by omega) (by omega)
  · cases n2
    · have e : S.sv true (S.val np (fun j => tp (j + ap))) + S.sv false (S.val nq (fun j => tq (j + aq))) = S.sv true ((S.val np (fun j => tp (j + ap))) - (S.val nq (fun j => tq (j + aq)))) := sv_diff
      have e' : S.sv true (S.val np (fun j => tp (j + ap))) + S.sv false (S.val nq (fun j => tq (j + aq))) = S.sv false ((S.val nq (fun j => tq (j + aq))) - (S.val np (fun j => tp (j + ap)))) := by rw [Int.add_comm]; exact sv_diff
      simp only [cond_true, cond_false, decide_eq_true c1]
      by_cases hc : (S.val nq (fun j => tq (j + aq))) ≤ (S.val np (fun j => tp (j + ap)))
      · rw [decide_eq_true (hC.mpr hc), e]
        simp only [cond_true, decide_eq_true (⟨⟨hp1, hp2⟩, ⟨hp3, hp4⟩, g1, g2, hc⟩ : (ap + np ≤ mp ∧ aq + nq ≤ mq) ∧ (np ≤ 1000 ∧ nq ≤ 1000) ∧ S.okG np (fun j => tp (j + ap)) = true ∧ S.okG nq (fun j => tq (j + aq)) = true ∧ (S.val nq (fun j => tq (j + aq))) ≤ (S.val np (fun j => tp (j + ap))))]
        exact same _ true (by omega) (by omega)
      · rw [decide_eq_false (fun h => hc (hC.mp h)), e']
        simp only [cond_false, cond_true, decide_eq_true (⟨⟨hp2, hp1⟩, ⟨hp4, hp3⟩, g2, g1, by omega⟩ : (aq + nq ≤ mq ∧ ap + np ≤ mp) ∧ (nq ≤ 1000 ∧ np ≤ 1000) ∧ S.okG nq (fun j => tq (j + aq)) = true ∧ S.okG np (fun j => tp (j + ap)) = true ∧ (S.val np (fun j => tp (j + ap))) ≤ (S.val nq (fun j => tq (j + aq))))]
        exact same _ false (by omega) (by omega)
    · rw [sv_same]
      have s := same ((S.val np (fun j => tp (j + ap))) + (S.val nq (fun j => tq (j + aq)))) true (by omega) (Int.le_refl _)
      simp only [cond_true, cond_false, decide_eq_true hp', Bool.false_eq_true, S.grpP]
      exact s
theorem k50_ok  : k50.ok Tryd.prog := by
  intro x hx
  obtain ⟨⟨n1, ⟨ap, np, mp, tp, _⟩, _⟩, ⟨n2, ⟨aq, nq, mq, tq, _⟩, _⟩, _⟩ := x
  obtain ⟨h1, h2⟩ := a50 n1 ap np mp tp n2 aq nq mq tq (s50 n1 ap np mp tp n2 aq nq mq tq (of_dec hx rfl))
  exact ⟨⟨400, (by decide : 2 + 1 + 1 ≤ 400), h1⟩, h2⟩
noncomputable def xD (test : Bool → Prop → Prop → Prop) : Ext := consX test [k69, k65, k69v, k65v, k60, k61, k44, k55, k45, k58, k56, k59, k46, k18, k19, k48, k50]
theorem xD_ok  : ExtOk Tryd.prog (xD cond) := consX_ok ⟨k69_ok, k65_ok, k69v_ok, k65v_ok, k60_ok, k61_ok, k44_ok, k55_ok, k45_ok, k58_ok, k56_ok, k59_ok, k46_ok, k18_ok, k19_ok, k48_ok, k50_ok, trivial⟩
theorem okI_G  {ng : Bool} {n : Nat} {t : Nat → Int} (h : S.okI ng n t = true) : n ≤ 80 ∧ S.okG n t = true := ⟨(okI_iff.mp h).1, (okI_iff.mp h).2.1⟩
theorem fit_of  {v : Int} : S.fitI v = if (S.bigI v).2.length > 80 then (false, 3, []) else ((S.bigI v).1, 0, (S.bigI v).2) := rfl
theorem sv_neg  {ng : Bool} {v : Int} : S.sv (!ng) v = - S.sv ng v := by cases ng <;> simp [S.sv]
theorem sv_sg  {ng : Bool} {v : Int} (h : 0 ≤ v) : S.sv (S.sgB ng v) v = S.sv ng v := by
  unfold S.sgB
  rcases Int.lt_or_eq_of_le h with h2 | h2
  · rw [decide_eq_true h2, Bool.and_true]
  · rw [← h2]; cases ng <;> rfl
abbrev St22  := Empty
abbrev Rt22  := Bool × Int × List Int
noncomputable def V22 (n1 : Bool) (ap np mp : Nat) (tp : Nat → Int) (n2 : Bool) (aq nq mq : Nat) (tq : Nat → Int) (r : Rt22) : PV := PV.tup
 [PV.agg [PV.bool r.1, PV.own (3) (1) (List.length r.2.2)],
 PV.int IntKind.i64 r.2.1]
noncomputable def N22 (n1 : Bool) (ap np mp : Nat) (tp : Nat → Int) (n2 : Bool) (aq nq mq : Nat) (tq : Nat → Int) (r : Rt22) : List Blk := [Blk.cols (List.length r.2.2) [Col.int IntKind.i64 fun j => S.at' r.2.2 j]]
noncomputable def I22 (n1 : Bool) (ap np mp : Nat) (tp : Nat → Int) (n2 : Bool) (aq nq mq : Nat) (tq : Nat → Int) : St22 → Hd := fun s => s.elim
noncomputable def q22 (n1 : Bool) (ap np mp : Nat) (tp : Nat → Int) (n2 : Bool) (aq nq mq : Nat) (tq : Nat → Int) : St22 → Option (St22 ⊕ Rt22) := fun s => s.elim
noncomputable def p22 (n1 : Bool) (ap np mp : Nat) (tp : Nat → Int) (n2 : Bool) (aq nq mq : Nat) (tq : Nat → Int) : Option (St22 ⊕ Rt22) := bif (decide (ap + np ≤ mp ∧ np ≤ 1000000))
 then (bif (S.okI n1 np fun j => tp (j + ap))
 then (bif (decide (aq + nq ≤ mq ∧ nq ≤ 1000000))
 then (bif (S.okI n2 nq fun j => tq (j + aq))
 then (bif (decide
 ((ap + np ≤ mp ∧ aq + nq ≤ mq) ∧
 (np ≤ 1000 ∧ nq ≤ 1000) ∧
 (S.okG np fun j => tp (j + ap)) = true ∧
 (S.okG nq fun j => tq (j + aq)) = true))
 then (bif (decide
 ((↑(List.length
 (Prod.snd
 (S.bigI
 (S.sv n1 (S.val np fun j => tp (j + ap)) +
 S.sv n2 (S.val nq fun j => tq (j + aq)))))) :
 Int) >
 (80 : Int)))
 then (some (.inr (false, (3 : Int), [])))
 else (some (.inr (Prod.fst
 (S.bigI
 (S.sv n1 (S.val np fun j => tp (j + ap)) +
 S.sv n2 (S.val nq fun j => tq (j + aq)))), (0 : Int), Prod.snd
 (S.bigI
 (S.sv n1 (S.val np fun j => tp (j + ap)) +
 S.sv n2 (S.val nq fun j => tq (j + aq))))))))
 else (none))
 else (some (.inr (false, (1 : Int), []))))
 else (none))
 else (some (.inr (false, (1 : Int), []))))
 else (none)
noncomputable def Te22 (test : Bool → Prop → Prop → Prop) (Kst : KS) (Kret : KR) (n1 : Bool) (ap np mp : Nat) (tp : Nat → Int) (n2 : Bool) (aq nq mq : Nat) (tq : Nat → Int) : Prop :=
  test (decide (ap + np ≤ mp ∧ np ≤ 1000000))
 (test (S.okI n1 np fun j => tp (j + ap))
 (test (decide (aq + nq ≤ mq ∧ nq ≤ 1000000))
 (test (S.okI n2 nq fun j => tq (j + aq))
 (test (decide
 ((ap + np ≤ mp ∧ aq + nq ≤ mq) ∧
 (np ≤ 1000 ∧ nq ≤ 1000) ∧
 (S.okG np fun j => tp (j + ap)) = true ∧
 (S.okG nq fun j => tq (j + aq)) = true))
 (test (decide
 ((↑(List.length
 (Prod.snd
 (S.bigI
 (S.sv n1 (S.val np fun j => tp (j + ap)) +
 S.sv n2 (S.val nq fun j => tq (j + aq)))))) :
 Int) >
 (80 : Int)))
 (Kret (PV.tup [PV.agg [PV.tf false, PV.nils], PV.int IntKind.i64 (3 : Int)]) ([[(1, false, Blk.cols mq [Col.int IntKind.i64 tq]),
 (0, false, Blk.cols mp [Col.int IntKind.i64 tp])]]) (11))
 (Kret (PV.tup
 [PV.agg
 [PV.bool
 (Prod.fst
 (S.bigI
 (S.sv n1 (S.val np fun j => tp (j + ap)) +
 S.sv n2 (S.val nq fun j => tq (j + aq))))),
 PV.own (8) (1)
 (List.length
 (Prod.snd
 (S.bigI
 (S.sv n1 (S.val np fun j => tp (j + ap)) +
 S.sv n2 (S.val nq fun j => tq (j + aq))))))],
 PV.int IntKind.i64 (0 : Int)]) ([[(1, false, Blk.cols mq [Col.int IntKind.i64 tq]),
 (0, false, Blk.cols mp [Col.int IntKind.i64 tp]),
 (8, true,
 Blk.cols
 (List.length
 (Prod.snd
 (S.bigI
 (S.sv n1 (S.val np fun j => tp (j + ap)) +
 S.sv n2 (S.val nq fun j => tq (j + aq))))))
 [Col.int IntKind.i64 fun j =>
 S.at'
 (Prod.snd
 (S.bigI
 (S.sv n1 (S.val np fun j => tp (j + ap)) +
 S.sv n2 (S.val nq fun j => tq (j + aq)))))
 j])]]) (11)))
 (False))
 (Kret (PV.tup [PV.agg [PV.tf false, PV.nils], PV.int IntKind.i64 (1 : Int)]) ([[(1, false, Blk.cols mq [Col.int IntKind.i64 tq]),
 (0, false, Blk.cols mp [Col.int IntKind.i64 tp])]]) (7)))
 (False))
 (Kret (PV.tup [PV.agg [PV.tf false, PV.nils], PV.int IntKind.i64 (1 : Int)]) ([[(1, false, Blk.cols mq [Col.int IntKind.i64 tq]),
 (0, false, Blk.cols mp [Col.int IntKind.i64 tp])]]) (6)))
 (False)
theorem te22 (test : Bool → Prop → Prop → Prop) (Kst : KS) (Kret : KR) (n1 : Bool) (ap np mp : Nat) (tp : Nat → Int) (n2 : Bool) (aq nq mq : Nat) (tq : Nat → Int) : run test Tryd.env true (xD test) true 400 ⟨22, [.cd (mkFn Tryd.f22).body], argT 0 [.agg [.bool n1, .loose ⟨0, 1, ap, 0⟩ np], .agg [.bool n2, .loose ⟨1, 1, aq, 0⟩ nq]], [[], [(0, (false, .cols mp [.int .i64 tp])), (1, (false, .cols mq [.int .i64 tq]))]], 2⟩ (proj 2 [] Kst Kret) =
  Te22 test Kst Kret n1 ap np mp tp n2 aq nq mq tq := by kernel_rfl
attribute [local irreducible] Int.subNatNat in
theorem be22 (n1 : Bool) (ap np mp : Nat) (tp : Nat → Int) (n2 : Bool) (aq nq mq : Nat) (tq : Nat → Int) (Kst : KS) (Kret : KR) (x : St22 ⊕ Rt22) (hS : HS 2 400 ((I22 n1 ap np mp tp n2 aq nq mq tq)) Kst x) (hR : HR 2 400 ((V22 n1 ap np mp tp n2 aq nq mq tq)) (fun r => [newL (2 + 1) ((N22 n1 ap np mp tp n2 aq nq mq tq) r) ++ [(0, (false, .cols mp [.int .i64 tp])), (1, (false, .cols mq [.int .i64 tq]))]]) Kret x) (h : p22 n1 ap np mp tp n2 aq nq mq tq = some x) : Te22 cond Kst Kret n1 ap np mp tp n2 aq nq mq tq := by
  unfold Te22
  unfold p22 at h
  refine bif_split h
   (fun c0 h => bif_split h
   (fun c1 h => bif_split h
   (fun c2 h => bif_split h
   (fun c3 h => bif_split h
   (fun c4 h => bif_split h
   (fun c5 h => ?_)
   (fun c5 h => ret_at hR _ h (fun n => bif Nat.beq n 3 then 8 else n) rfl rfl rfl (rn_tup ⟨(rn_agg ⟨(rn_bool rfl), (rn_own (use_own rfl) rfl rfl), trivial⟩), (rn_int rfl), trivial⟩) rfl (entl_new (use_own rfl) rfl (Nat.le_of_eq rfl) (rcs_int (fun _ _ => rfl) rcs_nil) (entl_bor (use_lo rfl) rfl rfl (entl_bor (use_lo rfl) rfl rfl entl_nil)))))
   (fun c4 h => ?_))
   (fun c3 h => ?_))
   (fun c2 h => ?_))
   (fun c1 h => ?_))
   (fun c0 h => ?_)
  all_goals first
    | exact ret_at hR _ h (fun n => bif Nat.beq n 3 then 399 else n) rfl rfl rfl (rn_tup ⟨(rn_agg ⟨(rn_bool_tf rfl), (rn_own_nils rfl), trivial⟩), (rn_int rfl), trivial⟩) rfl (entl_fresh (use_own rfl) (fresh_ok rfl) (entl_bor (use_lo rfl) rfl rfl (entl_bor (use_lo rfl) rfl rfl entl_nil)))
    | exact no_some h
theorem a22 (n1 : Bool) (ap np mp : Nat) (tp : Nat → Int) (n2 : Bool) (aq nq mq : Nat) (tq : Nat → Int) {r : Rt22} (h : Goes ((q22 n1 ap np mp tp n2 aq nq mq tq)) ((p22 n1 ap np mp tp n2 aq nq mq tq)) r) : CallR Tryd.prog 22 [.agg [.bool n1, .loose ⟨0, 1, ap, 0⟩ np], .agg [.bool n2, .loose ⟨1, 1, aq, 0⟩ nq]] [[(0, (false, .cols mp [.int .i64 tp])), (1, (false, .cols mq [.int .i64 tq]))]] 2 ((V22 n1 ap np mp tp n2 aq nq mq tq) r) ((fun r => [newL (2 + 1) ((N22 n1 ap np mp tp n2 aq nq mq tq) r) ++ [(0, (false, .cols mp [.int .i64 tp])), (1, (false, .cols mq [.int .i64 tq]))]]) r) 400 ∧ ∃ F, Tryd.prog.funcs[22]? = some F ∧ F.body.isSome = true ∧ (F.name == "runtime.NumGoroutine") = false := by
  refine dec_calls (f := 22) (lo := 2) (hi := 400) (H := [[(0, (false, .cols mp [.int .i64 tp])), (1, (false, .cols mq [.int .i64 tq]))]]) (args := [.agg [.bool n1, .loose ⟨0, 1, ap, 0⟩ np], .agg [.bool n2, .loose ⟨1, 1, aq, 0⟩ nq]]) Tryd.envOk Tryd.mixed xD_ok ((I22 n1 ap np mp tp n2 aq nq mq tq)) ((V22 n1 ap np mp tp n2 aq nq mq tq)) (fun r => [newL (2 + 1) ((N22 n1 ap np mp tp n2 aq nq mq tq) r) ++ [(0, (false, .cols mp [.int .i64 tp])), (1, (false, .cols mq [.int .i64 tq]))]]) (fn := mkFn Tryd.f22) (ts := []) (n := 400) rfl (by decide) (by simp) (names_of rfl) ?_ ?_ ?_ h
  · intro s; exact s.elim
  · intro Kst Kret x hS hR h
    exact Holds.eq (te22 cond Kst Kret n1 ap np mp tp n2 aq nq mq tq) (be22 n1 ap np mp tp n2 aq nq mq tq Kst Kret x hS hR h)
  · intro Kst Kret x hS hR s h; exact s.elim
noncomputable def k22  : Con := ⟨22, [.agg [.plain (.bool), .list [.int .i64]], .agg [.plain (.bool), .list [.int .i64]]], fun (x : (Bool × (Nat × Nat × Nat × (Nat → Int) × Unit) × Unit) × (Bool × (Nat × Nat × Nat × (Nat → Int) × Unit) × Unit) × Unit) => (fun (n1 : Bool) (ap np mp : Nat) (tp : Nat → Int) (n2 : Bool) (aq nq mq : Nat) (tq : Nat → Int) => decide ((ap + np ≤ mp ∧ np ≤ 1000000) ∧ aq + nq ≤ mq ∧ nq ≤ 1000000)) x.1.1 x.1.2.1.1 x.1.2.1.2.1 x.1.2.1.2.2.1 x.1.2.1.2.2.2.1 x.2.1.1 x.2.1.2.1.1 x.2.1.2.1.2.1 x.2.1.2.1.2.2.1 x.2.1.2.1.2.2.2.1, fun (x : (Bool × (Nat × Nat × Nat × (Nat → Int) × Unit) × Unit) × (Bool × (Nat × Nat × Nat × (Nat → Int) × Unit) × Unit) × Unit) => (fun (n1 : Bool) (ap np mp : Nat) (tp : Nat → Int) (n2 : Bool) (aq nq mq : Nat) (tq : Nat → Int) => (V22 n1 ap np mp tp n2 aq nq mq tq) ((S.addS n1 np (fun j => tp (j + ap)) n2 nq (fun j => tq (j + aq))).1, (S.addS n1 np (fun j => tp (j + ap)) n2 nq (fun j => tq (j + aq))).2.1, (S.addS n1 np (fun j => tp (j + ap)) n2 nq (fun j => tq (j + aq))).2.2)) x.1.1 x.1.2.1.1 x.1.2.1.2.1 x.1.2.1.2.2.1 x.1.2.1.2.2.2.1 x.2.1.1 x.2.1.2.1.1 x.2.1.2.1.2.1 x.2.1.2.1.2.2.1 x.2.1.2.1.2.2.2.1, fun (x : (Bool × (Nat × Nat × Nat × (Nat → Int) × Unit) × Unit) × (Bool × (Nat × Nat × Nat × (Nat → Int) × Unit) × Unit) × Unit) => (fun (n1 : Bool) (ap np mp : Nat) (tp : Nat → Int) (n2 : Bool) (aq nq mq : Nat) (tq : Nat → Int) => (N22 n1 ap np mp tp n2 aq nq mq tq) ((S.addS n1 np (fun j => tp (j + ap)) n2 nq (fun j => tq (j + aq))).1, (S.addS n1 np (fun j => tp (j + ap)) n2 nq (fun j => tq (j + aq))).2.1, (S.addS n1 np (fun j => tp (j + ap)) n2 nq (fun j => tq (j + aq))).2.2)) x.1.1 x.1.2.1.1 x.1.2.1.2.1 x.1.2.1.2.2.1 x.1.2.1.2.2.2.1 x.2.1.1 x.2.1.2.1.1 x.2.1.2.1.2.1 x.2.1.2.1.2.2.1 x.2.1.2.1.2.2.2.1, fun _ _ => .dead⟩
theorem s22 (n1 : Bool) (ap np mp : Nat) (tp : Nat → Int) (n2 : Bool) (aq nq mq : Nat) (tq : Nat → Int) (hp : (ap + np ≤ mp ∧ np ≤ 1000000) ∧ aq + nq ≤ mq ∧ nq ≤ 1000000) : Goes ((q22 n1 ap np mp tp n2 aq nq mq tq)) ((p22 n1 ap np mp tp n2 aq nq mq tq)) (((S.addS n1 np (fun j => tp (j + ap)) n2 nq (fun j => tq (j + aq))).1, (S.addS n1 np (fun j => tp (j + ap)) n2 nq (fun j => tq (j + aq))).2.1, (S.addS n1 np (fun j => tp (j + ap)) n2 nq (fun j => tq (j + aq))).2.2)) := by
  obtain ⟨⟨hp1, hp2⟩, hp3, hp4⟩ := hp
  unfold S.addS
  by_cases g1 : S.okI n1 np (fun j => tp (j + ap)) = true
  · obtain ⟨l1, k1⟩ := okI_G g1
    by_cases g2 : S.okI n2 nq (fun j => tq (j + aq)) = true
    · obtain ⟨l2, k2⟩ := okI_G g2
      have hq : (ap + np ≤ mp ∧ aq + nq ≤ mq) ∧ (np ≤ 1000 ∧ nq ≤ 1000) ∧ S.okG np (fun j => tp (j + ap)) = true ∧ S.okG nq (fun j => tq (j + aq)) = true := ⟨⟨hp1, hp3⟩, ⟨by omega, by omega⟩, k1, k2⟩
      have v2 := val_nn (okG_D k2)
      rw [if_pos ⟨g1, g2⟩, fit_of]
      unfold p22
      cases n2 <;>
      (simp only [cond_true, cond_false, Bool.not_true, Bool.not_false, g1, g2, decide_eq_true (⟨hp1, hp2⟩ : ap + np ≤ mp ∧ np ≤ 1000000), decide_eq_true (⟨hp3, hp4⟩ : aq + nq ≤ mq ∧ nq ≤ 1000000), decide_eq_true hq]
       generalize S.bigI _ = B
       by_cases hl : B.2.length > 80
       · rw [if_pos hl]
         rw [decide_eq_true (by omega : ((B.2.length : Nat) : Int) > 80), cond_true]
         exact goes_inr.mpr rfl
       · rw [if_neg hl]
         rw [decide_eq_false (by omega : ¬ ((B.2.length : Nat) : Int) > 80), cond_false]
         exact goes_inr.mpr rfl)
    · rw [if_neg (fun h => g2 h.2)]
      have g2 := Bool.not_eq_true _ ▸ g2
      unfold p22
      cases n2 <;> simp only [cond_true, cond_false, g1, g2, decide_eq_true (⟨hp1, hp2⟩ : ap + np ≤ mp ∧ np ≤ 1000000), decide_eq_true (⟨hp3, hp4⟩ : aq + nq ≤ mq ∧ nq ≤ 1000000)] <;> exact goes_inr.mpr rfl
  · rw [if_neg (fun h => g1 h.1)]
    have g1 := Bool.not_eq_true _ ▸ g1
    unfold p22
    simp only [cond_true, cond_false, g1, decide_eq_true (⟨hp1, hp2⟩ : ap + np ≤ mp ∧ np ≤ 1000000)]
    exact goes_inr.mpr rfl
theorem k22_ok  : k22.ok Tryd.prog := by
  intro x hx
  obtain ⟨⟨n1, ⟨ap, np, mp, tp, _⟩, _⟩, ⟨n2, ⟨aq, nq, mq, tq, _⟩, _⟩, _⟩ := x
  obtain ⟨h1, h2⟩ := a22 n1 ap np mp tp n2 aq nq mq tq (s22 n1 ap np mp tp n2 aq nq mq tq (of_dec hx rfl))
  exact ⟨⟨400, (by decide : 2 + 1 + 1 ≤ 400), h1⟩, h2⟩
abbrev St23  := Empty
abbrev Rt23  := Bool × Int × List Int
noncomputable def V23 (n1 : Bool) (ap np mp : Nat) (tp : Nat → Int) (n2 : Bool) (aq nq mq : Nat) (tq : Nat → Int) (r : Rt23) : PV := PV.tup
 [PV.agg [PV.bool r.1, PV.own (3) (1) (List.length r.2.2)],
 PV.int IntKind.i64 r.2.1]
noncomputable def N23 (n1 : Bool) (ap np mp : Nat) (tp : Nat → Int) (n2 : Bool) (aq nq mq : Nat) (tq : Nat → Int) (r : Rt23) : List Blk := [Blk.cols (List.length r.2.2) [Col.int IntKind.i64 fun j => S.at' r.2.2 j]]
noncomputable def I23 (n1 : Bool) (ap np mp : Nat) (tp : Nat → Int) (n2 : Bool) (aq nq mq : Nat) (tq : Nat → Int) : St23 → Hd := fun s => s.elim
noncomputable def q23 (n1 : Bool) (ap np mp : Nat) (tp : Nat → Int) (n2 : Bool) (aq nq mq : Nat) (tq : Nat → Int) : St23 → Option (St23 ⊕ Rt23) := fun s => s.elim
noncomputable def p23 (n1 : Bool) (ap np mp : Nat) (tp : Nat → Int) (n2 : Bool) (aq nq mq : Nat) (tq : Nat → Int) : Option (St23 ⊕ Rt23) := bif (decide (ap + np ≤ mp ∧ np ≤ 1000000))
 then (bif (S.okI n1 np fun j => tp (j + ap))
 then (bif (decide (aq + nq ≤ mq ∧ nq ≤ 1000000))
 then (bif (S.okI n2 nq fun j => tq (j + aq))
 then (bif (decide
 ((ap + np ≤ mp ∧ aq + nq ≤ mq) ∧
 (np ≤ 1000 ∧ nq ≤ 1000) ∧
 (S.okG np fun j => tp (j + ap)) = true ∧
 (S.okG nq fun j => tq (j + aq)) = true))
 then (bif (decide
 ((↑(List.length
 (Prod.snd
 (S.bigI
 (S.sv n1 (S.val np fun j => tp (j + ap)) +
 S.sv n2 (S.val nq fun j => tq (j + aq)))))) :
 Int) >
 (80 : Int)))
 then (some (.inr (false, (3 : Int), [])))
 else (some (.inr (Prod.fst
 (S.bigI
 (S.sv n1 (S.val np fun j => tp (j + ap)) +
 S.sv n2 (S.val nq fun j => tq (j + aq)))), (0 : Int), Prod.snd
 (S.bigI
 (S.sv n1 (S.val np fun j => tp (j + ap)) +
 S.sv n2 (S.val nq fun j => tq (j + aq))))))))
 else (none))
 else (some (.inr (false, (1 : Int), []))))
 else (none))
 else (some (.inr (false, (1 : Int), []))))
 else (none)
noncomputable def Te23 (test : Bool → Prop → Prop → Prop) (Kst : KS) (Kret : KR) (n1 : Bool) (ap np mp : Nat) (tp : Nat → Int) (n2 : Bool) (aq nq mq : Nat) (tq : Nat → Int) : Prop :=
  test (decide (ap + np ≤ mp ∧ np ≤ 1000000))
 (test (S.okI n1 np fun j => tp (j + ap))
 (test (decide (aq + nq ≤ mq ∧ nq ≤ 1000000))
 (test (S.okI n2 nq fun j => tq (j + aq))
 (test (decide
 ((ap + np ≤ mp ∧ aq + nq ≤ mq) ∧
 (np ≤ 1000 ∧ nq ≤ 1000) ∧
 (S.okG np fun j => tp (j + ap)) = true ∧
 (S.okG nq fun j => tq (j + aq)) = true))
 (test (decide
 ((↑(List.length
 (Prod.snd
 (S.bigI
 (S.sv n1 (S.val np fun j => tp (j + ap)) +
 S.sv n2 (S.val nq fun j => tq (j + aq)))))) :
 Int) >
 (80 : Int)))
 (Kret (PV.tup [PV.agg [PV.tf false, PV.nils], PV.int IntKind.i64 (3 : Int)]) ([[(1, false, Blk.cols mq [Col.int IntKind.i64 tq]),
 (0, false, Blk.cols mp [Col.int IntKind.i64 tp])]]) (11))
 (Kret (PV.tup
 [PV.agg
 [PV.bool
 (Prod.fst
 (S.bigI
 (S.sv n1 (S.val np fun j => tp (j + ap)) +
 S.sv n2 (S.val nq fun j => tq (j + aq))))),
 PV.own (8) (1)
 (List.length
 (Prod.snd
 (S.bigI
 (S.sv n1 (S.val np fun j => tp (j + ap)) +
 S.sv n2 (S.val nq fun j => tq (j + aq))))))],
 PV.int IntKind.i64 (0 : Int)]) ([[(1, false, Blk.cols mq [Col.int IntKind.i64 tq]),
 (0, false, Blk.cols mp [Col.int IntKind.i64 tp]),
 (8, true,
 Blk.cols
 (List.length
 (Prod.snd
 (S.bigI
 (S.sv n1 (S.val np fun j => tp (j + ap)) +
 S.sv n2 (S.val nq fun j => tq (j + aq))))))
 [Col.int IntKind.i64 fun j =>
 S.at'
 (Prod.snd
 (S.bigI
 (S.sv n1 (S.val np fun j => tp (j + ap)) +
 S.sv n2 (S.val nq fun j => tq (j + aq)))))
 j])]]) (11)))
 (False))
 (Kret (PV.tup [PV.agg [PV.tf false, PV.nils], PV.int IntKind.i64 (1 : Int)]) ([[(1, false, Blk.cols mq [Col.int IntKind.i64 tq]),
 (0, false, Blk.cols mp [Col.int IntKind.i64 tp])]]) (7)))
 (False))
 (Kret (PV.tup [PV.agg [PV.tf false, PV.nils], PV.int IntKind.i64 (1 : Int)]) ([[(1, false, Blk.cols mq [Col.int IntKind.i64 tq]),
 (0, false, Blk.cols mp [Col.int IntKind.i64 tp])]]) (6)))
 (False)
theorem te23 (test : Bool → Prop → Prop → Prop) (Kst : KS) (Kret : KR) (n1 : Bool) (ap np mp : Nat) (tp : Nat → Int) (n2 : Bool) (aq nq mq : Nat) (tq : Nat → Int) : run test Tryd.env true (xD test) true 400 ⟨23, [.cd (mkFn Tryd.f23).body], argT 0 [.agg [.bool n1, .loose ⟨0, 1, ap, 0⟩ np], .agg [.bool n2, .loose ⟨1, 1, aq, 0⟩ nq]], [[], [(0, (false, .cols mp [.int .i64 tp])), (1, (false, .cols mq [.int .i64 tq]))]], 2⟩ (proj 2 [] Kst Kret) =
  Te23 test Kst Kret n1 ap np mp tp n2 aq nq mq tq := by kernel_rfl
attribute [local irreducible] Int.subNatNat in
theorem be23 (n1 : Bool) (ap np mp : Nat) (tp : Nat → Int) (n2 : Bool) (aq nq mq : Nat) (tq : Nat → Int) (Kst : KS) (Kret : KR) (x : St23 ⊕ Rt23) (hS : HS 2 400 ((I23 n1 ap np mp tp n2 aq nq mq tq)) Kst x) (hR : HR 2 400 ((V23 n1 ap np mp tp n2 aq nq mq tq)) (fun r => [newL (2 + 1) ((N23 n1 ap np mp tp n2 aq nq mq tq) r) ++ [(0, (false, .cols mp [.int .i64 tp])), (1, (false, .cols mq [.int .i64 tq]))]]) Kret x) (h : p23 n1 ap np mp tp n2 aq nq mq tq = some x) : Te23 cond Kst Kret n1 ap np mp tp n2 aq nq mq tq := by
  unfold Te23
  unfold p23 at h
  refine bif_split h
   (fun c0 h => bif_split h
   (fun c1 h => bif_split h
   (fun c2 h => bif_split h
   (fun c3 h => bif_split h
   (fun c4 h => bif_split h
   (fun c5 h => ?_)
   (fun c5 h => ret_at hR _ h (fun n => bif Nat.beq n 3 then 8 else n) rfl rfl rfl (rn_tup ⟨(rn_agg ⟨(rn_bool rfl), (rn_own (use_own rfl) rfl rfl), trivial⟩), (rn_int rfl), trivial⟩) rfl (entl_new (use_own rfl) rfl (Nat.le_of_eq rfl) (rcs_int (fun _ _ => rfl) rcs_nil) (entl_bor (use_lo rfl) rfl rfl (entl_bor (use_lo rfl) rfl rfl entl_nil)))))
   (fun c4 h => ?_))
   (fun c3 h => ?_))
   (fun c2 h => ?_))
   (fun c1 h => ?_))
   (fun c0 h => ?_)
  all_goals first
    | exact ret_at hR _ h (fun n => bif Nat.beq n 3 then 399 else n) rfl rfl rfl (rn_tup ⟨(rn_agg ⟨(rn_bool_tf rfl), (rn_own_nils rfl), trivial⟩), (rn_int rfl), trivial⟩) rfl (entl_fresh (use_own rfl) (fresh_ok rfl) (entl_bor (use_lo rfl) rfl rfl (entl_bor (use_lo rfl) rfl rfl entl_nil)))
    | exact no_some h
theorem a23 (n1 : Bool) (ap np mp : Nat) (tp : Nat → Int) (n2 : Bool) (aq nq mq : Nat) (tq : Nat → Int) {r : Rt23} (h : Goes ((q23 n1 ap np mp tp n2 aq nq mq tq)) ((p23 n1 ap np mp tp n2 aq nq mq tq)) r) : CallR Tryd.prog 23 [.agg [.bool n1, .loose ⟨0, 1, ap, 0⟩ np], .agg [.bool n2, .loose ⟨1, 1, aq, 0⟩ nq]] [[(0, (false, .cols mp [.int .i64 tp])), (1, (false, .cols mq [.int .i64 tq]))]] 2 ((V23 n1 ap np mp tp n2 aq nq mq tq) r) ((fun r => [newL (2 + 1) ((N23 n1 ap np mp tp n2 aq nq mq tq) r) ++ [(0, (false, .cols mp [.int .i64 tp])), (1, (false, .cols mq [.int .i64 tq]))]]) r) 400 ∧ ∃ F, Tryd.prog.funcs[23]? = some F ∧ F.body.isSome = true ∧ (F.name == "runtime.NumGoroutine") = false := by
  refine dec_calls (f := 23) (lo := 2) (hi := 400) (H := [[(0, (false, .cols mp [.int .i64 tp])), (1, (false, .cols mq [.int .i64 tq]))]]) (args := [.agg [.bool n1, .loose ⟨0, 1, ap, 0⟩ np], .agg [.bool n2, .loose ⟨1, 1, aq, 0⟩ nq]]) Tryd.envOk Tryd.mixed xD_ok ((I23 n1 ap np mp tp n2 aq nq mq tq)) ((V23 n1 ap np mp tp n2 aq nq mq tq)) (fun r => [newL (2 + 1) ((N23 n1 ap np mp tp n2 aq nq mq tq) r) ++ [(0, (false, .cols mp [.int .i64 tp])), (1, (false, .cols mq [.int .i64 tq]))]]) (fn := mkFn Tryd.f23) (ts := []) (n := 400) rfl (by decide) (by simp) (names_of rfl) ?_ ?_ ?_ h
  · intro s; exact s.elim
  · intro Kst Kret x hS hR h
    exact Holds.eq (te23 cond Kst Kret n1 ap np mp tp n2 aq nq mq tq) (be23 n1 ap np mp tp n2 aq nq mq tq Kst Kret x hS hR h)
  · intro Kst Kret x hS hR s h; exact s.elim
noncomputable def k23  : Con := ⟨23, [.agg [.plain (.bool), .list [.int .i64]], .agg [.plain (.bool), .list [.int .i64]]], fun (x : (Bool × (Nat × Nat × Nat × (Nat → Int) × Unit) × Unit) × (Bool × (Nat × Nat × Nat × (Nat → Int) × Unit) × Unit) × Unit) => (fun (n1 : Bool) (ap np mp : Nat) (tp : Nat → Int) (n2 : Bool) (aq nq mq : Nat) (tq : Nat → Int) => decide ((ap + np ≤ mp ∧ np ≤ 1000000) ∧ aq + nq ≤ mq ∧ nq ≤ 1000000)) x.1.1 x.1.2.1.1 x.1.2.1.2.1 x.1.2.1.2.2.1 x.1.2.1.2.2.2.1 x.2.1.1 x.2.1.2.1.1 x.2.1.2.1.2.1 x.2.1.2.1.2.2.1 x.2.1.2.1.2.2.2.1, fun (x : (Bool × (Nat × Nat × Nat × (Nat → Int) × Unit) × Unit) × (Bool × (Nat × Nat × Nat × (Nat → Int) × Unit) × Unit) × Unit) => (fun (n1 : Bool) (ap np mp : Nat) (tp : Nat → Int) (n2 : Bool) (aq nq mq : Nat) (tq : Nat → Int) => (V23 n1 ap np mp tp n2 aq nq mq tq) ((S.addS n1 np (fun j => tp (j + ap)) n2 nq (fun j => tq (j + aq))).1, (S.addS n1 np (fun j => tp (j + ap)) n2 nq (fun j => tq (j + aq))).2.1, (S.addS n1 np (fun j => tp (j + ap)) n2 nq (fun j => tq (j + aq))).2.2)) x.1.1 x.1.2.1.1 x.1.2.1.2.1 x.1.2.1.2.2.1 x.1.2.1.2.2.2.1 x.2.1.1 x.2.1.2.1.1 x.2.1.2.1.2.1 x.2.1.2.1.2.2.1 x.2.1.2.1.2.2.2.1, fun (x : (Bool × (Nat × Nat × Nat × (Nat → Int) × Unit) × Unit) × (Bool × (Nat × Nat × Nat × (Nat → Int) × Unit) × Unit) × Unit) => (fun (n1 : Bool) (ap np mp : Nat) (tp : Nat → Int) (n2 : Bool) (aq nq mq : Nat) (tq : Nat → Int) => (N23 n1 ap np mp tp n2 aq nq mq tq) ((S.addS n1 np (fun j => tp (j + ap)) n2 nq (fun j => tq (j + aq))).1, (S.addS n1 np (fun j => tp (j + ap)) n2 nq (fun j => tq (j + aq))).2.1, (S.addS n1 np (fun j => tp (j + ap)) n2 nq (fun j => tq (j + aq))).2.2)) x.1.1 x.1.2.1.1 x.1.2.1.2.1 x.1.2.1.2.2.1 x.1.2.1.2.2.2.1 x.2.1.1 x.2.1.2.1.1 x.2.1.2.1.2.1 x.2.1.2.1.2.2.1 x.2.1.2.1.2.2.2.1, fun _ _ => .dead⟩
theorem s23 (n1 : Bool) (ap np mp : Nat) (tp : Nat → Int) (n2 : Bool) (aq nq mq : Nat) (tq : Nat → Int) (hp : (ap + np ≤ mp ∧ np ≤ 1000000) ∧ aq + nq ≤ mq ∧ nq ≤ 1000000) : Goes ((q23 n1 ap np mp tp n2 aq nq mq tq)) ((p23 n1 ap np mp tp n2 aq nq mq tq)) (((S.addS n1 np (fun j => tp (j + ap)) n2 nq (fun j => tq (j + aq))).1, (S.addS n1 np (fun j => tp (j + ap)) n2 nq (fun j => tq (j + aq))).2.1, (S.addS n1 np (fun j => tp (j + ap)) n2 nq (fun j => tq (j + aq))).2.2)) := by
  obtain ⟨⟨hp1, hp2⟩, hp3, hp4⟩ := hp
  unfold S.addS
  by_cases g1 : S.okI n1 np (fun j => tp (j + ap)) = true
  · obtain ⟨l1, k1⟩ := okI_G g1
    by_cases g2 : S.okI n2 nq (fun j => tq (j + aq)) = true
    · obtain ⟨l2, k2⟩ := okI_G g2
      have hq : (ap + np ≤ mp ∧ aq + nq ≤ mq) ∧ (np ≤ 1000 ∧ nq ≤ 1000) ∧ S.okG np (fun j => tp (j + ap)) = true ∧ S.okG nq (fun j => tq (j + aq)) = true := ⟨⟨hp1, hp3⟩, ⟨by omega, by omega⟩, k1, k2⟩
      have v2 := val_nn (okG_D k2)
      rw [if_pos ⟨g1, g2⟩, fit_of]
      unfold p23
      cases n2 <;>
      (simp only [cond_true, cond_false, Bool.not_true, Bool.not_false, g1, g2, decide_eq_true (⟨hp1, hp2⟩ : ap + np ≤ mp ∧ np ≤ 1000000), decide_eq_true (⟨hp3, hp4⟩ : aq + nq ≤ mq ∧ nq ≤ 1000000), decide_eq_true hq]
       generalize S.bigI _ = B
       by_cases hl : B.2.length > 80
       · rw [if_pos hl]
         rw [decide_eq_true (by omega : ((B.2.length : Nat) : Int) > 80), cond_true]
         exact goes_inr.mpr rfl
       · rw [if_neg hl]
         rw [decide_eq_false (by omega : ¬ ((B.2.length : Nat) : Int) > 80), cond_false]
         exact goes_inr.mpr rfl)
    · rw [if_neg (fun h => g2 h.2)]
      have g2 := Bool.not_eq_true _ ▸ g2
      unfold p23
      cases n2 <;> simp only [cond_true, cond_false, g1, g2, decide_eq_true (⟨hp1, hp2⟩ : ap + np ≤ mp ∧ np ≤ 1000000), decide_eq_true (⟨hp3, hp4⟩ : aq + nq ≤ mq ∧ nq ≤ 1000000)] <;> exact goes_inr.mpr rfl
  · rw [if_neg (fun h => g1 h.1)]
    have g1 := Bool.not_eq_true _ ▸ g1
    unfold p23
    simp only [cond_true, cond_false, g1, decide_eq_true (⟨hp1, hp2⟩ : ap + np ≤ mp ∧ np ≤ 1000000)]
    exact goes_inr.mpr rfl
theorem k23_ok  : k23.ok Tryd.prog := by
  intro x hx
  obtain ⟨⟨n1, ⟨ap, np, mp, tp, _⟩, _⟩, ⟨n2, ⟨aq, nq, mq, tq, _⟩, _⟩, _⟩ := x
  obtain ⟨h1, h2⟩ := a23 n1 ap np mp tp n2 aq nq mq tq (s23 n1 ap np mp tp n2 aq nq mq tq (of_dec hx rfl))
  exact ⟨⟨400, (by decide : 2 + 1 + 1 ≤ 400), h1⟩, h2⟩
abbrev St24  := Empty
abbrev Rt24  := Bool × Int × List Int
noncomputable def V24 (n1 : Bool) (ap np mp : Nat) (tp : Nat → Int) (n2 : Bool) (aq nq mq : Nat) (tq : Nat → Int) (r : Rt24) : PV := PV.tup
 [PV.agg [PV.bool r.1, PV.own (3) (1) (List.length r.2.2)],
 PV.int IntKind.i64 r.2.1]
noncomputable def N24 (n1 : Bool) (ap np mp : Nat) (tp : Nat → Int) (n2 : Bool) (aq nq mq : Nat) (tq : Nat → Int) (r : Rt24) : List Blk := [Blk.cols (List.length r.2.2) [Col.int IntKind.i64 fun j => S.at' r.2.2 j]]
noncomputable def I24 (n1 : Bool) (ap np mp : Nat) (tp : Nat → Int) (n2 : Bool) (aq nq mq : Nat) (tq : Nat → Int) : St24 → Hd := fun s => s.elim
noncomputable def q24 (n1 : Bool) (ap np mp : Nat) (tp : Nat → Int) (n2 : Bool) (aq nq mq : Nat) (tq : Nat → Int) : St24 → Option (St24 ⊕ Rt24) := fun s => s.elim
noncomputable def p24 (n1 : Bool) (ap np mp : Nat) (tp : Nat → Int) (n2 : Bool) (aq nq mq : Nat) (tq : Nat → Int) : Option (St24 ⊕ Rt24) := bif (decide (ap + np ≤ mp ∧ np ≤ 1000000))
 then (bif (S.okI n1 np fun j => tp (j + ap))
 then (bif (decide (aq + nq ≤ mq ∧ nq ≤ 1000000))
 then (bif (S.okI n2 nq fun j => tq (j + aq))
 then (bif (n2)
 then (bif (decide
 ((ap + np ≤ mp ∧ aq + nq ≤ mq) ∧
 (np ≤ 1000 ∧ nq ≤ 1000) ∧
 (S.okG np fun j => tp (j + ap)) = true ∧
 (S.okG nq fun j => tq (j + aq)) = true))
 then (bif (decide
 ((↑(List.length
 (Prod.snd
 (S.bigI
 (S.sv n1 (S.val np fun j => tp (j + ap)) +
 S.sv false (S.val nq fun j => tq (j + aq)))))) :
 Int) >
 (80 : Int)))
 then (some (.inr (false, (3 : Int), [])))
 else (some (.inr (Prod.fst
 (S.bigI
 (S.sv n1 (S.val np fun j => tp (j + ap)) +
 S.sv false (S.val nq fun j => tq (j + aq)))), (0 : Int), Prod.snd
 (S.bigI
 (S.sv n1 (S.val np fun j => tp (j + ap)) +
 S.sv false (S.val nq fun j => tq (j + aq))))))))
 else (none))
 else (bif (decide
 ((ap + np ≤ mp ∧ aq + nq ≤ mq) ∧
 (np ≤ 1000 ∧ nq ≤ 1000) ∧
 (S.okG np fun j => tp (j + ap)) = true ∧
 (S.okG nq fun j => tq (j + aq)) = true))
 then (bif (decide
 ((↑(List.length
 (Prod.snd
 (S.bigI
 (S.sv n1 (S.val np fun j => tp (j + ap)) +
 S.sv true (S.val nq fun j => tq (j + aq)))))) :
 Int) >
 (80 : Int)))
 then (some (.inr (false, (3 : Int), [])))
 else (some (.inr (Prod.fst
 (S.bigI
 (S.sv n1 (S.val np fun j => tp (j + ap)) +
 S.sv true (S.val nq fun j => tq (j + aq)))), (0 : Int), Prod.snd
 (S.bigI
 (S.sv n1 (S.val np fun j => tp (j + ap)) +
 S.sv true (S.val nq fun j => tq (j + aq))))))))
 else (none)))
 else (some (.inr (false, (1 : Int), []))))
 else (none))
 else (some (.inr (false, (1 : Int), []))))
 else (none)
noncomputable def Te24 (test : Bool → Prop → Prop → Prop) (Kst : KS) (Kret : KR) (n1 : Bool) (ap np mp : Nat) (tp : Nat → Int) (n2 : Bool) (aq nq mq : Nat) (tq : Nat → Int) : Prop :=
  test (decide (ap + np ≤ mp ∧ np ≤ 1000000))
 (test (S.okI n1 np fun j => tp (j + ap))
 (test (decide (aq + nq ≤ mq ∧ nq ≤ 1000000))
 (test (S.okI n2 nq fun j => tq (j + aq))
 (test (n2)
 (test (decide
 ((ap + np ≤ mp ∧ aq + nq ≤ mq) ∧
 (np ≤ 1000 ∧ nq ≤ 1000) ∧
 (S.okG np fun j => tp (j + ap)) = true ∧
 (S.okG nq fun j => tq (j + aq)) = true))
 (test (decide
 ((↑(List.length
 (Prod.snd
 (S.bigI
 (S.sv n1 (S.val np fun j => tp (j + ap)) +
 S.sv false (S.val nq fun j => tq (j + aq)))))) :
 Int) >
 (80 : Int)))
 (Kret (PV.tup [PV.agg [PV.tf false, PV.nils], PV.int IntKind.i64 (3 : Int)]) ([[(1, false, Blk.cols mq [Col.int IntKind.i64 tq]),
 (0, false, Blk.cols mp [Col.int IntKind.i64 tp])]]) (11))
 (Kret (PV.tup
 [PV.agg
 [PV.bool
 (Prod.fst
 (S.bigI
 (S.sv n1 (S.val np fun j => tp (j + ap)) +
 S.sv false (S.val nq fun j => tq (j + aq))))),
 PV.own (8) (1)
 (List.length
 (Prod.snd
 (S.bigI
 (S.sv n1 (S.val np fun j => tp (j + ap)) +
 S.sv false (S.val nq fun j => tq (j + aq))))))],
 PV.int IntKind.i64 (0 : Int)]) ([[(1, false, Blk.cols mq [Col.int IntKind.i64 tq]),
 (0, false, Blk.cols mp [Col.int IntKind.i64 tp]),
 (8, true,
 Blk.cols
 (List.length
 (Prod.snd
 (S.bigI
 (S.sv n1 (S.val np fun j => tp (j + ap)) +
 S.sv false (S.val nq fun j => tq (j + aq))))))
 [Col.int IntKind.i64 fun j =>
 S.at'
 (Prod.snd
 (S.bigI
 (S.sv n1 (S.val np fun j => tp (j + ap)) +
 S.sv false (S.val nq fun j => tq (j + aq)))))
 j])]]) (11)))
 (False))
 (test (decide
 ((ap + np ≤ mp ∧ aq + nq ≤ mq) ∧
 (np ≤ 1000 ∧ nq ≤ 1000) ∧
 (S.okG np fun j => tp (j + ap)) = true ∧
 (S.okG nq fun j => tq (j + aq)) = true))
 (test (decide
 ((↑(List.length
 (Prod.snd
 (S.bigI
 (S.sv n1 (S.val np fun j => tp (j + ap)) +
 S.sv true (S.val nq fun j => tq (j + aq)))))) :
 Int) >
 (80 : Int)))
 (Kret (PV.tup [PV.agg [PV.tf false, PV.nils], PV.int IntKind.i64 (3 : Int)]) ([[(1, false, Blk.cols mq [Col.int IntKind.i64 tq]),
 (0, false, Blk.cols mp [Col.int IntKind.i64 tp])]]) (11))
 (Kret (PV.tup
 [PV.agg
 [PV.bool
 (Prod.fst
 (S.bigI
 (S.sv n1 (S.val np fun j => tp (j + ap)) +
 S.sv true (S.val nq fun j => tq (j + aq))))),
 PV.own (8) (1)
 (List.length
 (Prod.snd
 (S.bigI
 (S.sv n1 (S.val np fun j => tp (j + ap)) +
 S.sv true (S.val nq fun j => tq (j + aq))))))],
 PV.int IntKind.i64 (0 : Int)]) ([[(1, false, Blk.cols mq [Col.int IntKind.i64 tq]),
 (0, false, Blk.cols mp [Col.int IntKind.i64 tp]),
 (8, true,
 Blk.cols
 (List.length
 (Prod.snd
 (S.bigI
 (S.sv n1 (S.val np fun j => tp (j + ap)) +
 S.sv true (S.val nq fun j => tq (j + aq))))))
 [Col.int IntKind.i64 fun j =>
 S.at'
 (Prod.snd
 (S.bigI
 (S.sv n1 (S.val np fun j => tp (j + ap)) +
 S.sv true (S.val nq fun j => tq (j + aq)))))
 j])]]) (11)))
 (False)))
 (Kret (PV.tup [PV.agg [PV.tf false, PV.nils], PV.int IntKind.i64 (1 : Int)]) ([[(1, false, Blk.cols mq [Col.int IntKind.i64 tq]),
 (0, false, Blk.cols mp [Col.int IntKind.i64 tp])]]) (7)))
 (False))
 (Kret (PV.tup [PV.agg [PV.tf false, PV.nils], PV.int IntKind.i64 (1 : Int)]) ([[(1, false, Blk.cols mq [Col.int IntKind.i64 tq]),
 (0, false, Blk.cols mp [Col.int IntKind.i64 tp])]]) (6)))
 (False)
theorem te24 (test : Bool → Prop → Prop → Prop) (Kst : KS) (Kret : KR) (n1 : Bool) (ap np mp : Nat) (tp : Nat → Int) (n2 : Bool) (aq nq mq : Nat) (tq : Nat → Int) : run test Tryd.env true (xD test) true 400 ⟨24, [.cd (mkFn Tryd.f24).body], argT 0 [.agg [.bool n1, .loose ⟨0, 1, ap, 0⟩ np], .agg [.bool n2, .loose ⟨1, 1, aq, 0⟩ nq]], [[], [(0, (false, .cols mp [.int .i64 tp])), (1, (false, .cols mq [.int .i64 tq]))]], 2⟩ (proj 2 [] Kst Kret) =
  Te24 test Kst Kret n1 ap np mp tp n2 aq nq mq tq := by kernel_rfl
attribute [local irreducible] Int.subNatNat in
theorem be24 (n1 : Bool) (ap np mp : Nat) (tp : Nat → Int) (n2 : Bool) (aq nq mq : Nat) (tq : Nat → Int) (Kst : KS) (Kret : KR) (x : St24 ⊕ Rt24) (hS : HS 2 400 ((I24 n1 ap np mp tp n2 aq nq mq tq)) Kst x) (hR : HR 2 400 ((V24 n1 ap np mp tp n2 aq nq mq tq)) (fun r => [newL (2 + 1) ((N24 n1 ap np mp tp n2 aq nq mq tq) r) ++ [(0, (false, .cols mp [.int .i64 tp])), (1, (false, .cols mq [.int .i64 tq]))]]) Kret x) (h : p24 n1 ap np mp tp n2 aq nq mq tq = some x) : Te24 cond Kst Kret n1 ap np mp tp n2 aq nq mq tq := by
  unfold Te24
  unfold p24 at h
  refine bif_split h
   (fun c0 h => bif_split h
   (fun c1 h => bif_split h
   (fun c2 h => bif_split h
   (fun c3 h => bif_split h
   (fun c4 h => bif_split h
   (fun c5 h => bif_split h
   (fun c6 h => ?_)
   (fun c6 h => ?_))
   (fun c5 h => ?_))
   (fun c4 h => bif_split h
   (fun c5 h => bif_split h
   (fun c6 h => ?_)
   (fun c6 h => ?_))
   (fun c5 h => ?_)))
   (fun c3 h => ?_))
   (fun c2 h => ?_))
   (fun c1 h => ?_))
   (fun c0 h => ?_)
  all_goals first
    | exact ret_at hR _ h (fun n => bif Nat.beq n 3 then 399 else n) rfl rfl rfl (rn_tup ⟨(rn_agg ⟨(rn_bool_tf rfl), (rn_own_nils rfl), trivial⟩), (rn_int rfl), trivial⟩) rfl (entl_fresh (use_own rfl) (fresh_ok rfl) (entl_bor (use_lo rfl) rfl rfl (entl_bor (use_lo rfl) rfl rfl entl_nil)))
    | exact no_some h
    | exact ret_at hR _ h (fun n => bif Nat.beq n 3 then 8 else n) rfl rfl rfl (rn_tup ⟨(rn_agg ⟨(rn_bool rfl), (rn_own (use_own rfl) rfl rfl), trivial⟩), (rn_int rfl), trivial⟩) rfl (entl_new (use_own rfl) rfl (Nat.le_of_eq rfl) (rcs_int (fun _ _ => rfl) rcs_nil) (entl_bor (use_lo rfl) rfl rfl (entl_bor (use_lo rfl) rfl rfl entl_nil)))
theorem a24 (n1 : Bool) (ap np mp : Nat) (tp : Nat → Int) (n2 : Bool) (aq nq mq : Nat) (tq : Nat → Int) {r : Rt24} (h : Goes ((q24 n1 ap np mp tp n2 aq nq mq tq)) ((p24 n1 ap np mp tp n2 aq nq mq tq)) r) : CallR Tryd.prog 24 [.agg [.bool n1, .loose ⟨0, 1, ap, 0⟩ np], .agg [.bool n2, .loose ⟨1, 1, aq, 0⟩ nq]] [[(0, (false, .cols mp [.int .i64 tp])), (1, (false, .cols mq [.int .i64 tq]))]] 2 ((V24 n1 ap np mp tp n2 aq nq mq tq) r) ((fun r => [newL (2 + 1) ((N24 n1 ap np mp tp n2 aq nq mq tq) r) ++ [(0, (false, .cols mp [.int .i64 tp])), (1, (false, .cols mq [.int .i64 tq]))]]) r) 400 ∧ ∃ F, Tryd.prog.funcs[24]? = some F ∧ F.body.isSome = true ∧ (F.name == "runtime.NumGoroutine") = false := by
  refine dec_calls (f := 24) (lo := 2) (hi := 400) (H := [[(0, (false, .cols mp [.int .i64 tp])), (1, (false, .cols mq [.int .i64 tq]))]]) (args := [.agg [.bool n1, .loose ⟨0, 1, ap, 0⟩ np], .agg [.bool n2, .loose ⟨1, 1, aq, 0⟩ nq]]) Tryd.envOk Tryd.mixed xD_ok ((I24 n1 ap np mp tp n2 aq nq mq tq)) ((V24 n1 ap np mp tp n2 aq nq mq tq)) (fun r => [newL (2 + 1) ((N24 n1 ap np mp tp n2 aq nq mq tq) r) ++ [(0, (false, .cols mp [.int .i64 tp])), (1, (false, .cols mq [.int .i64 tq]))]]) (fn := mkFn Tryd.f24) (ts := []) (n := 400) rfl (by decide) (by simp) (names_of rfl) ?_ ?_ ?_ h
  · intro s; exact s.elim
  · intro Kst Kret x hS hR h
    exact Holds.eq (te24 cond Kst Kret n1 ap np mp tp n2 aq nq mq tq) (be24 n1 ap np mp tp n2 aq nq mq tq Kst Kret x hS hR h)
  · intro Kst Kret x hS hR s h; exact s.elim
noncomputable def k24  : Con := ⟨24, [.agg [.plain (.bool), .list [.int .i64]], .agg [.plain (.bool), .list [.int .i64]]], fun (x : (Bool × (Nat × Nat × Nat × (Nat → Int) × Unit) × Unit) × (Bool × (Nat × Nat × Nat × (Nat → Int) × Unit) × Unit) × Unit) => (fun (n1 : Bool) (ap np mp : Nat) (tp : Nat → Int) (n2 : Bool) (aq nq mq : Nat) (tq : Nat → Int) => decide ((ap + np ≤ mp ∧ np ≤ 1000000) ∧ aq + nq ≤ mq ∧ nq ≤ 1000000)) x.1.1 x.1.2.1.1 x.1.2.1.2.1 x.1.2.1.2.2.1 x.1.2.1.2.2.2.1 x.2.1.1 x.2.1.2.1.1 x.2.1.2.1.2.1 x.2.1.2.1.2.2.1 x.2.1.2.1.2.2.2.1, fun (x : (Bool × (Nat × Nat × Nat × (Nat → Int) × Unit) × Unit) × (Bool × (Nat × Nat × Nat × (Nat → Int) × Unit) × Unit) × Unit) => (fun (n1 : Bool) (ap np mp : Nat) (tp : Nat → Int) (n2 : Bool) (aq nq mq : Nat) (tq : Nat → Int) => (V24 n1 ap np mp tp n2 aq nq mq tq) ((S.subI n1 np (fun j => tp (j + ap)) n2 nq (fun j => tq (j + aq))).1, (S.subI n1 np (fun j => tp (j + ap)) n2 nq (fun j => tq (j + aq))).2.1, (S.subI n1 np (fun j => tp (j + ap)) n2 nq (fun j => tq (j + aq))).2.2)) x.1.1 x.1.2.1.1 x.1.2.1.2.1 x.1.2.1.2.2.1 x.1.2.1.2.2.2.1 x.2.1.1 x.2.1.2.1.1 x.2.1.2.1.2.1 x.2.1.2.1.2.2.1 x.2.1.2.1.2.2.2.1, fun (x : (Bool × (Nat × Nat × Nat × (Nat → Int) × Unit) × Unit) × (Bool × (Nat × Nat × Nat × (Nat → Int) × Unit) × Unit) × Unit) => (fun (n1 : Bool) (ap np mp : Nat) (tp : Nat → Int) (n2 : Bool) (aq nq mq : Nat) (tq : Nat → Int) => (N24 n1 ap np mp tp n2 aq nq mq tq) ((S.subI n1 np (fun j => tp (j + ap)) n2 nq (fun j => tq (j + aq))).1, (S.subI n1 np (fun j => tp (j + ap)) n2 nq (fun j => tq (j + aq))).2.1, (S.subI n1 np (fun j => tp (j + ap)) n2 nq (fun j => tq (j + aq))).2.2)) x.1.1 x.1.2.1.1 x.1.2.1.2.1 x.1.2.1.2.2.1 x.1.2.1.2.2.2.1 x.2.1.1 x.2.1.2.1.1 x.2.1.2.1.2.1 x.2.1.2.1.2.2.1 x.2.1.2.1.2.2.2.1, fun _ _ => .dead⟩
theorem s24 (n1 : Bool) (ap np mp : Nat) (tp : Nat → Int) (n2 : Bool) (aq nq mq : Nat) (tq : Nat → Int) (hp : (ap + np ≤ mp ∧ np ≤ 1000000) ∧ aq + nq ≤ mq ∧ nq ≤ 1000000) : Goes ((q24 n1 ap np mp tp n2 aq nq mq tq)) ((p24 n1 ap np mp tp n2 aq nq mq tq)) (((S.subI n1 np (fun j => tp (j + ap)) n2 nq (fun j => tq (j + aq))).1, (S.subI n1 np (fun j => tp (j + ap)) n2 nq (fun j => tq (j + aq))).2.1, (S.subI n1 np (fun j => tp (j + ap)) n2 nq (fun j => tq (j + aq))).2.2)) := by
  obtain ⟨⟨hp1, hp2⟩, hp3, hp4⟩ := hp
  unfold S.subI
  by_cases g1 : S.okI n1 np (fun j => tp (j + ap)) = true
  · obtain ⟨l1, k1⟩ := okI_G g1
    by_cases g2 : S.okI n2 nq (fun j => tq (j + aq)) = true
    · obtain ⟨l2, k2⟩ := okI_G g2
      have hq : (ap + np ≤ mp ∧ aq + nq ≤ mq) ∧ (np ≤ 1000 ∧ nq ≤ 1000) ∧ S.okG np (fun j => tp (j + ap)) = true ∧ S.okG nq (fun j => tq (j + aq)) = true := ⟨⟨hp1, hp3⟩, ⟨by omega, by omega⟩, k1, k2⟩
      have v2 := val_nn (okG_D k2)
      rw [if_pos ⟨g1, g2⟩, fit_of]
      have et : S.sv n1 (S.val np (fun j => tp (j + ap))) - S.sv n2 (S.val nq (fun j => tq (j + aq))) = S.sv n1 (S.val np (fun j => tp (j + ap))) + S.sv (!n2) (S.val nq (fun j => tq (j + aq))) := by rw [sv_neg]; omega
      rw [et]
      unfold p24
      cases n2 <;>
      (simp only [cond_true, cond_false, Bool.not_true, Bool.not_false, g1, g2, decide_eq_true (⟨hp1, hp2⟩ : ap + np ≤ mp ∧ np ≤ 1000000), decide_eq_true (⟨hp3, hp4⟩ : aq + nq ≤ mq ∧ nq ≤ 1000000), decide_eq_true hq]
       generalize S.bigI _ = B
       by_cases hl : B.2.length > 80
       · rw [if_pos hl]
         rw [decide_eq_true (by omega : ((B.2.length : Nat) : Int) > 80), cond_true]
         exact goes_inr.mpr rfl
       · rw [if_neg hl]
         rw [decide_eq_false (by omega : ¬ ((B.2.length : Nat) : Int) > 80), cond_false]
         exact goes_inr.mpr rfl)
    · rw [if_neg (fun h => g2 h.2)]
      have g2 := Bool.not_eq_true _ ▸ g2
      unfold p24
      cases n2 <;> simp only [cond_true, cond_false, g1, g2, decide_eq_true (⟨hp1, hp2⟩ : ap + np ≤ mp ∧ np ≤ 1000000), decide_eq_true (⟨hp3, hp4⟩ : aq + nq ≤ mq ∧ nq ≤ 1000000)] <;> exact goes_inr.mpr rfl
  · rw [if_neg (fun h => g1 h.1)]
    have g1 := Bool.not_eq_true _ ▸ g1
    unfold p24
    simp only [cond_true, cond_false, g1, decide_eq_true (⟨hp1, hp2⟩ : ap + np ≤ mp ∧ np ≤ 1000000)]
    exact goes_inr.mpr rfl
theorem k24_ok  : k24.ok Tryd.prog := by
  intro x hx
  obtain ⟨⟨n1, ⟨ap, np, mp, tp, _⟩, _⟩, ⟨n2, ⟨aq, nq, mq, tq, _⟩, _⟩, _⟩ := x
  obtain ⟨h1, h2⟩ := a24 n1 ap np mp tp n2 aq nq mq tq (s24 n1 ap np mp tp n2 aq nq mq tq (of_dec hx rfl))
  exact ⟨⟨400, (by decide : 2 + 1 + 1 ≤ 400), h1⟩, h2⟩
abbrev St25  := Empty
abbrev Rt25  := Bool × Int × List Int
noncomputable def V25 (n1 : Bool) (ap np mp : Nat) (tp : Nat → Int) (n2 : Bool) (aq nq mq : Nat) (tq : Nat → Int) (r : Rt25) : PV := PV.tup
 [PV.agg [PV.bool r.1, PV.own (3) (1) (List.length r.2.2)],
 PV.int IntKind.i64 r.2.1]
noncomputable def N25 (n1 : Bool) (ap np mp : Nat) (tp : Nat → Int) (n2 : Bool) (aq nq mq : Nat) (tq : Nat → Int) (r : Rt25) : List Blk := [Blk.cols (List.length r.2.2) [Col.int IntKind.i64 fun j => S.at' r.2.2 j]]
noncomputable def I25 (n1 : Bool) (ap np mp : Nat) (tp : Nat → Int) (n2 : Bool) (aq nq mq : Nat) (tq : Nat → Int) : St25 → Hd := fun s => s.elim
noncomputable def q25 (n1 : Bool) (ap np mp : Nat) (tp : Nat → Int) (n2 : Bool) (aq nq mq : Nat) (tq : Nat → Int) : St25 → Option (St25 ⊕ Rt25) := fun s => s.elim
noncomputable def p25 (n1 : Bool) (ap np mp : Nat) (tp : Nat → Int) (n2 : Bool) (aq nq mq : Nat) (tq : Nat → Int) : Option (St25 ⊕ Rt25) := bif (decide (ap + np ≤ mp ∧ np ≤ 1000000))
 then (bif (S.okI n1 np fun j => tp (j + ap))
 then (bif (decide (aq + nq ≤ mq ∧ nq ≤ 1000000))
 then (bif (S.okI n2 nq fun j => tq (j + aq))
 then (bif (n2)
 then (bif (decide (aq + nq ≤ mq ∧ nq ≤ 1000000 ∧ (S.okD nq fun j => tq (j + aq)) = true))
 then (bif (decide
 ((ap + np ≤ mp ∧
 0 + List.length (S.grp (S.val nq fun j => tq (j + aq))) ≤
 List.length (S.grp (S.val nq fun j => tq (j + aq)))) ∧
 (np ≤ 1000 ∧ List.length (S.grp (S.val nq fun j => tq (j + aq))) ≤ 1000) ∧
 (S.okG np fun j => tp (j + ap)) = true ∧
 (S.okG (List.length (S.grp (S.val nq fun j => tq (j + aq)))) fun j =>
 S.at' (S.grp (S.val nq fun j => tq (j + aq))) j) =
 true))
 then (bif (decide
 ((↑(List.length
 (Prod.snd
 (S.bigI
 (S.sv n1 (S.val np fun j => tp (j + ap)) +
 S.sv (S.sgB false (S.val nq fun j => tq (j + aq)))
 (S.val (List.length (S.grp (S.val nq fun j => tq (j + aq))))
 fun j => S.at' (S.grp (S.val nq fun j => tq (j + aq))) j))))) :
 Int) >
 (80 : Int)))
 then (some (.inr (false, (3 : Int), [])))
 else (some (.inr (Prod.fst
 (S.bigI
 (S.sv n1 (S.val np fun j => tp (j + ap)) +
 S.sv (S.sgB false (S.val nq fun j => tq (j + aq)))
 (S.val (List.length (S.grp (S.val nq fun j => tq (j + aq)))) fun j =>
 S.at' (S.grp (S.val nq fun j => tq (j + aq))) j))), (0 : Int), Prod.snd
 (S.bigI
 (S.sv n1 (S.val np fun j => tp (j + ap)) +
 S.sv (S.sgB false (S.val nq fun j => tq (j + aq)))
 (S.val (List.length (S.grp (S.val nq fun j => tq (j + aq)))) fun j =>
 S.at' (S.grp (S.val nq fun j => tq (j + aq))) j)))))))
 else (none))
 else (none))
 else (bif (decide (aq + nq ≤ mq ∧ nq ≤ 1000000 ∧ (S.okD nq fun j => tq (j + aq)) = true))
 then (bif (decide
 ((ap + np ≤ mp ∧
 0 + List.length (S.grp (S.val nq fun j => tq (j + aq))) ≤
 List.length (S.grp (S.val nq fun j => tq (j + aq)))) ∧
 (np ≤ 1000 ∧ List.length (S.grp (S.val nq fun j => tq (j + aq))) ≤ 1000) ∧
 (S.okG np fun j => tp (j + ap)) = true ∧
 (S.okG (List.length (S.grp (S.val nq fun j => tq (j + aq)))) fun j =>
 S.at' (S.grp (S.val nq fun j => tq (j + aq))) j) =
 true))
 then (bif (decide
 ((↑(List.length
 (Prod.snd
 (S.bigI
 (S.sv n1 (S.val np fun j => tp (j + ap)) +
 S.sv (S.sgB true (S.val nq fun j => tq (j + aq)))
 (S.val (List.length (S.grp (S.val nq fun j => tq (j + aq))))
 fun j => S.at' (S.grp (S.val nq fun j => tq (j + aq))) j))))) :
 Int) >
 (80 : Int)))
 then (some (.inr (false, (3 : Int), [])))
 else (some (.inr (Prod.fst
 (S.bigI
 (S.sv n1 (S.val np fun j => tp (j + ap)) +
 S.sv (S.sgB true (S.val nq fun j => tq (j + aq)))
 (S.val (List.length (S.grp (S.val nq fun j => tq (j + aq)))) fun j =>
 S.at' (S.grp (S.val nq fun j => tq (j + aq))) j))), (0 : Int), Prod.snd
 (S.bigI
 (S.sv n1 (S.val np fun j => tp (j + ap)) +
 S.sv (S.sgB true (S.val nq fun j => tq (j + aq)))
 (S.val (List.length (S.grp (S.val nq fun j => tq (j + aq)))) fun j =>
 S.at' (S.grp (S.val nq fun j => tq (j + aq))) j)))))))
 else (none))
 else (none)))
 else (some (.inr (false, (1 : Int), []))))
 else (none))
 else (some (.inr (false, (1 : Int), []))))
 else (none)
noncomputable def Te25 (test : Bool → Prop → Prop → Prop) (Kst : KS) (Kret : KR) (n1 : Bool) (ap np mp : Nat) (tp : Nat → Int) (n2 : Bool) (aq nq mq : Nat) (tq : Nat → Int) : Prop :=
  test (decide (ap + np ≤ mp ∧ np ≤ 1000000))
 (test (S.okI n1 np fun j => tp (j + ap))
 (test (decide (aq + nq ≤ mq ∧ nq ≤ 1000000))
 (test (S.okI n2 nq fun j => tq (j + aq))
 (test (n2)
 (test (decide (aq + nq ≤ mq ∧ nq ≤ 1000000 ∧ (S.okD nq fun j => tq (j + aq)) = true))
 (test (decide
 ((ap + np ≤ mp ∧
 0 + List.length (S.grp (S.val nq fun j => tq (j + aq))) ≤
 List.length (S.grp (S.val nq fun j => tq (j + aq)))) ∧
 (np ≤ 1000 ∧ List.length (S.grp (S.val nq fun j => tq (j + aq))) ≤ 1000) ∧
 (S.okG np fun j => tp (j + ap)) = true ∧
 (S.okG (List.length (S.grp (S.val nq fun j => tq (j + aq)))) fun j =>
 S.at' (S.grp (S.val nq fun j => tq (j + aq))) j) =
 true))
 (test (decide
 ((↑(List.length
 (Prod.snd
 (S.bigI
 (S.sv n1 (S.val np fun j => tp (j + ap)) +
 S.sv (S.sgB false (S.val nq fun j => tq (j + aq)))
 (S.val (List.length (S.grp (S.val nq fun j => tq (j + aq))))
 fun j => S.at' (S.grp (S.val nq fun j => tq (j + aq))) j))))) :
 Int) >
 (80 : Int)))
 (Kret (PV.tup [PV.agg [PV.tf false, PV.nils], PV.int IntKind.i64 (3 : Int)]) ([[(1, false, Blk.cols mq [Col.int IntKind.i64 tq]),
 (0, false, Blk.cols mp [Col.int IntKind.i64 tp])]]) (15))
 (Kret (PV.tup
 [PV.agg
 [PV.bool
 (Prod.fst
 (S.bigI
 (S.sv n1 (S.val np fun j => tp (j + ap)) +
 S.sv (S.sgB false (S.val nq fun j => tq (j + aq)))
 (S.val (List.length (S.grp (S.val nq fun j => tq (j + aq))))
 fun j => S.at' (S.grp (S.val nq fun j => tq (j + aq))) j)))),
 PV.own (12) (1)
 (List.length
 (Prod.snd
 (S.bigI
 (S.sv n1 (S.val np fun j => tp (j + ap)) +
 S.sv (S.sgB false (S.val nq fun j => tq (j + aq)))
 (S.val (List.length (S.grp (S.val nq fun j => tq (j + aq))))
 fun j => S.at' (S.grp (S.val nq fun j => tq (j + aq))) j)))))],
 PV.int IntKind.i64 (0 : Int)]) ([[(1, false, Blk.cols mq [Col.int IntKind.i64 tq]),
 (0, false, Blk.cols mp [Col.int IntKind.i64 tp]),
 (12, true,
 Blk.cols
 (List.length
 (Prod.snd
 (S.bigI
 (S.sv n1 (S.val np fun j => tp (j + ap)) +
 S.sv (S.sgB false (S.val nq fun j => tq (j + aq)))
 (S.val (List.length (S.grp (S.val nq fun j => tq (j + aq))))
 fun j => S.at' (S.grp (S.val nq fun j => tq (j + aq))) j)))))
 [Col.int IntKind.i64 fun j =>
 S.at'
 (Prod.snd
 (S.bigI
 (S.sv n1 (S.val np fun j => tp (j + ap)) +
 S.sv (S.sgB false (S.val nq fun j => tq (j + aq)))
 (S.val (List.length (S.grp (S.val nq fun j => tq (j + aq))))
 fun j => S.at' (S.grp (S.val nq fun j => tq (j + aq))) j))))
 j])]]) (15)))
 (False))
 (False))
 (test (decide (aq + nq ≤ mq ∧ nq ≤ 1000000 ∧ (S.okD nq fun j => tq (j + aq)) = true))
 (test (decide
 ((ap + np ≤ mp ∧
 0 + List.length (S.grp (S.val nq fun j => tq (j + aq))) ≤
 List.length (S.grp (S.val nq fun j => tq (j + aq)))) ∧
 (np ≤ 1000 ∧ List.length (S.grp (S.val nq fun j => tq (j + aq))) ≤ 1000) ∧
 (S.okG np fun j => tp (j + ap)) = true ∧
 (S.okG (List.length (S.grp (S.val nq fun j => tq (j + aq)))) fun j =>
 S.at' (S.grp (S.val nq fun j => tq (j + aq))) j) =
 true))
 (test (decide
 ((↑(List.length
 (Prod.snd
 (S.bigI
 (S.sv n1 (S.val np fun j => tp (j + ap)) +
 S.sv (S.sgB true (S.val nq fun j => tq (j + aq)))
 (S.val (List.length (S.grp (S.val nq fun j => tq (j + aq))))
 fun j => S.at' (S.grp (S.val nq fun j => tq (j + aq))) j))))) :
 Int) >
 (80 : Int)))
 (Kret (PV.tup [PV.agg [PV.tf false, PV.nils], PV.int IntKind.i64 (3 : Int)]) ([[(1, false, Blk.cols mq [Col.int IntKind.i64 tq]),
 (0, false, Blk.cols mp [Col.int IntKind.i64 tp])]]) (15))
 (Kret (PV.tup
 [PV.agg
 [PV.bool
 (Prod.fst
 (S.bigI
 (S.sv n1 (S.val np fun j => tp (j + ap)) +
 S.sv (S.sgB true (S.val nq fun j => tq (j + aq)))
 (S.val (List.length (S.grp (S.val nq fun j => tq (j + aq))))
 fun j => S.at' (S.grp (S.val nq fun j => tq (j + aq))) j)))),
 PV.own (12) (1)
 (List.length
 (Prod.snd
 (S.bigI
 (S.sv n1 (S.val np fun j => tp (j + ap)) +
 S.sv (S.sgB true (S.val nq fun j => tq (j + aq)))
 (S.val (List.length (S.grp (S.val nq fun j => tq (j + aq))))
 fun j => S.at' (S.grp (S.val nq fun j => tq (j + aq))) j)))))],
 PV.int IntKind.i64 (0 : Int)]) ([[(1, false, Blk.cols mq [Col.int IntKind.i64 tq]),
 (0, false, Blk.cols mp [Col.int IntKind.i64 tp]),
 (12, true,
 Blk.cols
 (List.length
 (Prod.snd
 (S.bigI
 (S.sv n1 (S.val np fun j => tp (j + ap)) +
 S.sv (S.sgB true (S.val nq fun j => tq (j + aq)))
 (S.val (List.length (S.grp (S.val nq fun j => tq (j + aq))))
 fun j => S.at' (S.grp (S.val nq fun j => tq (j + aq))) j)))))
 [Col.int IntKind.i64 fun j =>
 S.at'
 (Prod.snd
 (S.bigI
 (S.sv n1 (S.val np fun j => tp (j + ap)) +
 S.sv (S.sgB true (S.val nq fun j => tq (j + aq)))
 (S.val (List.length (S.grp (S.val nq fun j => tq (j + aq))))
 fun j => S.at' (S.grp (S.val nq fun j => tq (j + aq))) j))))
 j])]]) (15)))
 (False))
 (False)))
 (Kret (PV.tup [PV.agg [PV.tf false, PV.nils], PV.int IntKind.i64 (1 : Int)]) ([[(1, false, Blk.cols mq [Col.int IntKind.i64 tq]),
 (0, false, Blk.cols mp [Col.int IntKind.i64 tp])]]) (7)))
 (False))
 (Kret (PV.tup [PV.agg [PV.tf false, PV.nils], PV.int IntKind.i64 (1 : Int)]) ([[(1, false, Blk.cols mq [Col.int IntKind.i64 tq]),
 (0, false, Blk.cols mp [Col.int IntKind.i64 tp])]]) (6)))
 (False)
theorem te25 (test : Bool → Prop → Prop → Prop) (Kst : KS) (Kret : KR) (n1 : Bool) (ap np mp : Nat) (tp : Nat → Int) (n2 : Bool) (aq nq mq : Nat) (tq : Nat → Int) : run test Tryd.env true (xD test) true 400 ⟨25, [.cd (mkFn Tryd.f25).body], argT 0 [.agg [.bool n1, .loose ⟨0, 1, ap, 0⟩ np], .agg [.bool n2, .loose ⟨1, 1, aq, 0⟩ nq]], [[], [(0, (false, .cols mp [.int .i64 tp])), (1, (false, .cols mq [.int .i64 tq]))]], 2⟩ (proj 2 [] Kst Kret) =
  Te25 test Kst Kret n1 ap np mp tp n2 aq nq mq tq := by kernel_rfl
attribute [local irreducible] Int.subNatNat in
theorem be25 (n1 : Bool) (ap np mp : Nat) (tp : Nat → Int) (n2 : Bool) (aq nq mq : Nat) (tq : Nat → Int) (Kst : KS) (Kret : KR) (x : St25 ⊕ Rt25) (hS : HS 2 400 ((I25 n1 ap np mp tp n2 aq nq mq tq)) Kst x) (hR : HR 2 400 ((V25 n1 ap np mp tp n2 aq nq mq tq)) (fun r => [newL (2 + 1) ((N25 n1 ap np mp tp n2 aq nq mq tq) r) ++ [(0, (false, .cols mp [.int .i64 tp])), (1, (false, .cols mq [.int .i64 tq]))]]) Kret x) (h : p25 n1 ap np mp tp n2 aq nq mq tq = some x) : Te25 cond Kst Kret n1 ap np mp tp n2 aq nq mq tq := by
  unfold Te25
  unfold p25 at h
  refine bif_split h
   (fun c0 h => bif_split h
   (fun c1 h => bif_split h
   (fun c2 h => bif_split h
   (fun c3 h => bif_split h
   (fun c4 h => bif_split h
   (fun c5 h => bif_split h
   (fun c6 h => bif_split h
   (fun c7 h => ?_)
   (fun c7 h => ?_))
   (fun c6 h => ?_))
   (fun c5 h => ?_))
   (fun c4 h => bif_split h
   (fun c5 h => bif_split h
   (fun c6 h => bif_split h
   (fun c7 h => ?_)
   (fun c7 h => ?_))
   (fun c6 h => ?_))
   (fun c5 h => ?_)))
   (fun c3 h => ?_))
   (fun c2 h => ?_))
   (fun c1 h => ?_))
   (fun c0 h => ?_)
  all_goals first
    | exact no_some h
    | exact ret_at hR _ h (fun n => bif Nat.beq n 3 then 399 else n) rfl rfl rfl (rn_tup ⟨(rn_agg ⟨(rn_bool_tf rfl), (rn_own_nils rfl), trivial⟩), (rn_int rfl), trivial⟩) rfl (entl_fresh (use_own rfl) (fresh_ok rfl) (entl_bor (use_lo rfl) rfl rfl (entl_bor (use_lo rfl) rfl rfl entl_nil)))
    | exact ret_at hR _ h (fun n => bif Nat.beq n 3 then 12 else n) rfl rfl rfl (rn_tup ⟨(rn_agg ⟨(rn_bool rfl), (rn_own (use_own rfl) rfl rfl), trivial⟩), (rn_int rfl), trivial⟩) rfl (entl_new (use_own rfl) rfl (Nat.le_of_eq rfl) (rcs_int (fun _ _ => rfl) rcs_nil) (entl_bor (use_lo rfl) rfl rfl (entl_bor (use_lo rfl) rfl rfl entl_nil)))
theorem a25 (n1 : Bool) (ap np mp : Nat) (tp : Nat → Int) (n2 : Bool) (aq nq mq : Nat) (tq : Nat → Int) {r : Rt25} (h : Goes ((q25 n1 ap np mp tp n2 aq nq mq tq)) ((p25 n1 ap np mp tp n2 aq nq mq tq)) r) : CallR Tryd.prog 25 [.agg [.bool n1, .loose ⟨0, 1, ap, 0⟩ np], .agg [.bool n2, .loose ⟨1, 1, aq, 0⟩ nq]] [[(0, (false, .cols mp [.int .i64 tp])), (1, (false, .cols mq [.int .i64 tq]))]] 2 ((V25 n1 ap np mp tp n2 aq nq mq tq) r) ((fun r => [newL (2 + 1) ((N25 n1 ap np mp tp n2 aq nq mq tq) r) ++ [(0, (false, .cols mp [.int .i64 tp])), (1, (false, .cols mq [.int .i64 tq]))]]) r) 400 ∧ ∃ F, Tryd.prog.funcs[25]? = some F ∧ F.body.isSome = true ∧ (F.name == "runtime.NumGoroutine") = false := by
  refine dec_calls (f := 25) (lo := 2) (hi := 400) (H := [[(0, (false, .cols mp [.int .i64 tp])), (1, (false, .cols mq [.int .i64 tq]))]]) (args := [.agg [.bool n1, .loose ⟨0, 1, ap, 0⟩ np], .agg [.bool n2, .loose ⟨1, 1, aq, 0⟩ nq]]) Tryd.envOk Tryd.mixed xD_ok ((I25 n1 ap np mp tp n2 aq nq mq tq)) ((V25 n1 ap np mp tp n2 aq nq mq tq)) (fun r => [newL (2 + 1) ((N25 n1 ap np mp tp n2 aq nq mq tq) r) ++ [(0, (false, .cols mp [.int .i64 tp])), (1, (false, .cols mq [.int .i64 tq]))]]) (fn := mkFn Tryd.f25) (ts := []) (n := 400) rfl (by decide) (by simp) (names_of rfl) ?_ ?_ ?_ h
  · intro s; exact s.elim
  · intro Kst Kret x hS hR h
    exact Holds.eq (te25 cond Kst Kret n1 ap np mp tp n2 aq nq mq tq) (be25 n1 ap np mp tp n2 aq nq mq tq Kst Kret x hS hR h)
  · intro Kst Kret x hS hR s h; exact s.elim
noncomputable def k25  : Con := ⟨25, [.agg [.plain (.bool), .list [.int .i64]], .agg [.plain (.bool), .list [.int .i64]]], fun (x : (Bool × (Nat × Nat × Nat × (Nat → Int) × Unit) × Unit) × (Bool × (Nat × Nat × Nat × (Nat → Int) × Unit) × Unit) × Unit) => (fun (n1 : Bool) (ap np mp : Nat) (tp : Nat → Int) (n2 : Bool) (aq nq mq : Nat) (tq : Nat → Int) => decide ((ap + np ≤ mp ∧ np ≤ 1000000) ∧ aq + nq ≤ mq ∧ nq ≤ 1000000)) x.1.1 x.1.2.1.1 x.1.2.1.2.1 x.1.2.1.2.2.1 x.1.2.1.2.2.2.1 x.2.1.1 x.2.1.2.1.1 x.2.1.2.1.2.1 x.2.1.2.1.2.2.1 x.2.1.2.1.2.2.2.1, fun (x : (Bool × (Nat × Nat × Nat × (Nat → Int) × Unit) × Unit) × (Bool × (Nat × Nat × Nat × (Nat → Int) × Unit) × Unit) × Unit) => (fun (n1 : Bool) (ap np mp : Nat) (tp : Nat → Int) (n2 : Bool) (aq nq mq : Nat) (tq : Nat → Int) => (V25 n1 ap np mp tp n2 aq nq mq tq) ((S.subI n1 np (fun j => tp (j + ap)) n2 nq (fun j => tq (j + aq))).1, (S.subI n1 np (fun j => tp (j + ap)) n2 nq (fun j => tq (j + aq))).2.1, (S.subI n1 np (fun j => tp (j + ap)) n2 nq (fun j => tq (j + aq))).2.2)) x.1.1 x.1.2.1.1 x.1.2.1.2.1 x.1.2.1.2.2.1 x.1.2.1.2.2.2.1 x.2.1.1 x.2.1.2.1.1 x.2.1.2.1.2.1 x.2.1.2.1.2.2.1 x.2.1.2.1.2.2.2.1, fun (x : (Bool × (Nat × Nat × Nat × (Nat → Int) × Unit) × Unit) × (Bool × (Nat × Nat × Nat × (Nat → Int) × Unit) × Unit) × Unit) => (fun (n1 : Bool) (ap np mp : Nat) (tp : Nat → Int) (n2 : Bool) (aq nq mq : Nat) (tq : Nat → Int) => (N25 n1 ap np mp tp n2 aq nq mq tq) ((S.subI n1 np (fun j => tp (j + ap)) n2 nq (fun j => tq (j + aq))).1, (S.subI n1 np (fun j => tp (j + ap)) n2 nq (fun j => tq (j + aq))).2.1, (S.subI n1 np (fun j => tp (j + ap)) n2 nq (fun j => tq (j + aq))).2.2)) x.1.1 x.1.2.1.1 x.1.2.1.2.1 x.1.2.1.2.2.1 x.1.2.1.2.2.2.1 x.2.1.1 x.2.1.2.1.1 x.2.1.2.1.2.1 x.2.1.2.1.2.2.1 x.2.1.2.1.2.2.2.1, fun _ _ => .dead⟩
theorem s25 (n1 : Bool) (ap np mp : Nat) (tp : Nat → Int) (n2 : Bool) (aq nq mq : Nat) (tq : Nat → Int) (hp : (ap + np ≤ mp ∧ np ≤ 1000000) ∧ aq + nq ≤ mq ∧ nq ≤ 1000000) : Goes ((q25 n1 ap np mp tp n2 aq nq mq tq)) ((p25 n1 ap np mp tp n2 aq nq mq tq)) (((S.subI n1 np (fun j => tp (j + ap)) n2 nq (fun j => tq (j + aq))).1, (S.subI n1 np (fun j => tp (j + ap)) n2 nq (fun j => tq (j + aq))).2.1, (S.subI n1 np (fun j => tp (j + ap)) n2 nq (fun j => tq (j + aq))).2.2)) := by
  obtain ⟨⟨hp1, hp2⟩, hp3, hp4⟩ := hp
  unfold S.subI
  by_cases g1 : S.okI n1 np (fun j => tp (j + ap)) = true
  · obtain ⟨l1, k1⟩ := okI_G g1
    by_cases g2 : S.okI n2 nq (fun j => tq (j + aq)) = true
    · obtain ⟨l2, k2⟩ := okI_G g2
      have hq : (ap + np ≤ mp ∧ aq + nq ≤ mq) ∧ (np ≤ 1000 ∧ nq ≤ 1000) ∧ S.okG np (fun j => tp (j + ap)) = true ∧ S.okG nq (fun j => tq (j + aq)) = true := ⟨⟨hp1, hp3⟩, ⟨by omega, by omega⟩, k1, k2⟩
      have v2 := val_nn (okG_D k2)
      rw [if_pos ⟨g1, g2⟩, fit_of]
      have et : S.sv n1 (S.val np (fun j => tp (j + ap))) - S.sv n2 (S.val nq (fun j => tq (j + aq))) = S.sv n1 (S.val np (fun j => tp (j + ap))) + S.sv (S.sgB (!n2) (S.val nq (fun j => tq (j + aq)))) (S.val nq (fun j => tq (j + aq))) := by rw [sv_sg v2, sv_neg]; omega
      rw [et]
      have h6 : aq + nq ≤ mq ∧ nq ≤ 1000000 ∧ S.okD nq (fun j => tq (j + aq)) = true := ⟨hp3, hp4, okG_D k2⟩
      have hg : (S.grp (S.val nq (fun j => tq (j + aq)))).length = nq := by rw [← ok_grp k2, mkl_len]
      have hq' : (ap + np ≤ mp ∧ 0 + (S.grp (S.val nq (fun j => tq (j + aq)))).length ≤ (S.grp (S.val nq (fun j => tq (j + aq)))).length) ∧ (np ≤ 1000 ∧ (S.grp (S.val nq (fun j => tq (j + aq)))).length ≤ 1000) ∧ S.okG np (fun j => tp (j + ap)) = true ∧ (S.okG (S.grp (S.val nq (fun j => tq (j + aq)))).length fun j => S.at' (S.grp (S.val nq (fun j => tq (j + aq)))) j) = true := ⟨⟨hp1, by omega⟩, ⟨by omega, by omega⟩, k1, grp_ok⟩
      unfold p25
      cases n2 <;>
      (simp only [cond_true, cond_false, Bool.not_true, Bool.not_false, g1, g2, decide_eq_true (⟨hp1, hp2⟩ : ap + np ≤ mp ∧ np ≤ 1000000), decide_eq_true (⟨hp3, hp4⟩ : aq + nq ≤ mq ∧ nq ≤ 1000000), decide_eq_true h6, val_grpL v2, decide_eq_true hq']
       generalize S.bigI _ = B
       by_cases hl : B.2.length > 80
       · rw [if_pos hl]
         rw [decide_eq_true (by omega : ((B.2.length : Nat) : Int) > 80), cond_true]
         exact goes_inr.mpr rfl
       · rw [if_neg hl]
         rw [decide_eq_false (by omega : ¬ ((B.2.length : Nat) : Int) > 80), cond_false]
         exact goes_inr.mpr rfl)
    · rw [if_neg (fun h => g2 h.2)]
      have g2 := Bool.not_eq_true _ ▸ g2
      unfold p25
      cases n2 <;> simp only [cond_true, cond_false, g1, g2, decide_eq_true (⟨hp1, hp2⟩ : ap + np ≤ mp ∧ np ≤ 1000000), decide_eq_true (⟨hp3, hp4⟩ : aq + nq ≤ mq ∧ nq ≤ 1000000)] <;> exact goes_inr.mpr rfl
  · rw [if_neg (fun h => g1 h.1)]
    have g1 := Bool.not_eq_true _ ▸ g1
    unfold p25
    simp only [cond_true, cond_false, g1, decide_eq_true (⟨hp1, hp2⟩ : ap + np ≤ mp ∧ np ≤ 1000000)]
    exact goes_inr.mpr rfl
theorem k25_ok  : k25.ok Tryd.prog := by
  intro x hx
  obtain ⟨⟨n1, ⟨ap, np, mp, tp, _⟩, _⟩, ⟨n2, ⟨aq, nq, mq, tq, _⟩, _⟩, _⟩ := x
  obtain ⟨h1, h2⟩ := a25 n1 ap np mp tp n2 aq nq mq tq (s25 n1 ap np mp tp n2 aq nq mq tq (of_dec hx rfl))
  exact ⟨⟨400, (by decide : 2 + 1 + 1 ≤ 400), h1⟩, h2⟩
inductive St42 where
  | h0 (x0 : Int)
abbrev Rt42  := Bool
noncomputable def V42 (aa na ma : Nat) (ta : Nat → Int) (ab nb mb : Nat) (tb : Nat → Int) (r : Rt42) : PV := PV.bool r
noncomputable def N42 (aa na ma : Nat) (ta : Nat → Int) (ab nb mb : Nat) (tb : Nat → Int) (r : Rt42) : List Blk := []
noncomputable def I42 (aa na ma : Nat) (ta : Nat → Int) (ab nb mb : Nat) (tb : Nat → Int) : St42 → Hd
  | .h0 x0 => ⟨hd Tryd.f42 0, [PV.loose (PA.mk (0) (1) aa (0)) na,
 PV.loose (PA.mk (1) (1) ab (0)) nb, PV.int IntKind.i64 (↑na : Int),
 PV.int IntKind.i64 x0], [[], [(0, (false, .cols ma [.int .i64 ta])), (1, (false, .cols mb [.int .i64 tb]))]], 2⟩
noncomputable def q42 (aa na ma : Nat) (ta : Nat → Int) (ab nb mb : Nat) (tb : Nat → Int) : St42 → Option (St42 ⊕ Rt42)
  | .h0 x0 => bif (decide (x0 < (↑na : Int)))
 then (bif (decide ((0 : Int) ≤ x0 ∧ x0 < (↑na : Int)))
 then (bif (decide (Int.toNat x0 + aa < ma))
 then (bif (decide ((0 : Int) ≤ x0 ∧ x0 < (↑nb : Int)))
 then (bif (decide (Int.toNat x0 + ab < mb))
 then (bif (ta (Int.toNat x0 + aa) != tb (Int.toNat x0 + ab))
 then (some (.inr (false)))
 else (bif (lim IntKind.i64 (x0 + (1 : Int)))
 then (some (.inl (.h0 (x0 + (1 : Int)))))
 else (none)))
 else (none))
 else (none))
 else (none))
 else (none))
 else (some (.inr (true)))
noncomputable def p42 (aa na ma : Nat) (ta : Nat → Int) (ab nb mb : Nat) (tb : Nat → Int) : Option (St42 ⊕ Rt42) := bif ((↑na : Int) != (↑nb : Int))
 then (some (.inr (false)))
 else (some (.inl (.h0 ((0 : Int)))))
noncomputable def Te42 (test : Bool → Prop → Prop → Prop) (Kst : KS) (Kret : KR) (aa na ma : Nat) (ta : Nat → Int) (ab nb mb : Nat) (tb : Nat → Int) : Prop :=
  test ((↑na : Int) != (↑nb : Int))
 (Kret (PV.tf false) ([[(1, false, Blk.cols mb [Col.int IntKind.i64 tb]),
 (0, false, Blk.cols ma [Col.int IntKind.i64 ta])]]) (2))
 (Kst (hd Tryd.f42 0) ([PV.loose (PA.mk (0) (1) aa (0)) na,
 PV.loose (PA.mk (1) (1) ab (0)) nb, PV.int IntKind.i64 (↑na : Int),
 PV.int IntKind.i64 (0 : Int)]) ([[(1, false, Blk.cols mb [Col.int IntKind.i64 tb]),
 (0, false, Blk.cols ma [Col.int IntKind.i64 ta])]]) (2))
theorem te42 (test : Bool → Prop → Prop → Prop) (Kst : KS) (Kret : KR) (aa na ma : Nat) (ta : Nat → Int) (ab nb mb : Nat) (tb : Nat → Int) : run test Tryd.env true noX true 400 ⟨42, [.cd (mkFn Tryd.f42).body], argT 0 [.loose ⟨0, 1, aa, 0⟩ na, .loose ⟨1, 1, ab, 0⟩ nb], [[], [(0, (false, .cols ma [.int .i64 ta])), (1, (false, .cols mb [.int .i64 tb]))]], 2⟩ (proj 2 [0, 1, 12, 13] Kst Kret) =
  Te42 test Kst Kret aa na ma ta ab nb mb tb := by kernel_rfl
noncomputable def T42_0 (test : Bool → Prop → Prop → Prop) (Kst : KS) (Kret : KR) (aa na ma : Nat) (ta : Nat → Int) (ab nb mb : Nat) (tb : Nat → Int) (x0 : Int) : Prop :=
  test (decide (x0 < (↑na : Int)))
 (test (decide ((0 : Int) ≤ x0 ∧ x0 < (↑na : Int)))
 (test (decide (Int.toNat x0 + aa < ma))
 (test (decide ((0 : Int) ≤ x0 ∧ x0 < (↑nb : Int)))
 (test (decide (Int.toNat x0 + ab < mb))
 (test (ta (Int.toNat x0 + aa) != tb (Int.toNat x0 + ab))
 (Kret (PV.tf false) ([[(1, false, Blk.cols mb [Col.int IntKind.i64 tb]),
 (0, false, Blk.cols ma [Col.int IntKind.i64 ta])]]) (2))
 (test (lim IntKind.i64 (x0 + (1 : Int)))
 (Kst (hd Tryd.f42 0) ([PV.loose (PA.mk (0) (1) aa (0)) na,
 PV.loose (PA.mk (1) (1) ab (0)) nb, PV.int IntKind.i64 (↑na : Int),
 PV.int IntKind.i64 (x0 + (1 : Int))]) ([[(1, false, Blk.cols mb [Col.int IntKind.i64 tb]),
 (0, false, Blk.cols ma [Col.int IntKind.i64 ta])]]) (2))
 (False)))
 (False))
 (False))
 (False))
 (False))
 (Kret (PV.tf true) ([[(1, false, Blk.cols mb [Col.int IntKind.i64 tb]),
 (0, false, Blk.cols ma [Col.int IntKind.i64 ta])]]) (2))
theorem t42_0 (test : Bool → Prop → Prop → Prop) (Kst : KS) (Kret : KR) (aa na ma : Nat) (ta : Nat → Int) (ab nb mb : Nat) (tb : Nat → Int) (x0 : Int) : run test Tryd.env true noX true 400 ⟨42, hd Tryd.f42 0, zipT [0, 1, 12, 13] [PV.loose (PA.mk (0) (1) aa (0)) na,
 PV.loose (PA.mk (1) (1) ab (0)) nb, PV.int IntKind.i64 (↑na : Int),
 PV.int IntKind.i64 x0], [[], [(0, (false, .cols ma [.int .i64 ta])), (1, (false, .cols mb [.int .i64 tb]))]], 2⟩ (proj 2 [0, 1, 12, 13] Kst Kret) =
  T42_0 test Kst Kret aa na ma ta ab nb mb tb x0 := by kernel_rfl
attribute [local irreducible] Int.subNatNat in
theorem be42 (aa na ma : Nat) (ta : Nat → Int) (ab nb mb : Nat) (tb : Nat → Int) (Kst : KS) (Kret : KR) (x : St42 ⊕ Rt42) (hS : HS 2 400 ((I42 aa na ma ta ab nb mb tb)) Kst x) (hR : HR 2 400 ((V42 aa na ma ta ab nb mb tb)) (fun r => [newL (2 + 1) ((N42 aa na ma ta ab nb mb tb) r) ++ [(0, (false, .cols ma [.int .i64 ta])), (1, (false, .cols mb [.int .i64 tb]))]]) Kret x) (h : p42 aa na ma ta ab nb mb tb = some x) : Te42 cond Kst Kret aa na ma ta ab nb mb tb := by
  unfold Te42
  unfold p42 at h
  refine bif_split h
   (fun c0 h => ret_at hR _ h (fun n => n) rfl rfl rfl (rn_bool_tf rfl) rfl (entl_bor (use_lo rfl) rfl rfl (entl_bor (use_lo rfl) rfl rfl entl_nil)))
   (fun c0 h => stop_at hS _ h (fun n => n) rfl rfl rfl ⟨(rn_loose (use_lo rfl) rfl rfl rfl), ⟨(rn_loose (use_lo rfl) rfl rfl rfl), ⟨(rn_int rfl), ⟨(rn_int rfl), trivial⟩⟩⟩⟩ rfl (entl_bor (use_lo rfl) rfl rfl (entl_bor (use_lo rfl) rfl rfl entl_nil)))
attribute [local irreducible] Int.subNatNat in
theorem b42_0 (aa na ma : Nat) (ta : Nat → Int) (ab nb mb : Nat) (tb : Nat → Int) (Kst : KS) (Kret : KR) (x : St42 ⊕ Rt42) (hS : HS 2 400 ((I42 aa na ma ta ab nb mb tb)) Kst x) (hR : HR 2 400 ((V42 aa na ma ta ab nb mb tb)) (fun r => [newL (2 + 1) ((N42 aa na ma ta ab nb mb tb) r) ++ [(0, (false, .cols ma [.int .i64 ta])), (1, (false, .cols mb [.int .i64 tb]))]]) Kret x) (x0 : Int) (h : (bif (decide (x0 < (↑na : Int)))
 then (bif (decide ((0 : Int) ≤ x0 ∧ x0 < (↑na : Int)))
 then (bif (decide (Int.toNat x0 + aa < ma))
 then (bif (decide ((0 : Int) ≤ x0 ∧ x0 < (↑nb : Int)))
 then (bif (decide (Int.toNat x0 + ab < mb))
 then (bif (ta (Int.toNat x0 + aa) != tb (Int.toNat x0 + ab))
 then (some (.inr (false)))
 else (bif (lim IntKind.i64 (x0 + (1 : Int)))
 then (some (.inl (.h0 (x0 + (1 : Int)))))
 else (none)))
 else (none))
 else (none))
 else (none))
 else (none))
 else (some (.inr (true))) : Option (St42 ⊕ Rt42)) = some x) : T42_0 cond Kst Kret aa na ma ta ab nb mb tb x0 := by
  unfold T42_0
  exact bif_split h
   (fun c0 h => bif_split h
   (fun c1 h => bif_split h
   (fun c2 h => bif_split h
   (fun c3 h => bif_split h
   (fun c4 h => bif_split h
   (fun c5 h => ret_at hR _ h (fun n => n) rfl rfl rfl (rn_bool_tf rfl) rfl (entl_bor (use_lo rfl) rfl rfl (entl_bor (use_lo rfl) rfl rfl entl_nil)))
   (fun c5 h => bif_split h
   (fun c6 h => stop_at hS _ h (fun n => n) rfl rfl rfl ⟨(rn_loose (use_lo rfl) rfl rfl rfl), ⟨(rn_loose (use_lo rfl) rfl rfl rfl), ⟨(rn_int rfl), ⟨(rn_int rfl), trivial⟩⟩⟩⟩ rfl (entl_bor (use_lo rfl) rfl rfl (entl_bor (use_lo rfl) rfl rfl entl_nil)))
   (fun c6 h => no_some h)))
   (fun c4 h => no_some h))
   (fun c3 h => no_some h))
   (fun c2 h => no_some h))
   (fun c1 h => no_some h))
   (fun c0 h => ret_at hR _ h (fun n => n) rfl rfl rfl (rn_bool_tf rfl) rfl (entl_bor (use_lo rfl) rfl rfl (entl_bor (use_lo rfl) rfl rfl entl_nil)))
theorem a42 (aa na ma : Nat) (ta : Nat → Int) (ab nb mb : Nat) (tb : Nat → Int) {r : Rt42} (h : Goes ((q42 aa na ma ta ab nb mb tb)) ((p42 aa na ma ta ab nb mb tb)) r) : CallR Tryd.prog 42 [.loose ⟨0, 1, aa, 0⟩ na, .loose ⟨1, 1, ab, 0⟩ nb] [[(0, (false, .cols ma [.int .i64 ta])), (1, (false, .cols mb [.int .i64 tb]))]] 2 ((V42 aa na ma ta ab nb mb tb) r) ((fun r => [newL (2 + 1) ((N42 aa na ma ta ab nb mb tb) r) ++ [(0, (false, .cols ma [.int .i64 ta])), (1, (false, .cols mb [.int .i64 tb]))]]) r) 400 ∧ ∃ F, Tryd.prog.funcs[42]? = some F ∧ F.body.isSome = true ∧ (F.name == "runtime.NumGoroutine") = false := by
  refine dec_calls (f := 42) (lo := 2) (hi := 400) (H := [[(0, (false, .cols ma [.int .i64 ta])), (1, (false, .cols mb [.int .i64 tb]))]]) (args := [.loose ⟨0, 1, aa, 0⟩ na, .loose ⟨1, 1, ab, 0⟩ nb]) Tryd.envOk Tryd.mixed noX_ok ((I42 aa na ma ta ab nb mb tb)) ((V42 aa na ma ta ab nb mb tb)) (fun r => [newL (2 + 1) ((N42 aa na ma ta ab nb mb tb) r) ++ [(0, (false, .cols ma [.int .i64 ta])), (1, (false, .cols mb [.int .i64 tb]))]]) (fn := mkFn Tryd.f42) (ts := [0, 1, 12, 13]) (n := 400) rfl (by decide) (by simp) (names_of rfl) ?_ ?_ ?_ h
  · intro s; cases s <;> exact ⟨hd_ok _ _, by simp [I42], names_of rfl, Nat.le_of_ble_eq_true rfl⟩
  · intro Kst Kret x hS hR h
    exact Holds.eq (te42 cond Kst Kret aa na ma ta ab nb mb tb) (be42 aa na ma ta ab nb mb tb Kst Kret x hS hR h)
  · intro Kst Kret x hS hR s h
    cases s with
    | h0 x0 => exact Holds.eq (t42_0 cond Kst Kret aa na ma ta ab nb mb tb x0) (b42_0 aa na ma ta ab nb mb tb Kst Kret x hS hR x0 h)
noncomputable def k42  : Con := ⟨42, [.one (.list [.int .i64]), .one (.list [.int .i64])], fun (x : (Nat × Nat × Nat × (Nat → Int) × Unit) × (Nat × Nat × Nat × (Nat → Int) × Unit) × Unit) => (fun (aa na ma : Nat) (ta : Nat → Int) (ab nb mb : Nat) (tb : Nat → Int) => decide (aa + na ≤ ma ∧ na ≤ 1000000 ∧ ab + nb ≤ mb ∧ nb ≤ 1000000)) x.1.1 x.1.2.1 x.1.2.2.1 x.1.2.2.2.1 x.2.1.1 x.2.1.2.1 x.2.1.2.2.1 x.2.1.2.2.2.1, fun (x : (Nat × Nat × Nat × (Nat → Int) × Unit) × (Nat × Nat × Nat × (Nat → Int) × Unit) × Unit) => (fun (aa na ma : Nat) (ta : Nat → Int) (ab nb mb : Nat) (tb : Nat → Int) => (V42 aa na ma ta ab nb mb tb) (decide ((S.mkl na fun j => ta (j + aa)) = (S.mkl nb fun j => tb (j + ab))))) x.1.1 x.1.2.1 x.1.2.2.1 x.1.2.2.2.1 x.2.1.1 x.2.1.2.1 x.2.1.2.2.1 x.2.1.2.2.2.1, fun (x : (Nat × Nat × Nat × (Nat → Int) × Unit) × (Nat × Nat × Nat × (Nat → Int) × Unit) × Unit) => (fun (aa na ma : Nat) (ta : Nat → Int) (ab nb mb : Nat) (tb : Nat → Int) => (N42 aa na ma ta ab nb mb tb) (decide ((S.mkl na fun j => ta (j + aa)) = (S.mkl nb fun j => tb (j + ab))))) x.1.1 x.1.2.1 x.1.2.2.1 x.1.2.2.2.1 x.2.1.1 x.2.1.2.1 x.2.1.2.2.1 x.2.1.2.2.2.1, fun _ _ => .dead⟩
theorem e42 (aa na ma : Nat) (ta : Nat → Int) (ab nb mb : Nat) (tb : Nat → Int) (h : na = nb) : decide ((S.mkl na fun j => ta (j + aa)) = (S.mkl nb fun j => tb (j + ab))) = true ↔ ∀ j, j < na → ta (j + aa) = tb (j + ab) := by
  rw [decide_eq_true_eq, mkl_inj]
  simp only [h, true_and, Prod.mk.injEq]
theorem s42' (aa na ma : Nat) (ta : Nat → Int) (ab nb mb : Nat) (tb : Nat → Int) (hp : aa + na ≤ ma ∧ na ≤ 1000000 ∧ ab + nb ≤ mb ∧ nb ≤ 1000000) (he : na = nb) : ∀ k i : Nat, i + k = na → (∀ j, j < i → ta (j + aa) = tb (j + ab)) → Comes (q42 aa na ma ta ab nb mb tb) (.h0 (i : Int)) (decide ((S.mkl na fun j => ta (j + aa)) = (S.mkl nb fun j => tb (j + ab)))) := by
  obtain ⟨hp1, hp2, hp3, hp4⟩ := hp
  have hq := e42 aa na ma ta ab nb mb tb he
  generalize decide ((S.mkl na fun j => ta (j + aa)) = (S.mkl nb fun j => tb (j + ab))) = R at hq ⊢
  intro k
  induction k with
  | zero =>
    intro i hi hj
    obtain rfl : na = i := by omega
    apply Comes.of
    show Goes _ _ _
    (first | rw [q42] | unfold q42)
    repeat' first
      | with_reducible refine goes_if (fun h => ?_) (fun h => ?_) <;> (try simp only [SH] at h)
      | exact goes_none.mpr (by omega)
    all_goals first | (exfalso; omega) | (exact goes_inr.mpr (hq.mpr hj).symm)
  | succ k ih =>
    intro i hi hj
    have hw : ∀ {P : Prop}, (R = true → P) → ¬ P → false = R := fun h1 h2 => by cases R; rfl; exact absurd (h1 rfl) h2
    apply Comes.of
    show Goes _ _ _
    (first | rw [q42] | unfold q42)
    repeat' first
      | with_reducible refine goes_if (fun h => ?_) (fun h => ?_) <;> (try simp only [SH] at h)
      | exact goes_none.mpr (by omega)
    all_goals first
      | (exfalso; omega)
      | (refine ih (i + 1) (by omega) fun j hlt => ?_
         rcases Nat.lt_or_eq_of_le (Nat.le_of_lt_succ hlt) with h1 | h1
         · exact hj j h1
         · subst h1; simp_all)
      | (refine goes_inr.mpr (hw (fun e => hq.mp e i (by omega)) fun e => ?_); simp_all)
theorem s42 (aa na ma : Nat) (ta : Nat → Int) (ab nb mb : Nat) (tb : Nat → Int) (hp : aa + na ≤ ma ∧ na ≤ 1000000 ∧ ab + nb ≤ mb ∧ nb ≤ 1000000) : Goes ((q42 aa na ma ta ab nb mb tb)) ((p42 aa na ma ta ab nb mb tb)) (decide ((S.mkl na fun j => ta (j + aa)) = (S.mkl nb fun j => tb (j + ab)))) := by
  by_cases he : na = nb
  · have hm := s42' aa na ma ta ab nb mb tb hp he na 0 (by omega) (fun j hj => absurd hj (Nat.not_lt_zero j))
    show Goes _ _ _
    unfold p42
    repeat' first
      | with_reducible refine goes_if (fun h => ?_) (fun h => ?_) <;> (try simp only [SH] at h)
      | exact goes_none.mpr (by omega)
    all_goals first | (exfalso; omega) | exact hm
  · have hd : decide ((S.mkl na fun j => ta (j + aa)) = (S.mkl nb fun j => tb (j + ab))) = false := decide_eq_false (fun e => he (mkl_inj.mp e).1)
    rw [hd]
    show Goes _ _ _
    unfold p42
    repeat' first
      | with_reducible refine goes_if (fun h => ?_) (fun h => ?_) <;> (try simp only [SH] at h)
      | exact goes_none.mpr (by omega)
    all_goals first | (exfalso; omega) | rfl
theorem k42_ok  : k42.ok Tryd.prog := by
  intro x hx
  obtain ⟨⟨aa, na, ma, ta, _⟩, ⟨ab, nb, mb, tb, _⟩, _⟩ := x
  obtain ⟨h1, h2⟩ := a42 aa na ma ta ab nb mb tb (s42 aa na ma ta ab nb mb tb (of_dec hx rfl))
  exact ⟨⟨400, (by decide : 2 + 1 + 0 ≤ 400), h1⟩, h2⟩
noncomputable def xE0 (test : Bool → Prop → Prop → Prop) : Ext := consX test [k42]
theorem xE0_ok  : ExtOk Tryd.prog (xE0 cond) := consX_ok ⟨k42_ok, trivial⟩
namespace S
def samI (n1 : Bool) (n : Nat) (t : Nat → Int) (n2 : Bool) (m : Nat) (u : Nat → Int) : Bool := decide (n1 = n2 ∧ mkl n t = mkl m u)
end S
abbrev St20  := Empty
abbrev Rt20  := Bool
noncomputable def V20 (n1 : Bool) (ap np mp : Nat) (tp : Nat → Int) (n2 : Bool) (aq nq mq : Nat) (tq : Nat → Int) (r : Rt20) : PV := PV.bool r
noncomputable def N20 (n1 : Bool) (ap np mp : Nat) (tp : Nat → Int) (n2 : Bool) (aq nq mq : Nat) (tq : Nat → Int) (r : Rt20) : List Blk := []
noncomputable def I20 (n1 : Bool) (ap np mp : Nat) (tp : Nat → Int) (n2 : Bool) (aq nq mq : Nat) (tq : Nat → Int) : St20 → Hd := fun s => s.elim
noncomputable def q20 (n1 : Bool) (ap np mp : Nat) (tp : Nat → Int) (n2 : Bool) (aq nq mq : Nat) (tq : Nat → Int) : St20 → Option (St20 ⊕ Rt20) := fun s => s.elim
noncomputable def p20 (n1 : Bool) (ap np mp : Nat) (tp : Nat → Int) (n2 : Bool) (aq nq mq : Nat) (tq : Nat → Int) : Option (St20 ⊕ Rt20) := bif (n1)
 then (bif (n2)
 then (bif (decide (ap + np ≤ mp ∧ np ≤ 1000000 ∧ aq + nq ≤ mq ∧ nq ≤ 1000000))
 then (bif (decide ((S.mkl np fun j => tp (j + ap)) = S.mkl nq fun j => tq (j + aq)))
 then (some (.inr (true)))
 else (some (.inr (false))))
 else (none))
 else (some (.inr (false))))
 else (bif (n2)
 then (some (.inr (false)))
 else (bif (decide (ap + np ≤ mp ∧ np ≤ 1000000 ∧ aq + nq ≤ mq ∧ nq ≤ 1000000))
 then (bif (decide ((S.mkl np fun j => tp (j + ap)) = S.mkl nq fun j => tq (j + aq)))
 then (some (.inr (true)))
 else (some (.inr (false))))
 else (none)))
noncomputable def Te20 (test : Bool → Prop → Prop → Prop) (Kst : KS) (Kret : KR) (n1 : Bool) (ap np mp : Nat) (tp : Nat → Int) (n2 : Bool) (aq nq mq : Nat) (tq : Nat → Int) : Prop :=
  test (n1)
 (test (n2)
 (test (decide (ap + np ≤ mp ∧ np ≤ 1000000 ∧ aq + nq ≤ mq ∧ nq ≤ 1000000))
 (test (decide ((S.mkl np fun j => tp (j + ap)) = S.mkl nq fun j => tq (j + aq)))
 (Kret (PV.tf true) ([[(1, false, Blk.cols mq [Col.int IntKind.i64 tq]),
 (0, false, Blk.cols mp [Col.int IntKind.i64 tp])]]) (5))
 (Kret (PV.tf false) ([[(1, false, Blk.cols mq [Col.int IntKind.i64 tq]),
 (0, false, Blk.cols mp [Col.int IntKind.i64 tp])]]) (5)))
 (False))
 (Kret (PV.tf false) ([[(1, false, Blk.cols mq [Col.int IntKind.i64 tq]),
 (0, false, Blk.cols mp [Col.int IntKind.i64 tp])]]) (4)))
 (test (n2)
 (Kret (PV.tf false) ([[(1, false, Blk.cols mq [Col.int IntKind.i64 tq]),
 (0, false, Blk.cols mp [Col.int IntKind.i64 tp])]]) (4))
 (test (decide (ap + np ≤ mp ∧ np ≤ 1000000 ∧ aq + nq ≤ mq ∧ nq ≤ 1000000))
 (test (decide ((S.mkl np fun j => tp (j + ap)) = S.mkl nq fun j => tq (j + aq)))
 (Kret (PV.tf true) ([[(1, false, Blk.cols mq [Col.int IntKind.i64 tq]),
 (0, false, Blk.cols mp [Col.int IntKind.i64 tp])]]) (5))
 (Kret (PV.tf false) ([[(1, false, Blk.cols mq [Col.int IntKind.i64 tq]),
 (0, false, Blk.cols mp [Col.int IntKind.i64 tp])]]) (5)))
 (False)))
theorem te20 (test : Bool → Prop → Prop → Prop) (Kst : KS) (Kret : KR) (n1 : Bool) (ap np mp : Nat) (tp : Nat → Int) (n2 : Bool) (aq nq mq : Nat) (tq : Nat → Int) : run test Tryd.env true (xE0 test) true 400 ⟨20, [.cd (mkFn Tryd.f20).body], argT 0 [.agg [.bool n1, .loose ⟨0, 1, ap, 0⟩ np], .agg [.bool n2, .loose ⟨1, 1, aq, 0⟩ nq]], [[], [(0, (false, .cols mp [.int .i64 tp])), (1, (false, .cols mq [.int .i64 tq]))]], 2⟩ (proj 2 [] Kst Kret) =
  Te20 test Kst Kret n1 ap np mp tp n2 aq nq mq tq := by kernel_rfl
attribute [local irreducible] Int.subNatNat in
theorem be20 (n1 : Bool) (ap np mp : Nat) (tp : Nat → Int) (n2 : Bool) (aq nq mq : Nat) (tq : Nat → Int) (Kst : KS) (Kret : KR) (x : St20 ⊕ Rt20) (hS : HS 2 400 ((I20 n1 ap np mp tp n2 aq nq mq tq)) Kst x) (hR : HR 2 400 ((V20 n1 ap np mp tp n2 aq nq mq tq)) (fun r => [newL (2 + 1) ((N20 n1 ap np mp tp n2 aq nq mq tq) r) ++ [(0, (false, .cols mp [.int .i64 tp])), (1, (false, .cols mq [.int .i64 tq]))]]) Kret x) (h : p20 n1 ap np mp tp n2 aq nq mq tq = some x) : Te20 cond Kst Kret n1 ap np mp tp n2 aq nq mq tq := by
  unfold Te20
  unfold p20 at h
  refine bif_split h
   (fun c0 h => bif_split h
   (fun c1 h => bif_split h
   (fun c2 h => bif_split h
   (fun c3 h => ?_)
   (fun c3 h => ?_))
   (fun c2 h => ?_))
   (fun c1 h => ?_))
   (fun c0 h => bif_split h
   (fun c1 h => ?_)
   (fun c1 h => bif_split h
   (fun c2 h => bif_split h
   (fun c3 h => ?_)
   (fun c3 h => ?_))
   (fun c2 h => ?_)))
  all_goals first
    | exact ret_at hR _ h (fun n => n) rfl rfl rfl (rn_bool_tf rfl) rfl (entl_bor (use_lo rfl) rfl rfl (entl_bor (use_lo rfl) rfl rfl entl_nil))
    | exact no_some h
theorem a20 (n1 : Bool) (ap np mp : Nat) (tp : Nat → Int) (n2 : Bool) (aq nq mq : Nat) (tq : Nat → Int) {r : Rt20} (h : Goes ((q20 n1 ap np mp tp n2 aq nq mq tq)) ((p20 n1 ap np mp tp n2 aq nq mq tq)) r) : CallR Tryd.prog 20 [.agg [.bool n1, .loose ⟨0, 1, ap, 0⟩ np], .agg [.bool n2, .loose ⟨1, 1, aq, 0⟩ nq]] [[(0, (false, .cols mp [.int .i64 tp])), (1, (false, .cols mq [.int .i64 tq]))]] 2 ((V20 n1 ap np mp tp n2 aq nq mq tq) r) ((fun r => [newL (2 + 1) ((N20 n1 ap np mp tp n2 aq nq mq tq) r) ++ [(0, (false, .cols mp [.int .i64 tp])), (1, (false, .cols mq [.int .i64 tq]))]]) r) 400 ∧ ∃ F, Tryd.prog.funcs[20]? = some F ∧ F.body.isSome = true ∧ (F.name == "runtime.NumGoroutine") = false := by
  refine dec_calls (f := 20) (lo := 2) (hi := 400) (H := [[(0, (false, .cols mp [.int .i64 tp])), (1, (false, .cols mq [.int .i64 tq]))]]) (args := [.agg [.bool n1, .loose ⟨0, 1, ap, 0⟩ np], .agg [.bool n2, .loose ⟨1, 1, aq, 0⟩ nq]]) Tryd.envOk Tryd.mixed xE0_ok ((I20 n1 ap np mp tp n2 aq nq mq tq)) ((V20 n1 ap np mp tp n2 aq nq mq tq)) (fun r => [newL (2 + 1) ((N20 n1 ap np mp tp n2 aq nq mq tq) r) ++ [(0, (false, .cols mp [.int .i64 tp])), (1, (false, .cols mq [.int .i64 tq]))]]) (fn := mkFn Tryd.f20) (ts := []) (n := 400) rfl (by decide) (by simp) (names_of rfl) ?_ ?_ ?_ h
  · intro s; exact s.elim
  · intro Kst Kret x hS hR h
    exact Holds.eq (te20 cond Kst Kret n1 ap np mp tp n2 aq nq mq tq) (be20 n1 ap np mp tp n2 aq nq mq tq Kst Kret x hS hR h)
  · intro Kst Kret x hS hR s h; exact s.elim
noncomputable def k20  : Con := ⟨20, [.agg [.plain (.bool), .list [.int .i64]], .agg [.plain (.bool), .list [.int .i64]]], fun (x : (Bool × (Nat × Nat × Nat × (Nat → Int) × Unit) × Unit) × (Bool × (Nat × Nat × Nat × (Nat → Int) × Unit) × Unit) × Unit) => (fun (n1 : Bool) (ap np mp : Nat) (tp : Nat → Int) (n2 : Bool) (aq nq mq : Nat) (tq : Nat → Int) => decide ((ap + np ≤ mp ∧ np ≤ 1000000) ∧ aq + nq ≤ mq ∧ nq ≤ 1000000)) x.1.1 x.1.2.1.1 x.1.2.1.2.1 x.1.2.1.2.2.1 x.1.2.1.2.2.2.1 x.2.1.1 x.2.1.2.1.1 x.2.1.2.1.2.1 x.2.1.2.1.2.2.1 x.2.1.2.1.2.2.2.1, fun (x : (Bool × (Nat × Nat × Nat × (Nat → Int) × Unit) × Unit) × (Bool × (Nat × Nat × Nat × (Nat → Int) × Unit) × Unit) × Unit) => (fun (n1 : Bool) (ap np mp : Nat) (tp : Nat → Int) (n2 : Bool) (aq nq mq : Nat) (tq : Nat → Int) => (V20 n1 ap np mp tp n2 aq nq mq tq) (S.samI n1 np (fun j => tp (j + ap)) n2 nq (fun j => tq (j + aq)))) x.1.1 x.1.2.1.1 x.1.2.1.2.1 x.1.2.1.2.2.1 x.1.2.1.2.2.2.1 x.2.1.1 x.2.1.2.1.1 x.2.1.2.1.2.1 x.2.1.2.1.2.2.1 x.2.1.2.1.2.2.2.1, fun (x : (Bool × (Nat × Nat × Nat × (Nat → Int) × Unit) × Unit) × (Bool × (Nat × Nat × Nat × (Nat → Int) × Unit) × Unit) × Unit) => (fun (n1 : Bool) (ap np mp : Nat) (tp : Nat → Int) (n2 : Bool) (aq nq mq : Nat) (tq : Nat → Int) => (N20 n1 ap np mp tp n2 aq nq mq tq) (S.samI n1 np (fun j => tp (j + ap)) n2 nq (fun j => tq (j + aq)))) x.1.1 x.1.2.1.1 x.1.2.1.2.1 x.1.2.1.2.2.1 x.1.2.1.2.2.2.1 x.2.1.1 x.2.1.2.1.1 x.2.1.2.1.2.1 x.2.1.2.1.2.2.1 x.2.1.2.1.2.2.2.1, fun _ _ => .dead⟩
theorem s20 (n1 : Bool) (ap np mp : Nat) (tp : Nat → Int) (n2 : Bool) (aq nq mq : Nat) (tq : Nat → Int) (hp : (ap + np ≤ mp ∧ np ≤ 1000000) ∧ aq + nq ≤ mq ∧ nq ≤ 1000000) : Goes ((q20 n1 ap np mp tp n2 aq nq mq tq)) ((p20 n1 ap np mp tp n2 aq nq mq tq)) (S.samI n1 np (fun j => tp (j + ap)) n2 nq (fun j => tq (j + aq))) := by
  unfold S.samI
  by_cases h : S.mkl np (fun j => tp (j + ap)) = S.mkl nq (fun j => tq (j + aq))
  · have e : decide (n1 = n2 ∧ S.mkl np (fun j => tp (j + ap)) = S.mkl nq (fun j => tq (j + aq))) = (n1 == n2) := by
      rw [Bool.eq_iff_iff, decide_eq_true_eq, beq_iff_eq]
      exact ⟨fun x => x.1, fun x => ⟨x, h⟩⟩
    rw [e]
    unfold p20
    rw [decide_eq_true h]
    cases n1 <;> cases n2 <;>
    repeat' first
      | with_reducible exact goes_inr.mpr rfl
      | (refine goes_ok ?_ ?_; focus (first | with_reducible exact beq_self_eq_true _ | (simp only [Bool.and_eq_true, decide_eq_true_eq, and_self, eq_self]; done) | with_reducible exact decide_eq_true trivial | with_reducible exact decide_eq_true rfl | (simp only [eq_self, decide_true, Bool.and_self, Bool.and_true, Bool.true_and]; done) | (apply decide_eq_true; omega) | (rw [lim64]; apply decide_eq_true; omega) | (apply decide_eq_true; simp only [mkl_len, mkl_zero, List.length_nil, true_and, and_true, and_self, Nat.zero_add, Nat.add_zero, Nat.le_refl]; done) | (apply decide_eq_true; simp only [mkl_len, mkl_zero, List.length_nil, true_and, and_true, and_self, Nat.zero_add, Nat.add_zero, Nat.le_refl]; omega) | decide))
      | (refine goes_no ?_ ?_; focus (first | with_reducible exact bne_self_eq_false _ | (apply decide_eq_false; omega) | decide))

  · have e : decide (n1 = n2 ∧ S.mkl np (fun j => tp (j + ap)) = S.mkl nq (fun j => tq (j + aq))) = false := decide_eq_false fun x => h x.2
    rw [e]
    unfold p20
    rw [decide_eq_false h]
    cases n1 <;> cases n2 <;>
    repeat' first
      | with_reducible exact goes_inr.mpr rfl
      | (refine goes_ok ?_ ?_; focus (first | with_reducible exact beq_self_eq_true _ | (simp only [Bool.and_eq_true, decide_eq_true_eq, and_self, eq_self]; done) | with_reducible exact decide_eq_true trivial | with_reducible exact decide_eq_true rfl | (simp only [eq_self, decide_true, Bool.and_self, Bool.and_true, Bool.true_and]; done) | (apply decide_eq_true; omega) | (rw [lim64]; apply decide_eq_true; omega) | (apply decide_eq_true; simp only [mkl_len, mkl_zero, List.length_nil, true_and, and_true, and_self, Nat.zero_add, Nat.add_zero, Nat.le_refl]; done) | (apply decide_eq_true; simp only [mkl_len, mkl_zero, List.length_nil, true_and, and_true, and_self, Nat.zero_add, Nat.add_zero, Nat.le_refl]; omega) | decide))
      | (refine goes_no ?_ ?_; focus (first | with_reducible exact bne_self_eq_false _ | (apply decide_eq_false; omega) | decide))
theorem k20_ok  : k20.ok Tryd.prog := by
  intro x hx
  obtain ⟨⟨n1, ⟨ap, np, mp, tp, _⟩, _⟩, ⟨n2, ⟨aq, nq, mq, tq, _⟩, _⟩, _⟩ := x
  obtain ⟨h1, h2⟩ := a20 n1 ap np mp tp n2 aq nq mq tq (s20 n1 ap np mp tp n2 aq nq mq tq (of_dec hx rfl))
  exact ⟨⟨400, (by decide : 2 + 1 + 0 ≤ 400), h1⟩, h2⟩
noncomputable def xE2 (test : Bool → Prop → Prop → Prop) : Ext := consX test [k45]
theorem xE2_ok  : ExtOk Tryd.prog (xE2 cond) := consX_ok ⟨k45_ok, trivial⟩
abbrev St16  := Empty
abbrev Rt16  := Bool × List Int
noncomputable def V16 (n1 : Bool) (ap np mp : Nat) (tp : Nat → Int) (r : Rt16) : PV := PV.agg [PV.bool r.1, PV.own (2) (1) (List.length r.2)]
noncomputable def N16 (n1 : Bool) (ap np mp : Nat) (tp : Nat → Int) (r : Rt16) : List Blk := [Blk.cols (List.length r.2) [Col.int IntKind.i64 fun j => S.at' r.2 j]]
noncomputable def I16 (n1 : Bool) (ap np mp : Nat) (tp : Nat → Int) : St16 → Hd := fun s => s.elim
noncomputable def q16 (n1 : Bool) (ap np mp : Nat) (tp : Nat → Int) : St16 → Option (St16 ⊕ Rt16) := fun s => s.elim
noncomputable def p16 (n1 : Bool) (ap np mp : Nat) (tp : Nat → Int) : Option (St16 ⊕ Rt16) := bif (n1)
 then (bif (decide (ap + np ≤ mp ∧ np ≤ 1000000))
 then (some (.inr (true, S.mkl np fun j => tp (j + ap))))
 else (none))
 else (bif (decide (ap + np ≤ mp ∧ np ≤ 1000000))
 then (some (.inr (false, S.mkl np fun j => tp (j + ap))))
 else (none))
noncomputable def Te16 (test : Bool → Prop → Prop → Prop) (Kst : KS) (Kret : KR) (n1 : Bool) (ap np mp : Nat) (tp : Nat → Int) : Prop :=
  test (n1)
 (test (decide (ap + np ≤ mp ∧ np ≤ 1000000))
 (Kret (PV.agg [PV.tf true, PV.own (4) (1) np]) ([[(0, false, Blk.cols mp [Col.int IntKind.i64 tp]),
 (4, true, Blk.cols np [Col.int IntKind.i64 fun j => tp (j + ap)])]]) (5))
 (False))
 (test (decide (ap + np ≤ mp ∧ np ≤ 1000000))
 (Kret (PV.agg [PV.tf false, PV.own (4) (1) np]) ([[(0, false, Blk.cols mp [Col.int IntKind.i64 tp]),
 (4, true, Blk.cols np [Col.int IntKind.i64 fun j => tp (j + ap)])]]) (5))
 (False))
theorem te16 (test : Bool → Prop → Prop → Prop) (Kst : KS) (Kret : KR) (n1 : Bool) (ap np mp : Nat) (tp : Nat → Int) : run test Tryd.env true (xE2 test) true 400 ⟨16, [.cd (mkFn Tryd.f16).body], argT 0 [.agg [.bool n1, .loose ⟨0, 1, ap, 0⟩ np]], [[], [(0, (false, .cols mp [.int .i64 tp]))]], 1⟩ (proj 1 [] Kst Kret) =
  Te16 test Kst Kret n1 ap np mp tp := by kernel_rfl
attribute [local irreducible] Int.subNatNat in
theorem be16 (n1 : Bool) (ap np mp : Nat) (tp : Nat → Int) (Kst : KS) (Kret : KR) (x : St16 ⊕ Rt16) (hS : HS 1 400 ((I16 n1 ap np mp tp)) Kst x) (hR : HR 1 400 ((V16 n1 ap np mp tp)) (fun r => [newL (1 + 1) ((N16 n1 ap np mp tp) r) ++ [(0, (false, .cols mp [.int .i64 tp]))]]) Kret x) (h : p16 n1 ap np mp tp = some x) : Te16 cond Kst Kret n1 ap np mp tp := by
  unfold Te16
  unfold p16 at h
  refine bif_split h
   (fun c0 h => bif_split h
   (fun c1 h => ?_)
   (fun c1 h => ?_))
   (fun c0 h => bif_split h
   (fun c1 h => ?_)
   (fun c1 h => ?_))
  all_goals first
    | exact ret_at hR _ h (fun n => bif Nat.beq n 2 then 4 else n) rfl rfl rfl (rn_agg ⟨(rn_bool_tf rfl), (rn_own (use_own rfl) rfl mkl_len), trivial⟩) rfl (entl_new (use_own rfl) rfl (Nat.le_of_eq mkl_len) (rcs_int (fun _ hj => col_mkl (fun (t : Int) => t) hj) rcs_nil) (entl_bor (use_lo rfl) rfl rfl entl_nil))
    | exact no_some h
theorem a16 (n1 : Bool) (ap np mp : Nat) (tp : Nat → Int) {r : Rt16} (h : Goes ((q16 n1 ap np mp tp)) ((p16 n1 ap np mp tp)) r) : CallR Tryd.prog 16 [.agg [.bool n1, .loose ⟨0, 1, ap, 0⟩ np]] [[(0, (false, .cols mp [.int .i64 tp]))]] 1 ((V16 n1 ap np mp tp) r) ((fun r => [newL (1 + 1) ((N16 n1 ap np mp tp) r) ++ [(0, (false, .cols mp [.int .i64 tp]))]]) r) 400 ∧ ∃ F, Tryd.prog.funcs[16]? = some F ∧ F.body.isSome = true ∧ (F.name == "runtime.NumGoroutine") = false := by
  refine dec_calls (f := 16) (lo := 1) (hi := 400) (H := [[(0, (false, .cols mp [.int .i64 tp]))]]) (args := [.agg [.bool n1, .loose ⟨0, 1, ap, 0⟩ np]]) Tryd.envOk Tryd.mixed xE2_ok ((I16 n1 ap np mp tp)) ((V16 n1 ap np mp tp)) (fun r => [newL (1 + 1) ((N16 n1 ap np mp tp) r) ++ [(0, (false, .cols mp [.int .i64 tp]))]]) (fn := mkFn Tryd.f16) (ts := []) (n := 400) rfl (by decide) (by simp) (names_of rfl) ?_ ?_ ?_ h
  · intro s; exact s.elim
  · intro Kst Kret x hS hR h
    exact Holds.eq (te16 cond Kst Kret n1 ap np mp tp) (be16 n1 ap np mp tp Kst Kret x hS hR h)
  · intro Kst Kret x hS hR s h; exact s.elim
noncomputable def k16  : Con := ⟨16, [.agg [.plain (.bool), .list [.int .i64]]], fun (x : (Bool × (Nat × Nat × Nat × (Nat → Int) × Unit) × Unit) × Unit) => (fun (n1 : Bool) (ap np mp : Nat) (tp : Nat → Int) => decide (ap + np ≤ mp ∧ np ≤ 1000000)) x.1.1 x.1.2.1.1 x.1.2.1.2.1 x.1.2.1.2.2.1 x.1.2.1.2.2.2.1, fun (x : (Bool × (Nat × Nat × Nat × (Nat → Int) × Unit) × Unit) × Unit) => (fun (n1 : Bool) (ap np mp : Nat) (tp : Nat → Int) => (V16 n1 ap np mp tp) (n1, S.mkl np (fun j => tp (j + ap)))) x.1.1 x.1.2.1.1 x.1.2.1.2.1 x.1.2.1.2.2.1 x.1.2.1.2.2.2.1, fun (x : (Bool × (Nat × Nat × Nat × (Nat → Int) × Unit) × Unit) × Unit) => (fun (n1 : Bool) (ap np mp : Nat) (tp : Nat → Int) => (N16 n1 ap np mp tp) (n1, S.mkl np (fun j => tp (j + ap)))) x.1.1 x.1.2.1.1 x.1.2.1.2.1 x.1.2.1.2.2.1 x.1.2.1.2.2.2.1, fun _ _ => .dead⟩
theorem s16 (n1 : Bool) (ap np mp : Nat) (tp : Nat → Int) (hp : ap + np ≤ mp ∧ np ≤ 1000000) : Goes ((q16 n1 ap np mp tp)) ((p16 n1 ap np mp tp)) ((n1, S.mkl np (fun j => tp (j + ap)))) := by
  unfold p16
  have h2 : 0 + np ≤ np ∧ np ≤ 1000000 := ⟨by omega, hp.2⟩
  cases n1 <;>
    repeat' first
      | with_reducible exact goes_inr.mpr rfl
      | (refine goes_ok ?_ ?_; focus (first | with_reducible exact beq_self_eq_true _ | (simp only [Bool.and_eq_true, decide_eq_true_eq, and_self, eq_self]; done) | with_reducible exact decide_eq_true trivial | with_reducible exact decide_eq_true rfl | (simp only [eq_self, decide_true, Bool.and_self, Bool.and_true, Bool.true_and]; done) | (apply decide_eq_true; omega) | (rw [lim64]; apply decide_eq_true; omega) | (apply decide_eq_true; simp only [mkl_len, mkl_zero, List.length_nil, true_and, and_true, and_self, Nat.zero_add, Nat.add_zero, Nat.le_refl]; done) | (apply decide_eq_true; simp only [mkl_len, mkl_zero, List.length_nil, true_and, and_true, and_self, Nat.zero_add, Nat.add_zero, Nat.le_refl]; omega) | decide))
      | (refine goes_no ?_ ?_; focus (first | with_reducible exact bne_self_eq_false _ | (apply decide_eq_false; omega) | decide))
theorem k16_ok  : k16.ok Tryd.prog := by
  intro x hx
  obtain ⟨⟨n1, ⟨ap, np, mp, tp, _⟩, _⟩, _⟩ := x
  obtain ⟨h1, h2⟩ := a16 n1 ap np mp tp (s16 n1 ap np mp tp (of_dec hx rfl))
  exact ⟨⟨400, (by decide : 1 + 1 + 1 ≤ 400), h1⟩, h2⟩
noncomputable def k12  : Con := ⟨12, [], fun _ => true, fun _ => .bool true, fun _ => [], fun _ _ => .dead⟩
theorem te12 (Kst : KS) (Kret : KR) : run cond Tryd.env true noX false 4000 ⟨12, [.cd (mkFn Tryd.f12).body], [], [[], []], 0⟩ (proj 0 [] Kst Kret) = Kret (.tf true) [[]] 483 := by kernel_rfl
theorem k12_ok  : k12.ok Tryd.prog := awake_ok (fn := mkFn Tryd.f12) (hi := 484) (n := 4000) Tryd.envOk Tryd.mixed noX_ok rfl (by decide) (by decide : Nat.ble 483 484 = true) te12
noncomputable def xE (test : Bool → Prop → Prop → Prop) : Ext := consX test [k12, k22, k23, k24, k25, k45, k20, k18, k19, k16]
theorem xE_ok  : ExtOk Tryd.prog (xE cond) := consX_ok ⟨k12_ok, k22_ok, k23_ok, k24_ok, k25_ok, k45_ok, k20_ok, k18_ok, k19_ok, k16_ok, trivial⟩
theorem okI_congr  {ng : Bool} {n : Nat} {t u : Nat → Int} (h : ∀ j, j < n → t j = u j) : S.okI ng n t = S.okI ng n u := by
  unfold S.okI S.okG
  rw [all_congr (q := fun j => S.digB (u j)) fun j hj => by rw [h j hj]]
  cases n with
  | zero => rfl
  | succ n => rw [h (n + 1 - 1) (by omega)]
section
variable {n1 n2 : Bool} {n m : Nat} {t u : Nat → Int}
theorem addS_mk  : S.addS n1 n (fun j => S.at' (S.mkl n t) j) n2 m (fun j => S.at' (S.mkl m u) j) = S.addS n1 n t n2 m u := by
  unfold S.addS
  rw [okI_congr (u := t) fun j hj => at_mkl hj, okI_congr (u := u) fun j hj => at_mkl hj, val_congr (u := t) fun j hj => at_mkl hj, val_congr (u := u) fun j hj => at_mkl hj]
theorem subI_mk  : S.subI n1 n (fun j => S.at' (S.mkl n t) j) n2 m (fun j => S.at' (S.mkl m u) j) = S.subI n1 n t n2 m u := by
  unfold S.subI
  rw [okI_congr (u := t) fun j hj => at_mkl hj, okI_congr (u := u) fun j hj => at_mkl hj, val_congr (u := t) fun j hj => at_mkl hj, val_congr (u := u) fun j hj => at_mkl hj]
theorem samI_self  {L : List Int} {c : Bool} : S.samI c L.length (fun j => S.at' L j) c L.length (fun j => S.at' L j) = true := decide_eq_true ⟨rfl, rfl⟩
theorem fit_len (v : Int) : (S.fitI v).2.2.length ≤ 80 := by
  unfold S.fitI
  split
  · exact Nat.zero_le _
  · show (S.grp _).length ≤ 80; omega
theorem addS_len  : (S.addS n1 n t n2 m u).2.2.length ≤ 80 := by
  unfold S.addS
  split
  · exact fit_len _
  · exact Nat.zero_le _
theorem subI_len  : (S.subI n1 n t n2 m u).2.2.length ≤ 80 := by
  unfold S.subI
  split
  · exact fit_len _
  · exact Nat.zero_le _
theorem fit_ok  {v : Int} (h : (S.fitI v).2.1 = 0) : S.okI (S.fitI v).1 (S.fitI v).2.2.length (fun j => S.at' (S.fitI v).2.2 j) = true ∧ S.sv (S.fitI v).1 (S.val (S.fitI v).2.2.length (fun j => S.at' (S.fitI v).2.2 j)) = v := by
  unfold S.fitI at *
  split at h
  · cases h
  · rename_i hl
    rw [if_neg hl]
    dsimp only
    constructor
    · rw [okI_iff]
      refine ⟨by omega, grp_ok, ?_⟩
      by_cases hv : v < 0
      · left; exact len_pos (by omega)
      · right; exact decide_eq_false hv
    · rw [val_grpL (by omega)]
      unfold S.sv
      by_cases hv : v < 0
      · rw [decide_eq_true hv, cond_true]; omega
      · rw [decide_eq_false hv, cond_false]; omega
theorem fit_sv  {ng : Bool} (h : S.okI ng n t = true) : S.fitI (S.sv ng (S.val n t)) = (ng, 0, S.mkl n t) := by
  obtain ⟨h1, h2, h3⟩ := okI_iff.mp h
  have hv := val_nn (okG_D h2)
  rw [fit_of, big_of hv, ← ok_grp h2, mkl_len, if_neg (by omega)]
  rcases h3 with h3 | h3
  · rw [decide_eq_true (val_pos h2 h3), Bool.and_true]
  · rw [h3, Bool.false_and]
theorem sub_add (h : (S.addS n1 n t n2 m u).2.1 = 0) : S.subI (S.addS n1 n t n2 m u).1 (S.addS n1 n t n2 m u).2.2.length (fun j => S.at' (S.addS n1 n t n2 m u).2.2 j) n2 m u = (n1, 0, S.mkl n t) := by
  unfold S.addS at *
  by_cases hk : S.okI n1 n t = true ∧ S.okI n2 m u = true
  · rw [if_pos hk] at *
    obtain ⟨h1, h2⟩ := fit_ok h
    unfold S.subI
    rw [if_pos ⟨h1, hk.2⟩, h2, show S.sv n1 (S.val n t) + S.sv n2 (S.val m u) - S.sv n2 (S.val m u) = S.sv n1 (S.val n t) by omega]
    exact fit_sv hk.1
  · rw [if_neg hk] at h
    cases h
end
abbrev St4  := Empty
abbrev Rt4  := Bool
noncomputable def V4 (n1 : Bool) (ap np mp : Nat) (tp : Nat → Int) (n2 : Bool) (aq nq mq : Nat) (tq : Nat → Int) (r : Rt4) : PV := PV.bool r
noncomputable def N4 (n1 : Bool) (ap np mp : Nat) (tp : Nat → Int) (n2 : Bool) (aq nq mq : Nat) (tq : Nat → Int) (r : Rt4) : List Blk := []
noncomputable def I4 (n1 : Bool) (ap np mp : Nat) (tp : Nat → Int) (n2 : Bool) (aq nq mq : Nat) (tq : Nat → Int) : St4 → Hd := fun s => s.elim
noncomputable def q4 (n1 : Bool) (ap np mp : Nat) (tp : Nat → Int) (n2 : Bool) (aq nq mq : Nat) (tq : Nat → Int) : St4 → Option (St4 ⊕ Rt4) := fun s => s.elim
noncomputable def p4 (n1 : Bool) (ap np mp : Nat) (tp : Nat → Int) (n2 : Bool) (aq nq mq : Nat) (tq : Nat → Int) : Option (St4 ⊕ Rt4) := bif (lim IntKind.i64 ((0 : Int) + (↑np : Int)))
 then (bif (lim IntKind.i64 ((0 : Int) + (↑np : Int) + (↑nq : Int)))
 then (bif (decide ((0 : Int) + (↑np : Int) + (↑nq : Int) ≤ (170 : Int)))
 then (bif (decide (ap + np ≤ mp ∧ np ≤ 1000000))
 then (bif (decide (aq + nq ≤ mq ∧ nq ≤ 1000000))
 then (bif (decide
 ((0 + List.length (S.mkl np fun j => tp (j + ap)) ≤
 List.length (S.mkl np fun j => tp (j + ap)) ∧
 List.length (S.mkl np fun j => tp (j + ap)) ≤ 1000000) ∧
 0 + List.length (S.mkl nq fun j => tq (j + aq)) ≤
 List.length (S.mkl nq fun j => tq (j + aq)) ∧
 List.length (S.mkl nq fun j => tq (j + aq)) ≤ 1000000))
 then (bif (decide ((ap + np ≤ mp ∧ np ≤ 1000000) ∧ aq + nq ≤ mq ∧ nq ≤ 1000000))
 then (bif (Prod.fst
 (Prod.snd
 (S.addS n1 (List.length (S.mkl np fun j => tp (j + ap)))
 (fun j => S.at' (S.mkl np fun j => tp (j + ap)) j) n2
 (List.length (S.mkl nq fun j => tq (j + aq))) fun j =>
 S.at' (S.mkl nq fun j => tq (j + aq)) j)) !=
 (S.addS n1 np (fun j => tp (j + ap)) n2 nq fun j => tq (j + aq)).2.1)
 then (bif (Prod.fst
 (Prod.snd
 (S.addS n1 (List.length (S.mkl np fun j => tp (j + ap)))
 (fun j => S.at' (S.mkl np fun j => tp (j + ap)) j) n2
 (List.length (S.mkl nq fun j => tq (j + aq))) fun j =>
 S.at' (S.mkl nq fun j => tq (j + aq)) j)) ==
 (S.addS n1 np (fun j => tp (j + ap)) n2 nq fun j => tq (j + aq)).2.1)
 then (bif (decide
 ((0 +
 List.length
 (Prod.snd
 (Prod.snd
 (S.addS n1 (List.length (S.mkl np fun j => tp (j + ap)))
 (fun j => S.at' (S.mkl np fun j => tp (j + ap)) j) n2
 (List.length (S.mkl nq fun j => tq (j + aq))) fun j =>
 S.at' (S.mkl nq fun j => tq (j + aq)) j))) ≤
 List.length
 (Prod.snd
 (Prod.snd
 (S.addS n1 (List.length (S.mkl np fun j => tp (j + ap)))
 (fun j => S.at' (S.mkl np fun j => tp (j + ap)) j) n2
 (List.length (S.mkl nq fun j => tq (j + aq))) fun j =>
 S.at' (S.mkl nq fun j => tq (j + aq)) j))) ∧
 List.length
 (Prod.snd
 (Prod.snd
 (S.addS n1 (List.length (S.mkl np fun j => tp (j + ap)))
 (fun j => S.at' (S.mkl np fun j => tp (j + ap)) j) n2
 (List.length (S.mkl nq fun j => tq (j + aq))) fun j =>
 S.at' (S.mkl nq fun j => tq (j + aq)) j))) ≤
 1000000) ∧
 0 +
 List.length
 (Prod.snd
 ((S.addS n1 np (fun j => tp (j + ap)) n2 nq fun j => tq (j + aq)).2)) ≤
 List.length
 ((S.addS n1 np (fun j => tp (j + ap)) n2 nq fun j => tq (j + aq)).2.2) ∧
 List.length
 ((S.addS n1 np (fun j => tp (j + ap)) n2 nq fun j => tq (j + aq)).2.2) ≤
 1000000))
 then (bif (S.samI
 (Prod.fst
 (S.addS n1 (List.length (S.mkl np fun j => tp (j + ap)))
 (fun j => S.at' (S.mkl np fun j => tp (j + ap)) j) n2
 (List.length (S.mkl nq fun j => tq (j + aq))) fun j =>
 S.at' (S.mkl nq fun j => tq (j + aq)) j))
 (List.length
 (Prod.snd
 (Prod.snd
 (S.addS n1 (List.length (S.mkl np fun j => tp (j + ap)))
 (fun j => S.at' (S.mkl np fun j => tp (j + ap)) j) n2
 (List.length (S.mkl nq fun j => tq (j + aq))) fun j =>
 S.at' (S.mkl nq fun j => tq (j + aq)) j))))
 (fun j =>
 S.at'
 (Prod.snd
 (Prod.snd
 (S.addS n1 (List.length (S.mkl np fun j => tp (j + ap)))
 (fun j => S.at' (S.mkl np fun j => tp (j + ap)) j) n2
 (List.length (S.mkl nq fun j => tq (j + aq))) fun j =>
 S.at' (S.mkl nq fun j => tq (j + aq)) j)))
 j)
 ((S.addS n1 np (fun j => tp (j + ap)) n2 nq fun j => tq (j + aq)).1)
 (List.length
 ((S.addS n1 np (fun j => tp (j + ap)) n2 nq fun j => tq (j + aq)).2.2))
 fun j =>
 S.at'
 ((S.addS n1 np (fun j => tp (j + ap)) n2 nq fun j => tq (j + aq)).2.2) j)
 then (bif (Prod.fst
 (Prod.snd
 (S.subI n1 (List.length (S.mkl np fun j => tp (j + ap)))
 (fun j => S.at' (S.mkl np fun j => tp (j + ap)) j) n2
 (List.length (S.mkl nq fun j => tq (j + aq))) fun j =>
 S.at' (S.mkl nq fun j => tq (j + aq)) j)) ==
 (S.subI n1 np (fun j => tp (j + ap)) n2 nq fun j => tq (j + aq)).2.1)
 then (bif (decide
 ((0 +
 List.length
 (Prod.snd
 (Prod.snd
 (S.subI n1 (List.length (S.mkl np fun j => tp (j + ap)))
 (fun j => S.at' (S.mkl np fun j => tp (j + ap)) j) n2
 (List.length (S.mkl nq fun j => tq (j + aq))) fun j =>
 S.at' (S.mkl nq fun j => tq (j + aq)) j))) ≤
 List.length
 (Prod.snd
 (Prod.snd
 (S.subI n1 (List.length (S.mkl np fun j => tp (j + ap)))
 (fun j => S.at' (S.mkl np fun j => tp (j + ap)) j) n2
 (List.length (S.mkl nq fun j => tq (j + aq))) fun j =>
 S.at' (S.mkl nq fun j => tq (j + aq)) j))) ∧
 List.length
 (Prod.snd
 (Prod.snd
 (S.subI n1 (List.length (S.mkl np fun j => tp (j + ap)))
 (fun j => S.at' (S.mkl np fun j => tp (j + ap)) j) n2
 (List.length (S.mkl nq fun j => tq (j + aq))) fun j =>
 S.at' (S.mkl nq fun j => tq (j + aq)) j))) ≤
 1000000) ∧
 0 +
 List.length
 (Prod.snd
 ((S.subI n1 np (fun j => tp (j + ap)) n2 nq fun j => tq (j + aq)).2)) ≤
 List.length
 ((S.subI n1 np (fun j => tp (j + ap)) n2 nq fun j => tq (j + aq)).2.2) ∧
 List.length
 ((S.subI n1 np (fun j => tp (j + ap)) n2 nq fun j => tq (j + aq)).2.2) ≤
 1000000))
 then (bif (S.samI
 (Prod.fst
 (S.subI n1 (List.length (S.mkl np fun j => tp (j + ap)))
 (fun j => S.at' (S.mkl np fun j => tp (j + ap)) j) n2
 (List.length (S.mkl nq fun j => tq (j + aq))) fun j =>
 S.at' (S.mkl nq fun j => tq (j + aq)) j))
 (List.length
 (Prod.snd
 (Prod.snd
 (S.subI n1 (List.length (S.mkl np fun j => tp (j + ap)))
 (fun j => S.at' (S.mkl np fun j => tp (j + ap)) j) n2
 (List.length (S.mkl nq fun j => tq (j + aq))) fun j =>
 S.at' (S.mkl nq fun j => tq (j + aq)) j))))
 (fun j =>
 S.at'
 (Prod.snd
 (Prod.snd
 (S.subI n1 (List.length (S.mkl np fun j => tp (j + ap)))
 (fun j => S.at' (S.mkl np fun j => tp (j + ap)) j) n2
 (List.length (S.mkl nq fun j => tq (j + aq))) fun j =>
 S.at' (S.mkl nq fun j => tq (j + aq)) j)))
 j)
 ((S.subI n1 np (fun j => tp (j + ap)) n2 nq fun j => tq (j + aq)).1)
 (List.length
 ((S.subI n1 np (fun j => tp (j + ap)) n2 nq fun j => tq (j + aq)).2.2))
 fun j =>
 S.at'
 ((S.subI n1 np (fun j => tp (j + ap)) n2 nq fun j => tq (j + aq)).2.2) j)
 then (some (.inr (true)))
 else (some (.inr (false))))
 else (none))
 else (some (.inr (false))))
 else (some (.inr (false))))
 else (none))
 else (some (.inr (false))))
 else (bif (decide
 ((0 +
 List.length
 (Prod.snd
 (Prod.snd
 (S.addS n1 (List.length (S.mkl np fun j => tp (j + ap)))
 (fun j => S.at' (S.mkl np fun j => tp (j + ap)) j) n2
 (List.length (S.mkl nq fun j => tq (j + aq))) fun j =>
 S.at' (S.mkl nq fun j => tq (j + aq)) j))) ≤
 List.length
 (Prod.snd
 (Prod.snd
 (S.addS n1 (List.length (S.mkl np fun j => tp (j + ap)))
 (fun j => S.at' (S.mkl np fun j => tp (j + ap)) j) n2
 (List.length (S.mkl nq fun j => tq (j + aq))) fun j =>
 S.at' (S.mkl nq fun j => tq (j + aq)) j))) ∧
 List.length
 (Prod.snd
 (Prod.snd
 (S.addS n1 (List.length (S.mkl np fun j => tp (j + ap)))
 (fun j => S.at' (S.mkl np fun j => tp (j + ap)) j) n2
 (List.length (S.mkl nq fun j => tq (j + aq))) fun j =>
 S.at' (S.mkl nq fun j => tq (j + aq)) j))) ≤
 1000000) ∧
 0 +
 List.length
 (Prod.snd
 ((S.addS n1 np (fun j => tp (j + ap)) n2 nq fun j => tq (j + aq)).2)) ≤
 List.length
 ((S.addS n1 np (fun j => tp (j + ap)) n2 nq fun j => tq (j + aq)).2.2) ∧
 List.length
 ((S.addS n1 np (fun j => tp (j + ap)) n2 nq fun j => tq (j + aq)).2.2) ≤
 1000000))
 then (bif (S.samI
 (Prod.fst
 (S.addS n1 (List.length (S.mkl np fun j => tp (j + ap)))
 (fun j => S.at' (S.mkl np fun j => tp (j + ap)) j) n2
 (List.length (S.mkl nq fun j => tq (j + aq))) fun j =>
 S.at' (S.mkl nq fun j => tq (j + aq)) j))
 (List.length
 (Prod.snd
 (Prod.snd
 (S.addS n1 (List.length (S.mkl np fun j => tp (j + ap)))
 (fun j => S.at' (S.mkl np fun j => tp (j + ap)) j) n2
 (List.length (S.mkl nq fun j => tq (j + aq))) fun j =>
 S.at' (S.mkl nq fun j => tq (j + aq)) j))))
 (fun j =>
 S.at'
 (Prod.snd
 (Prod.snd
 (S.addS n1 (List.length (S.mkl np fun j => tp (j + ap)))
 (fun j => S.at' (S.mkl np fun j => tp (j + ap)) j) n2
 (List.length (S.mkl nq fun j => tq (j + aq))) fun j =>
 S.at' (S.mkl nq fun j => tq (j + aq)) j)))
 j)
 ((S.addS n1 np (fun j => tp (j + ap)) n2 nq fun j => tq (j + aq)).1)
 (List.length
 ((S.addS n1 np (fun j => tp (j + ap)) n2 nq fun j => tq (j + aq)).2.2))
 fun j =>
 S.at'
 ((S.addS n1 np (fun j => tp (j + ap)) n2 nq fun j => tq (j + aq)).2.2) j)
 then (bif (Prod.fst
 (Prod.snd
 (S.subI n1 (List.length (S.mkl np fun j => tp (j + ap)))
 (fun j => S.at' (S.mkl np fun j => tp (j + ap)) j) n2
 (List.length (S.mkl nq fun j => tq (j + aq))) fun j =>
 S.at' (S.mkl nq fun j => tq (j + aq)) j)) !=
 (S.subI n1 np (fun j => tp (j + ap)) n2 nq fun j => tq (j + aq)).2.1)
 then (bif (Prod.fst
 (Prod.snd
 (S.addS n1 (List.length (S.mkl np fun j => tp (j + ap)))
 (fun j => S.at' (S.mkl np fun j => tp (j + ap)) j) n2
 (List.length (S.mkl nq fun j => tq (j + aq))) fun j =>
 S.at' (S.mkl nq fun j => tq (j + aq)) j)) ==
 (S.addS n1 np (fun j => tp (j + ap)) n2 nq fun j => tq (j + aq)).2.1)
 then (bif (Prod.fst
 (Prod.snd
 (S.subI n1 (List.length (S.mkl np fun j => tp (j + ap)))
 (fun j => S.at' (S.mkl np fun j => tp (j + ap)) j) n2
 (List.length (S.mkl nq fun j => tq (j + aq))) fun j =>
 S.at' (S.mkl nq fun j => tq (j + aq)) j)) ==
 (S.subI n1 np (fun j => tp (j + ap)) n2 nq fun j => tq (j + aq)).2.1)
 then (bif (decide
 ((0 +
 List.length
 (Prod.snd
 (Prod.snd
 (S.subI n1 (List.length (S.mkl np fun j => tp (j + ap)))
 (fun j => S.at' (S.mkl np fun j => tp (j + ap)) j) n2
 (List.length (S.mkl nq fun j => tq (j + aq))) fun j =>
 S.at' (S.mkl nq fun j => tq (j + aq)) j))) ≤
 List.length
 (Prod.snd
 (Prod.snd
 (S.subI n1 (List.length (S.mkl np fun j => tp (j + ap)))
 (fun j => S.at' (S.mkl np fun j => tp (j + ap)) j) n2
 (List.length (S.mkl nq fun j => tq (j + aq))) fun j =>
 S.at' (S.mkl nq fun j => tq (j + aq)) j))) ∧
 List.length
 (Prod.snd
 (Prod.snd
 (S.subI n1 (List.length (S.mkl np fun j => tp (j + ap)))
 (fun j => S.at' (S.mkl np fun j => tp (j + ap)) j) n2
 (List.length (S.mkl nq fun j => tq (j + aq))) fun j =>
 S.at' (S.mkl nq fun j => tq (j + aq)) j))) ≤
 1000000) ∧
 0 +
 List.length
 (Prod.snd
 ((S.subI n1 np (fun j => tp (j + ap)) n2 nq fun j => tq (j + aq)).2)) ≤
 List.length
 ((S.subI n1 np (fun j => tp (j + ap)) n2 nq fun j => tq (j + aq)).2.2) ∧
 List.length
 ((S.subI n1 np (fun j => tp (j + ap)) n2 nq fun j => tq (j + aq)).2.2) ≤
 1000000))
 then (bif (S.samI
 (Prod.fst
 (S.subI n1 (List.length (S.mkl np fun j => tp (j + ap)))
 (fun j => S.at' (S.mkl np fun j => tp (j + ap)) j) n2
 (List.length (S.mkl nq fun j => tq (j + aq))) fun j =>
 S.at' (S.mkl nq fun j => tq (j + aq)) j))
 (List.length
 (Prod.snd
 (Prod.snd
 (S.subI n1 (List.length (S.mkl np fun j => tp (j + ap)))
 (fun j => S.at' (S.mkl np fun j => tp (j + ap)) j) n2
 (List.length (S.mkl nq fun j => tq (j + aq))) fun j =>
 S.at' (S.mkl nq fun j => tq (j + aq)) j))))
 (fun j =>
 S.at'
 (Prod.snd
 (Prod.snd
 (S.subI n1 (List.length (S.mkl np fun j => tp (j + ap)))
 (fun j => S.at' (S.mkl np fun j => tp (j + ap)) j) n2
 (List.length (S.mkl nq fun j => tq (j + aq))) fun j =>
 S.at' (S.mkl nq fun j => tq (j + aq)) j)))
 j)
 ((S.subI n1 np (fun j => tp (j + ap)) n2 nq fun j => tq (j + aq)).1)
 (List.length
 ((S.subI n1 np (fun j => tp (j + ap)) n2 nq fun j => tq (j + aq)).2.2))
 fun j =>
 S.at'
 ((S.subI n1 np (fun j => tp (j + ap)) n2 nq fun j => tq (j + aq)).2.2) j)
 then (some (.inr (true)))
 else (some (.inr (false))))
 else (none))
 else (some (.inr (false))))
 else (some (.inr (false))))
 else (bif (decide
 ((0 +
 List.length
 (Prod.snd
 (Prod.snd
 (S.subI n1 (List.length (S.mkl np fun j => tp (j + ap)))
 (fun j => S.at' (S.mkl np fun j => tp (j + ap)) j) n2
 (List.length (S.mkl nq fun j => tq (j + aq))) fun j =>
 S.at' (S.mkl nq fun j => tq (j + aq)) j))) ≤
 List.length
 (Prod.snd
 (Prod.snd
 (S.subI n1 (List.length (S.mkl np fun j => tp (j + ap)))
 (fun j => S.at' (S.mkl np fun j => tp (j + ap)) j) n2
 (List.length (S.mkl nq fun j => tq (j + aq))) fun j =>
 S.at' (S.mkl nq fun j => tq (j + aq)) j))) ∧
 List.length
 (Prod.snd
 (Prod.snd
 (S.subI n1 (List.length (S.mkl np fun j => tp (j + ap)))
 (fun j => S.at' (S.mkl np fun j => tp (j + ap)) j) n2
 (List.length (S.mkl nq fun j => tq (j + aq))) fun j =>
 S.at' (S.mkl nq fun j => tq (j + aq)) j))) ≤
 1000000) ∧
 0 +
 List.length
 (Prod.snd
 ((S.subI n1 np (fun j => tp (j + ap)) n2 nq fun j => tq (j + aq)).2)) ≤
 List.length
 ((S.subI n1 np (fun j => tp (j + ap)) n2 nq fun j => tq (j + aq)).2.2) ∧
 List.length
 ((S.subI n1 np (fun j => tp (j + ap)) n2 nq fun j => tq (j + aq)).2.2) ≤
 1000000))
 then (bif (S.samI
 (Prod.fst
 (S.subI n1 (List.length (S.mkl np fun j => tp (j + ap)))
 (fun j => S.at' (S.mkl np fun j => tp (j + ap)) j) n2
 (List.length (S.mkl nq fun j => tq (j + aq))) fun j =>
 S.at' (S.mkl nq fun j => tq (j + aq)) j))
 (List.length
 (Prod.snd
 (Prod.snd
 (S.subI n1 (List.length (S.mkl np fun j => tp (j + ap)))
 (fun j => S.at' (S.mkl np fun j => tp (j + ap)) j) n2
 (List.length (S.mkl nq fun j => tq (j + aq))) fun j =>
 S.at' (S.mkl nq fun j => tq (j + aq)) j))))
 (fun j =>
 S.at'
 (Prod.snd
 (Prod.snd
 (S.subI n1 (List.length (S.mkl np fun j => tp (j + ap)))
 (fun j => S.at' (S.mkl np fun j => tp (j + ap)) j) n2
 (List.length (S.mkl nq fun j => tq (j + aq))) fun j =>
 S.at' (S.mkl nq fun j => tq (j + aq)) j)))
 j)
 ((S.subI n1 np (fun j => tp (j + ap)) n2 nq fun j => tq (j + aq)).1)
 (List.length
 ((S.subI n1 np (fun j => tp (j + ap)) n2 nq fun j => tq (j + aq)).2.2))
 fun j =>
 S.at'
 ((S.subI n1 np (fun j => tp (j + ap)) n2 nq fun j => tq (j + aq)).2.2) j)
 then (bif (Prod.fst
 (Prod.snd
 (S.addS n1 (List.length (S.mkl np fun j => tp (j + ap)))
 (fun j => S.at' (S.mkl np fun j => tp (j + ap)) j) n2
 (List.length (S.mkl nq fun j => tq (j + aq))) fun j =>
 S.at' (S.mkl nq fun j => tq (j + aq)) j)) !=
 (0 : Int))
 then (bif (Prod.fst
 (Prod.snd
 (S.addS n1 (List.length (S.mkl np fun j => tp (j + ap)))
 (fun j => S.at' (S.mkl np fun j => tp (j + ap)) j) n2
 (List.length (S.mkl nq fun j => tq (j + aq))) fun j =>
 S.at' (S.mkl nq fun j => tq (j + aq)) j)) ==
 (S.addS n1 np (fun j => tp (j + ap)) n2 nq fun j => tq (j + aq)).2.1)
 then (bif (Prod.fst
 (Prod.snd
 (S.subI n1 (List.length (S.mkl np fun j => tp (j + ap)))
 (fun j => S.at' (S.mkl np fun j => tp (j + ap)) j) n2
 (List.length (S.mkl nq fun j => tq (j + aq))) fun j =>
 S.at' (S.mkl nq fun j => tq (j + aq)) j)) ==
 (S.subI n1 np (fun j => tp (j + ap)) n2 nq fun j => tq (j + aq)).2.1)
 then (some (.inr (true)))
 else (some (.inr (false))))
 else (some (.inr (false))))
 else (bif (decide
 ((0 +
 List.length
 (Prod.snd
 (Prod.snd
 (S.addS n1 (List.length (S.mkl np fun j => tp (j + ap)))
 (fun j => S.at' (S.mkl np fun j => tp (j + ap)) j) n2
 (List.length (S.mkl nq fun j => tq (j + aq))) fun j =>
 S.at' (S.mkl nq fun j => tq (j + aq)) j))) ≤
 List.length
 (Prod.snd
 (Prod.snd
 (S.addS n1 (List.length (S.mkl np fun j => tp (j + ap)))
 (fun j => S.at' (S.mkl np fun j => tp (j + ap)) j) n2
 (List.length (S.mkl nq fun j => tq (j + aq))) fun j =>
 S.at' (S.mkl nq fun j => tq (j + aq)) j))) ∧
 List.length
 (Prod.snd
 (Prod.snd
 (S.addS n1 (List.length (S.mkl np fun j => tp (j + ap)))
 (fun j => S.at' (S.mkl np fun j => tp (j + ap)) j) n2
 (List.length (S.mkl nq fun j => tq (j + aq))) fun j =>
 S.at' (S.mkl nq fun j => tq (j + aq)) j))) ≤
 1000000) ∧
 aq + nq ≤ mq ∧ nq ≤ 1000000))
 then (bif (Prod.fst
 (Prod.snd
 (S.subI
 (Prod.fst
 (S.addS n1 (List.length (S.mkl np fun j => tp (j + ap)))
 (fun j => S.at' (S.mkl np fun j => tp (j + ap)) j) n2
 (List.length (S.mkl nq fun j => tq (j + aq))) fun j =>
 S.at' (S.mkl nq fun j => tq (j + aq)) j))
 (List.length
 (Prod.snd
 (Prod.snd
 (S.addS n1 (List.length (S.mkl np fun j => tp (j + ap)))
 (fun j => S.at' (S.mkl np fun j => tp (j + ap)) j) n2
 (List.length (S.mkl nq fun j => tq (j + aq))) fun j =>
 S.at' (S.mkl nq fun j => tq (j + aq)) j))))
 (fun j =>
 S.at'
 (Prod.snd
 (Prod.snd
 (S.addS n1 (List.length (S.mkl np fun j => tp (j + ap)))
 (fun j => S.at' (S.mkl np fun j => tp (j + ap)) j) n2
 (List.length (S.mkl nq fun j => tq (j + aq))) fun j =>
 S.at' (S.mkl nq fun j => tq (j + aq)) j)))
 j)
 n2 nq fun j => tq (j + aq))) ==
 (0 : Int))
 then (bif (decide
 ((0 +
 List.length
 (Prod.snd
 (Prod.snd
 (S.subI
 (Prod.fst
 (S.addS n1 (List.length (S.mkl np fun j => tp (j + ap)))
 (fun j => S.at' (S.mkl np fun j => tp (j + ap)) j) n2
 (List.length (S.mkl nq fun j => tq (j + aq))) fun j =>
 S.at' (S.mkl nq fun j => tq (j + aq)) j))
 (List.length
 (Prod.snd
 (Prod.snd
 (S.addS n1 (List.length (S.mkl np fun j => tp (j + ap)))
 (fun j => S.at' (S.mkl np fun j => tp (j + ap)) j) n2
 (List.length (S.mkl nq fun j => tq (j + aq))) fun j =>
 S.at' (S.mkl nq fun j => tq (j + aq)) j))))
 (fun j =>
 S.at'
 (Prod.snd
 (Prod.snd
 (S.addS n1 (List.length (S.mkl np fun j => tp (j + ap)))
 (fun j => S.at' (S.mkl np fun j => tp (j + ap)) j) n2
 (List.length (S.mkl nq fun j => tq (j + aq))) fun j =>
 S.at' (S.mkl nq fun j => tq (j + aq)) j)))
 j)
 n2 nq fun j => tq (j + aq)))) ≤
 List.length
 (Prod.snd
 (Prod.snd
 (S.subI
 (Prod.fst
 (S.addS n1 (List.length (S.mkl np fun j => tp (j + ap)))
 (fun j => S.at' (S.mkl np fun j => tp (j + ap)) j) n2
 (List.length (S.mkl nq fun j => tq (j + aq))) fun j =>
 S.at' (S.mkl nq fun j => tq (j + aq)) j))
 (List.length
 (Prod.snd
 (Prod.snd
 (S.addS n1 (List.length (S.mkl np fun j => tp (j + ap)))
 (fun j => S.at' (S.mkl np fun j => tp (j + ap)) j) n2
 (List.length (S.mkl nq fun j => tq (j + aq))) fun j =>
 S.at' (S.mkl nq fun j => tq (j + aq)) j))))
 (fun j =>
 S.at'
 (Prod.snd
 (Prod.snd
 (S.addS n1 (List.length (S.mkl np fun j => tp (j + ap)))
 (fun j => S.at' (S.mkl np fun j => tp (j + ap)) j) n2
 (List.length (S.mkl nq fun j => tq (j + aq))) fun j =>
 S.at' (S.mkl nq fun j => tq (j + aq)) j)))
 j)
 n2 nq fun j => tq (j + aq)))) ∧
 List.length
 (Prod.snd
 (Prod.snd
 (S.subI
 (Prod.fst
 (S.addS n1 (List.length (S.mkl np fun j => tp (j + ap)))
 (fun j => S.at' (S.mkl np fun j => tp (j + ap)) j) n2
 (List.length (S.mkl nq fun j => tq (j + aq))) fun j =>
 S.at' (S.mkl nq fun j => tq (j + aq)) j))
 (List.length
 (Prod.snd
 (Prod.snd
 (S.addS n1 (List.length (S.mkl np fun j => tp (j + ap)))
 (fun j => S.at' (S.mkl np fun j => tp (j + ap)) j) n2
 (List.length (S.mkl nq fun j => tq (j + aq))) fun j =>
 S.at' (S.mkl nq fun j => tq (j + aq)) j))))
 (fun j =>
 S.at'
 (Prod.snd
 (Prod.snd
 (S.addS n1 (List.length (S.mkl np fun j => tp (j + ap)))
 (fun j => S.at' (S.mkl np fun j => tp (j + ap)) j) n2
 (List.length (S.mkl nq fun j => tq (j + aq))) fun j =>
 S.at' (S.mkl nq fun j => tq (j + aq)) j)))
 j)
 n2 nq fun j => tq (j + aq)))) ≤
 1000000) ∧
 ap + np ≤ mp ∧ np ≤ 1000000))
 then (bif (S.samI
 (Prod.fst
 (S.subI
 (Prod.fst
 (S.addS n1 (List.length (S.mkl np fun j => tp (j + ap)))
 (fun j => S.at' (S.mkl np fun j => tp (j + ap)) j) n2
 (List.length (S.mkl nq fun j => tq (j + aq))) fun j =>
 S.at' (S.mkl nq fun j => tq (j + aq)) j))
 (List.length
 (Prod.snd
 (Prod.snd
 (S.addS n1 (List.length (S.mkl np fun j => tp (j + ap)))
 (fun j => S.at' (S.mkl np fun j => tp (j + ap)) j) n2
 (List.length (S.mkl nq fun j => tq (j + aq))) fun j =>
 S.at' (S.mkl nq fun j => tq (j + aq)) j))))
 (fun j =>
 S.at'
 (Prod.snd
 (Prod.snd
 (S.addS n1 (List.length (S.mkl np fun j => tp (j + ap)))
 (fun j => S.at' (S.mkl np fun j => tp (j + ap)) j) n2
 (List.length (S.mkl nq fun j => tq (j + aq))) fun j =>
 S.at' (S.mkl nq fun j => tq (j + aq)) j)))
 j)
 n2 nq fun j => tq (j + aq)))
 (List.length
 (Prod.snd
 (Prod.snd
 (S.subI
 (Prod.fst
 (S.addS n1 (List.length (S.mkl np fun j => tp (j + ap)))
 (fun j => S.at' (S.mkl np fun j => tp (j + ap)) j) n2
 (List.length (S.mkl nq fun j => tq (j + aq))) fun j =>
 S.at' (S.mkl nq fun j => tq (j + aq)) j))
 (List.length
 (Prod.snd
 (Prod.snd
 (S.addS n1 (List.length (S.mkl np fun j => tp (j + ap)))
 (fun j => S.at' (S.mkl np fun j => tp (j + ap)) j) n2
 (List.length (S.mkl nq fun j => tq (j + aq))) fun j =>
 S.at' (S.mkl nq fun j => tq (j + aq)) j))))
 (fun j =>
 S.at'
 (Prod.snd
 (Prod.snd
 (S.addS n1 (List.length (S.mkl np fun j => tp (j + ap)))
 (fun j => S.at' (S.mkl np fun j => tp (j + ap)) j) n2
 (List.length (S.mkl nq fun j => tq (j + aq))) fun j =>
 S.at' (S.mkl nq fun j => tq (j + aq)) j)))
 j)
 n2 nq fun j => tq (j + aq)))))
 (fun j =>
 S.at'
 (Prod.snd
 (Prod.snd
 (S.subI
 (Prod.fst
 (S.addS n1 (List.length (S.mkl np fun j => tp (j + ap)))
 (fun j => S.at' (S.mkl np fun j => tp (j + ap)) j) n2
 (List.length (S.mkl nq fun j => tq (j + aq))) fun j =>
 S.at' (S.mkl nq fun j => tq (j + aq)) j))
 (List.length
 (Prod.snd
 (Prod.snd
 (S.addS n1 (List.length (S.mkl np fun j => tp (j + ap)))
 (fun j => S.at' (S.mkl np fun j => tp (j + ap)) j) n2
 (List.length (S.mkl nq fun j => tq (j + aq))) fun j =>
 S.at' (S.mkl nq fun j => tq (j + aq)) j))))
 (fun j =>
 S.at'
 (Prod.snd
 (Prod.snd
 (S.addS n1 (List.length (S.mkl np fun j => tp (j + ap)))
 (fun j => S.at' (S.mkl np fun j => tp (j + ap)) j) n2
 (List.length (S.mkl nq fun j => tq (j + aq))) fun j =>
 S.at' (S.mkl nq fun j => tq (j + aq)) j)))
 j)
 n2 nq fun j => tq (j + aq))))
 j)
 n1 np fun j => tp (j + ap))
 then (some (.inr (true)))
 else (some (.inr (false))))
 else (none))
 else (some (.inr (false))))
 else (none)))
 else (bif (Prod.fst
 (Prod.snd
 (S.addS n1 (List.length (S.mkl np fun j => tp (j + ap)))
 (fun j => S.at' (S.mkl np fun j => tp (j + ap)) j) n2
 (List.length (S.mkl nq fun j => tq (j + aq))) fun j =>
 S.at' (S.mkl nq fun j => tq (j + aq)) j)) ==
 (S.addS n1 np (fun j => tp (j + ap)) n2 nq fun j => tq (j + aq)).2.1)
 then (bif (Prod.fst
 (Prod.snd
 (S.subI n1 (List.length (S.mkl np fun j => tp (j + ap)))
 (fun j => S.at' (S.mkl np fun j => tp (j + ap)) j) n2
 (List.length (S.mkl nq fun j => tq (j + aq))) fun j =>
 S.at' (S.mkl nq fun j => tq (j + aq)) j)) ==
 (S.subI n1 np (fun j => tp (j + ap)) n2 nq fun j => tq (j + aq)).2.1)
 then (some (.inr (false)))
 else (some (.inr (false))))
 else (some (.inr (false)))))
 else (none)))
 else (bif (Prod.fst
 (Prod.snd
 (S.addS n1 (List.length (S.mkl np fun j => tp (j + ap)))
 (fun j => S.at' (S.mkl np fun j => tp (j + ap)) j) n2
 (List.length (S.mkl nq fun j => tq (j + aq))) fun j =>
 S.at' (S.mkl nq fun j => tq (j + aq)) j)) ==
 (S.addS n1 np (fun j => tp (j + ap)) n2 nq fun j => tq (j + aq)).2.1)
 then (some (.inr (false)))
 else (some (.inr (false)))))
 else (none)))
 else (none))
 else (none))
 else (none))
 else (none))
 else (some (.inr (true))))
 else (none))
 else (none)
end Go.Ev
