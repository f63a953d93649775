/-
  Is there a task of a name?
-/
import Derived.Test.YtofnanmggmeleaaB1
import Derived.Test.YtofnanmggmeleaaNm2
namespace Go.Ev
open Go.Proofs
set_option linter.unusedVariables false
set_option linter.unusedSimpArgs false
set_option maxRecDepth 100000
abbrev St46 := Empty
abbrev Rt46 := Bool
noncomputable def V46 (al nl ml : Nat) (tl : Nat → ByteArray) (vl : Nat → Int) (gl : Nat → Int) (wl : Nat → Int) (tr : ByteArray) (vr : Int) (gr : Int) (wr : Int) (r : Rt46) : PV := PV.bool r
noncomputable def N46 (al nl ml : Nat) (tl : Nat → ByteArray) (vl : Nat → Int) (gl : Nat → Int) (wl : Nat → Int) (tr : ByteArray) (vr : Int) (gr : Int) (wr : Int) (r : Rt46) : List Blk := []
noncomputable def I46 (al nl ml : Nat) (tl : Nat → ByteArray) (vl : Nat → Int) (gl : Nat → Int) (wl : Nat → Int) (tr : ByteArray) (vr : Int) (gr : Int) (wr : Int) : St46 → Hd := fun s => s.elim
noncomputable def q46 (al nl ml : Nat) (tl : Nat → ByteArray) (vl : Nat → Int) (gl : Nat → Int) (wl : Nat → Int) (tr : ByteArray) (vr : Int) (gr : Int) (wr : Int) : St46 → Option (St46 ⊕ Rt46) := fun s => s.elim
noncomputable def p46 (al nl ml : Nat) (tl : Nat → ByteArray) (vl : Nat → Int) (gl : Nat → Int) (wl : Nat → Int) (tr : ByteArray) (vr : Int) (gr : Int) (wr : Int) : Option (St46 ⊕ Rt46) := bif (decide (al + nl ≤ ml ∧ nl ≤ 1000000))
 then (bif (decide (S.idx (fun (j : Nat) => S.eqS (tl (j + al)) tr) (0) nl ≥ (0 : Int)))
 then (some (.inr (true)))
 else (some (.inr (false))))
 else (none)
noncomputable def Te46 (test : Bool → Prop → Prop → Prop) (Kst : KS) (Kret : KR) (al nl ml : Nat) (tl : Nat → ByteArray) (vl : Nat → Int) (gl : Nat → Int) (wl : Nat → Int) (tr : ByteArray) (vr : Int) (gr : Int) (wr : Int) : Prop :=
  test (decide (al + nl ≤ ml ∧ nl ≤ 1000000))
 (test (decide (S.idx (fun (j : Nat) => S.eqS (tl (j + al)) tr) (0) nl ≥ (0 : Int)))
 (Kret (PV.tf true) ([[(1, false,
 Blk.cells
 [PV.str tr, PV.int IntKind.i64 vr, PV.int IntKind.i64 gr,
 PV.int IntKind.i64 wr]),
 (0, false,
 Blk.cols ml
 [Col.str tl, Col.int IntKind.i64 vl, Col.int IntKind.i64 gl,
 Col.int IntKind.i64 wl])]]) (3))
 (Kret (PV.tf false) ([[(1, false,
 Blk.cells
 [PV.str tr, PV.int IntKind.i64 vr, PV.int IntKind.i64 gr,
 PV.int IntKind.i64 wr]),
 (0, false,
 Blk.cols ml
 [Col.str tl, Col.int IntKind.i64 vl, Col.int IntKind.i64 gl,
 Col.int IntKind.i64 wl])]]) (3)))
 (False)
set_option maxRecDepth 100000 in
theorem te46 (test : Bool → Prop → Prop → Prop) (Kst : KS) (Kret : KR) (al nl ml : Nat) (tl : Nat → ByteArray) (vl : Nat → Int) (gl : Nat → Int) (wl : Nat → Int) (tr : ByteArray) (vr : Int) (gr : Int) (wr : Int) : run test Try.env true (xI test) true 400 ⟨46, [.cd (mkFn Try.f46).body], argT 0 [.loose ⟨0, 4, al, 0⟩ nl, .fn (.func 47) [] [.ptr ⟨1, 0, 0, 0⟩]], [[], [(0, (false, .cols ml [.str tl, .int .i64 vl, .int .i64 gl, .int .i64 wl])), (1, (false, .cells [.str tr, .int .i64 vr, .int .i64 gr, .int .i64 wr]))]], 2⟩ (proj 2 [] Kst Kret) =
  Te46 test Kst Kret al nl ml tl vl gl wl tr vr gr wr := by kernel_rfl
attribute [local irreducible] Int.subNatNat in
set_option maxRecDepth 100000 in
theorem be46 (al nl ml : Nat) (tl : Nat → ByteArray) (vl : Nat → Int) (gl : Nat → Int) (wl : Nat → Int) (tr : ByteArray) (vr : Int) (gr : Int) (wr : Int) (Kst : KS) (Kret : KR) (x : St46 ⊕ Rt46) (hS : HS 2 400 ((I46 al nl ml tl vl gl wl tr vr gr wr)) Kst x) (hR : HR 2 400 ((V46 al nl ml tl vl gl wl tr vr gr wr)) (fun r => [newL (2 + 1) ((N46 al nl ml tl vl gl wl tr vr gr wr) r) ++ [(0, (false, .cols ml [.str tl, .int .i64 vl, .int .i64 gl, .int .i64 wl])), (1, (false, .cells [.str tr, .int .i64 vr, .int .i64 gr, .int .i64 wr]))]]) Kret x) (h : (bif (decide (al + nl ≤ ml ∧ nl ≤ 1000000))
 then (bif (decide (S.idx (fun (j : Nat) => S.eqS (tl (j + al)) tr) (0) nl ≥ (0 : Int)))
 then (some (.inr (true)))
 else (some (.inr (false))))
 else (none) : Option (St46 ⊕ Rt46)) = some x) : Te46 cond Kst Kret al nl ml tl vl gl wl tr vr gr wr := by
  unfold Te46
  exact bif_split h
   (fun c0 h => bif_split h
   (fun c1 h => ret_at hR _ h (fun n => n) rfl rfl rfl (rn_bool_tf rfl) rfl (entl_bor (use_lo rfl) rfl rfl (entl_borc (use_lo rfl) rfl rfl entl_nil)))
   (fun c1 h => ret_at hR _ h (fun n => n) rfl rfl rfl (rn_bool_tf rfl) rfl (entl_bor (use_lo rfl) rfl rfl (entl_borc (use_lo rfl) rfl rfl entl_nil))))
   (fun c0 h => no_some h)
theorem a46 (al nl ml : Nat) (tl : Nat → ByteArray) (vl : Nat → Int) (gl : Nat → Int) (wl : Nat → Int) (tr : ByteArray) (vr : Int) (gr : Int) (wr : Int) {r : Rt46} (h : Goes ((q46 al nl ml tl vl gl wl tr vr gr wr)) ((p46 al nl ml tl vl gl wl tr vr gr wr)) r) : CallR Try.prog 46 [.loose ⟨0, 4, al, 0⟩ nl, .fn (.func 47) [] [.ptr ⟨1, 0, 0, 0⟩]] [[(0, (false, .cols ml [.str tl, .int .i64 vl, .int .i64 gl, .int .i64 wl])), (1, (false, .cells [.str tr, .int .i64 vr, .int .i64 gr, .int .i64 wr]))]] 2 ((V46 al nl ml tl vl gl wl tr vr gr wr) r) ((fun r => [newL (2 + 1) ((N46 al nl ml tl vl gl wl tr vr gr wr) r) ++ [(0, (false, .cols ml [.str tl, .int .i64 vl, .int .i64 gl, .int .i64 wl])), (1, (false, .cells [.str tr, .int .i64 vr, .int .i64 gr, .int .i64 wr]))]]) r) 400 ∧ ∃ F, Try.prog.funcs[46]? = some F ∧ F.body.isSome = true ∧ (F.name == "runtime.NumGoroutine") = false := by
  refine dec_calls (sy := true) (f := 46) (lo := 2) (hi := 400) (H := [[(0, (false, .cols ml [.str tl, .int .i64 vl, .int .i64 gl, .int .i64 wl])), (1, (false, .cells [.str tr, .int .i64 vr, .int .i64 gr, .int .i64 wr]))]]) (args := [.loose ⟨0, 4, al, 0⟩ nl, .fn (.func 47) [] [.ptr ⟨1, 0, 0, 0⟩]]) Try.envOk Try.mixed xI_ok ((I46 al nl ml tl vl gl wl tr vr gr wr)) ((V46 al nl ml tl vl gl wl tr vr gr wr)) (fun r => [newL (2 + 1) ((N46 al nl ml tl vl gl wl tr vr gr wr) r) ++ [(0, (false, .cols ml [.str tl, .int .i64 vl, .int .i64 gl, .int .i64 wl])), (1, (false, .cells [.str tr, .int .i64 vr, .int .i64 gr, .int .i64 wr]))]]) (fn := mkFn Try.f46) (ts := []) (n := 400) rfl (by decide) (by simp) (names_of rfl) ?_ ?_ ?_ h
  · intro s; exact s.elim
  · intro Kst Kret x hS hR h
    exact Holds.eq (te46 cond Kst Kret al nl ml tl vl gl wl tr vr gr wr) (be46 al nl ml tl vl gl wl tr vr gr wr Kst Kret x hS hR h)
  · intro Kst Kret x hS hR s h; exact s.elim
noncomputable def k46 : Con := ⟨46, [.one (.list [.str, .int .i64, .int .i64, .int .i64]), .fn 47 [.cell [.str, .int .i64, .int .i64, .int .i64]]], fun (x : (Nat × Nat × Nat × (Nat → ByteArray) × (Nat → Int) × (Nat → Int) × (Nat → Int) × Unit) × ((ByteArray × Int × Int × Int × Unit) × Unit) × Unit) => (fun (al nl ml : Nat) (tl : Nat → ByteArray) (vl : Nat → Int) (gl : Nat → Int) (wl : Nat → Int) (tr : ByteArray) (vr : Int) (gr : Int) (wr : Int) => decide (al + nl ≤ ml ∧ nl ≤ 1000000)) x.1.1 x.1.2.1 x.1.2.2.1 x.1.2.2.2.1 x.1.2.2.2.2.1 x.1.2.2.2.2.2.1 x.1.2.2.2.2.2.2.1 x.2.1.1.1 x.2.1.1.2.1 x.2.1.1.2.2.1 x.2.1.1.2.2.2.1, fun (x : (Nat × Nat × Nat × (Nat → ByteArray) × (Nat → Int) × (Nat → Int) × (Nat → Int) × Unit) × ((ByteArray × Int × Int × Int × Unit) × Unit) × Unit) => (fun (al nl ml : Nat) (tl : Nat → ByteArray) (vl : Nat → Int) (gl : Nat → Int) (wl : Nat → Int) (tr : ByteArray) (vr : Int) (gr : Int) (wr : Int) => (V46 al nl ml tl vl gl wl tr vr gr wr) (S.any (fun j => (S.eqS (tl (j + al)) tr)) nl)) x.1.1 x.1.2.1 x.1.2.2.1 x.1.2.2.2.1 x.1.2.2.2.2.1 x.1.2.2.2.2.2.1 x.1.2.2.2.2.2.2.1 x.2.1.1.1 x.2.1.1.2.1 x.2.1.1.2.2.1 x.2.1.1.2.2.2.1, fun (x : (Nat × Nat × Nat × (Nat → ByteArray) × (Nat → Int) × (Nat → Int) × (Nat → Int) × Unit) × ((ByteArray × Int × Int × Int × Unit) × Unit) × Unit) => (fun (al nl ml : Nat) (tl : Nat → ByteArray) (vl : Nat → Int) (gl : Nat → Int) (wl : Nat → Int) (tr : ByteArray) (vr : Int) (gr : Int) (wr : Int) => (N46 al nl ml tl vl gl wl tr vr gr wr) (S.any (fun j => (S.eqS (tl (j + al)) tr)) nl)) x.1.1 x.1.2.1 x.1.2.2.1 x.1.2.2.2.1 x.1.2.2.2.2.1 x.1.2.2.2.2.2.1 x.1.2.2.2.2.2.2.1 x.2.1.1.1 x.2.1.1.2.1 x.2.1.1.2.2.1 x.2.1.1.2.2.2.1, fun _ _ => .dead⟩
theorem s46 (al nl ml : Nat) (tl : Nat → ByteArray) (vl : Nat → Int) (gl : Nat → Int) (wl : Nat → Int) (tr : ByteArray) (vr : Int) (gr : Int) (wr : Int) (hp : al + nl ≤ ml ∧ nl ≤ 1000000) : Goes ((q46 al nl ml tl vl gl wl tr vr gr wr)) ((p46 al nl ml tl vl gl wl tr vr gr wr)) (S.any (fun j => (S.eqS (tl (j + al)) tr)) nl) := by
  have hp' := hp
  obtain ⟨hp1, hp2⟩ := hp
  rw [← idx_any (p := (fun j => (S.eqS (tl (j + al)) tr))) (n := nl)]
  show Goes _ _ _
  unfold p46
  repeat' first
    | with_reducible refine goes_if (fun h => ?_) (fun h => ?_) <;> (try simp only [lim64, imp_false, decide_eq_true_eq, decide_eq_false_iff_not, Int.toNat_natCast, toNat_pred, toNat_succ, Option.getD_some, Option.getD_none, Bool.not_eq_true', Bool.not_eq_false', Bool.and_eq_true, Bool.or_eq_true, Bool.and_eq_false_iff, Bool.or_eq_false_iff, bne_iff_ne, beq_iff_eq, bne_eq_false_iff_eq, beq_eq_false_iff_ne, ne_eq, not_and, Int.not_le, Int.not_lt, ge_iff_le, gt_iff_lt, Nat.not_lt, Nat.not_le, Bool.not_eq_true, Bool.not_eq_false, Bool.true_eq_false, Bool.false_eq_true, not_false_eq_true, not_true_eq_false] at h)
    | exact goes_none.mpr (by omega)
  all_goals first | (exfalso; omega) | (exfalso; simp_all; done) | (refine goes_inr.mpr ?_; first | rfl | (symm; simp_all; done) | (symm; simp_all; omega))

theorem k46_ok : k46.ok Try.prog := by
  intro x hx
  obtain ⟨⟨al, nl, ml, tl, vl, gl, wl, _⟩, ⟨⟨tr, vr, gr, wr, _⟩, _⟩, _⟩ := x
  obtain ⟨h1, h2⟩ := a46 al nl ml tl vl gl wl tr vr gr wr (s46 al nl ml tl vl gl wl tr vr gr wr (of_dec hx rfl))
  exact ⟨⟨400, (by decide : 2 + 1 + 0 ≤ 400), h1⟩, h2⟩
noncomputable def k15 : Con := ⟨15, [.one (.list [.str, .int .i64, .int .i64, .int .i64])], fun (x : (Nat × Nat × Nat × (Nat → ByteArray) × (Nat → Int) × (Nat → Int) × (Nat → Int) × Unit) × Unit) => (fun (aa na ma : Nat) (ta : Nat → ByteArray) (va : Nat → Int) (ga : Nat → Int) (wa : Nat → Int) => decide (aa + na ≤ ma ∧ na ≤ 1000000)) x.1.1 x.1.2.1 x.1.2.2.1 x.1.2.2.2.1 x.1.2.2.2.2.1 x.1.2.2.2.2.2.1 x.1.2.2.2.2.2.2.1, fun (x : (Nat × Nat × Nat × (Nat → ByteArray) × (Nat → Int) × (Nat → Int) × (Nat → Int) × Unit) × Unit) => (fun (aa na ma : Nat) (ta : Nat → ByteArray) (va : Nat → Int) (ga : Nat → Int) (wa : Nat → Int) => .own 2 4 na) x.1.1 x.1.2.1 x.1.2.2.1 x.1.2.2.2.1 x.1.2.2.2.2.1 x.1.2.2.2.2.2.1 x.1.2.2.2.2.2.2.1, fun (x : (Nat × Nat × Nat × (Nat → ByteArray) × (Nat → Int) × (Nat → Int) × (Nat → Int) × Unit) × Unit) => (fun (aa na ma : Nat) (ta : Nat → ByteArray) (va : Nat → Int) (ga : Nat → Int) (wa : Nat → Int) => [.cols na [.str (fun j => ta (j + aa)), .int .i64 (fun j => va (j + aa)), .int .i64 (fun j => ga (j + aa)), .int .i64 (fun j => wa (j + aa))]]) x.1.1 x.1.2.1 x.1.2.2.1 x.1.2.2.2.1 x.1.2.2.2.2.1 x.1.2.2.2.2.2.1 x.1.2.2.2.2.2.2.1, fun _ _ => .dead⟩
set_option maxRecDepth 100000 in
theorem e15s (test : Bool → Prop → Prop → Prop) (Kst : List It → List PV → Heap → Nat → Prop) (Kret : PV → Heap → Nat → Prop) (aa na ma : Nat) (ta : Nat → ByteArray) (va : Nat → Int) (ga : Nat → Int) (wa : Nat → Int) :
  (run test Try.env true noX true 300 ⟨15, [.cd (mkFn Try.f15).body], argT 0 [.sl ⟨0, 4, aa, 0⟩ na], [[], [(0, (false, .cols ma [.str ta, .int .i64 va, .int .i64 ga, .int .i64 wa]))]], 1⟩ (proj 1 [] Kst Kret)) =
  (test (decide (0 + na ≤ 1000000))
  (test true
    (test (decide (aa + na ≤ ma))
      (Kret (PV.own (2) (4) (0 + na))
        [[(0, false,
              Blk.cols ma [Col.str ta, Col.int IntKind.i64 va, Col.int IntKind.i64 ga, Col.int IntKind.i64 wa]),
            (2, true,
              Blk.cols (0 + na)
                [Col.str fun (j : Nat) => ta (j + aa), Col.int IntKind.i64 fun (j : Nat) => va (j + aa),
                  Col.int IntKind.i64 fun (j : Nat) => ga (j + aa), Col.int IntKind.i64 fun (j : Nat) => wa (j + aa)])]]
        (3))
      False)
    False)
  False) := by kernel_rfl
theorem c15s (aa na ma : Nat) (ta : Nat → ByteArray) (va : Nat → Int) (ga : Nat → Int) (wa : Nat → Int) (hp : aa + na ≤ ma ∧ na ≤ 1000000) (h0 : 0 < na) : CallR Try.prog 15 [.sl ⟨0, 4, aa, 0⟩ na] [[(0, (false, .cols ma [.str ta, .int .i64 va, .int .i64 ga, .int .i64 wa]))]] 1 (.own 2 4 na) [(2, (true, .cols na [.str (fun j => ta (j + aa)), .int .i64 (fun j => va (j + aa)), .int .i64 (fun j => ga (j + aa)), .int .i64 (fun j => wa (j + aa))])) :: [(0, (false, .cols ma [.str ta, .int .i64 va, .int .i64 ga, .int .i64 wa]))]] 40 ∧ ∃ F, Try.prog.funcs[15]? = some F ∧ F.body.isSome = true ∧ (F.name == "runtime.NumGoroutine") = false := by
  refine @ret_eq _ _ Try.envOk Try.mixed _ noX_ok 15 (mkFn Try.f15) [.sl ⟨0, 4, aa, 0⟩ na] [[(0, (false, .cols ma [.str ta, .int .i64 va, .int .i64 ga, .int .i64 wa]))]] [(2, (true, .cols na [.str (fun j => ta (j + aa)), .int .i64 (fun j => va (j + aa)), .int .i64 (fun j => ga (j + aa)), .int .i64 (fun j => wa (j + aa))])) :: [(0, (false, .cols ma [.str ta, .int .i64 va, .int .i64 ga, .int .i64 wa]))]] 1 40 (.own 2 4 na) true 300 rfl (by decide) (by simp) (names_of rfl) _ (e15s cond _ _ aa na ma ta va ga wa) ?_
  repeat' first
    | with_reducible refine cond_yes rfl ?_
    | with_reducible refine cond_no rfl ?_
    | (with_reducible refine cond_intro (fun h => ?_) (fun h => ?_)) <;> (try simp only [lim64, decide_eq_true_eq, decide_eq_false_iff_not, reduceCtorEq, Int.toNat_natCast, Bool.not_eq_true', Bool.not_eq_false', Bool.and_eq_true, Bool.or_eq_true, Bool.and_eq_false_iff, Bool.or_eq_false_iff, bne_iff_ne, beq_iff_eq, bne_eq_false_iff_eq, beq_eq_false_iff_ne, ne_eq] at h)
  all_goals first
    | with_reducible apply ret_k
    | omega
  repeat' first
    | with_reducible exact rns_nil
    | with_reducible refine rns_cons ?_ ?_
    | with_reducible refine rn_tup ?_
    | with_reducible refine rn_agg ?_
    | with_reducible refine rn_int ?_
    | with_reducible refine rn_tf ?_
    | with_reducible refine rn_bool_tf ?_
    | with_reducible refine rn_bool ?_
    | with_reducible refine rn_str ?_
    | with_reducible exact rn_nils
    | with_reducible refine rn_own_nils ?_
    | with_reducible refine rn_own ?_ ?_ ?_
    | with_reducible refine rn_own_sl ?_ ?_ ?_ ?_ ?_
    | with_reducible refine rn_own_loose ?_ ?_ ?_ ?_
    | with_reducible refine rn_loose ?_ ?_ ?_ ?_
    | with_reducible refine rn_loose_sl ?_ ?_ ?_ ?_
    | exact use_lo rfl
    | exact use_own rfl
    | exact nm_k rfl
    | exact nm_lo rfl
    | ((with_reducible refine (id : pos _ = pos _ → _) ?_); exact rfl)
    | ((with_reducible refine (id : pos _ = 0 → _) ?_); exact rfl)
    | ((with_reducible refine (id : Nat.ble _ _ = true → _) ?_); exact rfl)
    | ((with_reducible refine (id : injL _ _ = true → _) ?_); exact rfl)
    | ((with_reducible refine (id : plainC _ = true → _) ?_); exact rfl)
    | ((with_reducible refine (id : hget _ _ = some _ → _) ?_); exact rfl)
    | with_reducible exact (id : (_ : Bool) = true → _ = true)
    | with_reducible exact entl_nil
    | with_reducible refine entl_bor ?_ ?_ ?_ ?_
    | refine entl_new (use_own rfl) (by rfl) ?_ ?_ ?_
    | refine entl_rows (use_own rfl) (by rfl) rfl ?_ (nthc_all ?_) ?_
    | refine entl_zero (use_own rfl) (by rfl) (by simp) (by omega) ?_
    | with_reducible exact rcs_nil
    | with_reducible refine rcs_int (fun j hj => ?_) ?_
    | with_reducible refine rcs_bool (fun j hj => ?_) ?_
    | with_reducible refine rcs_str (fun j hj => ?_) ?_
    | refine entl_fresh (k := 2) (use_own rfl) (fresh_ok (n := 39) rfl) ?_
    | with_reducible rfl
  all_goals try exact (0 : Nat)
  all_goals try ((with_reducible refine (id : injL _ _ = true → _) ?_); exact rfl)
  all_goals first
    | omega
    | skip
set_option maxRecDepth 100000 in
theorem e15z (test : Bool → Prop → Prop → Prop) (Kst : List It → List PV → Heap → Nat → Prop) (Kret : PV → Heap → Nat → Prop) (aa na ma : Nat) (ta : Nat → ByteArray) (va : Nat → Int) (ga : Nat → Int) (wa : Nat → Int) :
  (run test Try.env true noX true 300 ⟨15, [.cd (mkFn Try.f15).body], argT 0 [.zer true], [[], [(0, (false, .cols ma [.str ta, .int .i64 va, .int .i64 ga, .int .i64 wa]))]], 1⟩ (proj 1 [] Kst Kret)) =
  (Kret (PV.own (1) (4) (0))
  [[(0, false,
        Blk.cols ma [Col.str ta, Col.int IntKind.i64 va, Col.int IntKind.i64 ga, Col.int IntKind.i64 wa]),
      (1, true, Blk.cells [])]]
  (2)) := by kernel_rfl
theorem c15z (aa na ma : Nat) (ta : Nat → ByteArray) (va : Nat → Int) (ga : Nat → Int) (wa : Nat → Int) (hp : aa + na ≤ ma ∧ na ≤ 1000000) (h0 : na = 0) : CallR Try.prog 15 [.zer true] [[(0, (false, .cols ma [.str ta, .int .i64 va, .int .i64 ga, .int .i64 wa]))]] 1 (.own 2 4 na) [(2, (true, .cols na [.str (fun j => ta (j + aa)), .int .i64 (fun j => va (j + aa)), .int .i64 (fun j => ga (j + aa)), .int .i64 (fun j => wa (j + aa))])) :: [(0, (false, .cols ma [.str ta, .int .i64 va, .int .i64 ga, .int .i64 wa]))]] 40 ∧ ∃ F, Try.prog.funcs[15]? = some F ∧ F.body.isSome = true ∧ (F.name == "runtime.NumGoroutine") = false := by
  refine @ret_eq _ _ Try.envOk Try.mixed _ noX_ok 15 (mkFn Try.f15) [.zer true] [[(0, (false, .cols ma [.str ta, .int .i64 va, .int .i64 ga, .int .i64 wa]))]] [(2, (true, .cols na [.str (fun j => ta (j + aa)), .int .i64 (fun j => va (j + aa)), .int .i64 (fun j => ga (j + aa)), .int .i64 (fun j => wa (j + aa))])) :: [(0, (false, .cols ma [.str ta, .int .i64 va, .int .i64 ga, .int .i64 wa]))]] 1 40 (.own 2 4 na) true 300 rfl (by decide) (by simp) (names_of rfl) _ (e15z cond _ _ aa na ma ta va ga wa) ?_
  repeat' first
    | with_reducible refine cond_yes rfl ?_
    | with_reducible refine cond_no rfl ?_
    | (with_reducible refine cond_intro (fun h => ?_) (fun h => ?_)) <;> (try simp only [lim64, decide_eq_true_eq, decide_eq_false_iff_not, reduceCtorEq, Int.toNat_natCast, Bool.not_eq_true', Bool.not_eq_false', Bool.and_eq_true, Bool.or_eq_true, Bool.and_eq_false_iff, Bool.or_eq_false_iff, bne_iff_ne, beq_iff_eq, bne_eq_false_iff_eq, beq_eq_false_iff_ne, ne_eq] at h)
  all_goals first
    | with_reducible apply ret_k
    | omega
  repeat' first
    | with_reducible exact rns_nil
    | with_reducible refine rns_cons ?_ ?_
    | with_reducible refine rn_tup ?_
    | with_reducible refine rn_agg ?_
    | with_reducible refine rn_int ?_
    | with_reducible refine rn_tf ?_
    | with_reducible refine rn_bool_tf ?_
    | with_reducible refine rn_bool ?_
    | with_reducible refine rn_str ?_
    | with_reducible exact rn_nils
    | with_reducible refine rn_own_nils ?_
    | with_reducible refine rn_own ?_ ?_ ?_
    | with_reducible refine rn_own_sl ?_ ?_ ?_ ?_ ?_
    | with_reducible refine rn_own_loose ?_ ?_ ?_ ?_
    | with_reducible refine rn_loose ?_ ?_ ?_ ?_
    | with_reducible refine rn_loose_sl ?_ ?_ ?_ ?_
    | exact use_lo rfl
    | exact use_own rfl
    | exact nm_k rfl
    | exact nm_lo rfl
    | ((with_reducible refine (id : pos _ = pos _ → _) ?_); exact rfl)
    | ((with_reducible refine (id : pos _ = 0 → _) ?_); exact rfl)
    | ((with_reducible refine (id : Nat.ble _ _ = true → _) ?_); exact rfl)
    | ((with_reducible refine (id : injL _ _ = true → _) ?_); exact rfl)
    | ((with_reducible refine (id : plainC _ = true → _) ?_); exact rfl)
    | ((with_reducible refine (id : hget _ _ = some _ → _) ?_); exact rfl)
    | with_reducible exact (id : (_ : Bool) = true → _ = true)
    | with_reducible exact entl_nil
    | with_reducible refine entl_bor ?_ ?_ ?_ ?_
    | refine entl_new (use_own rfl) (by rfl) ?_ ?_ ?_
    | refine entl_rows (use_own rfl) (by rfl) rfl ?_ (nthc_all ?_) ?_
    | refine entl_zero (use_own rfl) (by rfl) (by simp) (by omega) ?_
    | with_reducible exact rcs_nil
    | with_reducible refine rcs_int (fun j hj => ?_) ?_
    | with_reducible refine rcs_bool (fun j hj => ?_) ?_
    | with_reducible refine rcs_str (fun j hj => ?_) ?_
    | refine entl_fresh (k := 2) (use_own rfl) (fresh_ok (n := 39) rfl) ?_
    | with_reducible rfl
  all_goals try exact (0 : Nat)
  all_goals try ((with_reducible refine (id : injL _ _ = true → _) ?_); exact rfl)
  all_goals first
    | omega
    | skip
set_option maxRecDepth 100000 in
theorem e15y (test : Bool → Prop → Prop → Prop) (Kst : List It → List PV → Heap → Nat → Prop) (Kret : PV → Heap → Nat → Prop) (aa na ma : Nat) (ta : Nat → ByteArray) (va : Nat → Int) (ga : Nat → Int) (wa : Nat → Int) :
  (run test Try.env true noX true 300 ⟨15, [.cd (mkFn Try.f15).body], argT 0 [.zer false], [[], [(0, (false, .cols ma [.str ta, .int .i64 va, .int .i64 ga, .int .i64 wa]))]], 1⟩ (proj 1 [] Kst Kret)) =
  (Kret PV.nils
  [[(0, false,
        Blk.cols ma [Col.str ta, Col.int IntKind.i64 va, Col.int IntKind.i64 ga, Col.int IntKind.i64 wa])]]
  (1)) := by kernel_rfl
theorem c15y (aa na ma : Nat) (ta : Nat → ByteArray) (va : Nat → Int) (ga : Nat → Int) (wa : Nat → Int) (hp : aa + na ≤ ma ∧ na ≤ 1000000) (h0 : na = 0) : CallR Try.prog 15 [.zer false] [[(0, (false, .cols ma [.str ta, .int .i64 va, .int .i64 ga, .int .i64 wa]))]] 1 (.own 2 4 na) [(2, (true, .cols na [.str (fun j => ta (j + aa)), .int .i64 (fun j => va (j + aa)), .int .i64 (fun j => ga (j + aa)), .int .i64 (fun j => wa (j + aa))])) :: [(0, (false, .cols ma [.str ta, .int .i64 va, .int .i64 ga, .int .i64 wa]))]] 40 ∧ ∃ F, Try.prog.funcs[15]? = some F ∧ F.body.isSome = true ∧ (F.name == "runtime.NumGoroutine") = false := by
  refine @ret_eq _ _ Try.envOk Try.mixed _ noX_ok 15 (mkFn Try.f15) [.zer false] [[(0, (false, .cols ma [.str ta, .int .i64 va, .int .i64 ga, .int .i64 wa]))]] [(2, (true, .cols na [.str (fun j => ta (j + aa)), .int .i64 (fun j => va (j + aa)), .int .i64 (fun j => ga (j + aa)), .int .i64 (fun j => wa (j + aa))])) :: [(0, (false, .cols ma [.str ta, .int .i64 va, .int .i64 ga, .int .i64 wa]))]] 1 40 (.own 2 4 na) true 300 rfl (by decide) (by simp) (names_of rfl) _ (e15y cond _ _ aa na ma ta va ga wa) ?_
  repeat' first
    | with_reducible refine cond_yes rfl ?_
    | with_reducible refine cond_no rfl ?_
    | (with_reducible refine cond_intro (fun h => ?_) (fun h => ?_)) <;> (try simp only [lim64, decide_eq_true_eq, decide_eq_false_iff_not, reduceCtorEq, Int.toNat_natCast, Bool.not_eq_true', Bool.not_eq_false', Bool.and_eq_true, Bool.or_eq_true, Bool.and_eq_false_iff, Bool.or_eq_false_iff, bne_iff_ne, beq_iff_eq, bne_eq_false_iff_eq, beq_eq_false_iff_ne, ne_eq] at h)
  all_goals first
    | with_reducible apply ret_k
    | omega
  repeat' first
    | with_reducible exact rns_nil
    | with_reducible refine rns_cons ?_ ?_
    | with_reducible refine rn_tup ?_
    | with_reducible refine rn_agg ?_
    | with_reducible refine rn_int ?_
    | with_reducible refine rn_tf ?_
    | with_reducible refine rn_bool_tf ?_
    | with_reducible refine rn_bool ?_
    | with_reducible refine rn_str ?_
    | with_reducible exact rn_nils
    | with_reducible refine rn_own_nils ?_
    | with_reducible refine rn_own ?_ ?_ ?_
    | with_reducible refine rn_own_sl ?_ ?_ ?_ ?_ ?_
    | with_reducible refine rn_own_loose ?_ ?_ ?_ ?_
    | with_reducible refine rn_loose ?_ ?_ ?_ ?_
    | with_reducible refine rn_loose_sl ?_ ?_ ?_ ?_
    | exact use_lo rfl
    | exact use_own rfl
    | exact nm_k rfl
    | exact nm_lo rfl
    | ((with_reducible refine (id : pos _ = pos _ → _) ?_); exact rfl)
    | ((with_reducible refine (id : pos _ = 0 → _) ?_); exact rfl)
    | ((with_reducible refine (id : Nat.ble _ _ = true → _) ?_); exact rfl)
    | ((with_reducible refine (id : injL _ _ = true → _) ?_); exact rfl)
    | ((with_reducible refine (id : plainC _ = true → _) ?_); exact rfl)
    | ((with_reducible refine (id : hget _ _ = some _ → _) ?_); exact rfl)
    | with_reducible exact (id : (_ : Bool) = true → _ = true)
    | with_reducible exact entl_nil
    | with_reducible refine entl_bor ?_ ?_ ?_ ?_
    | refine entl_new (use_own rfl) (by rfl) ?_ ?_ ?_
    | refine entl_rows (use_own rfl) (by rfl) rfl ?_ (nthc_all ?_) ?_
    | refine entl_zero (use_own rfl) (by rfl) (by simp) (by omega) ?_
    | with_reducible exact rcs_nil
    | with_reducible refine rcs_int (fun j hj => ?_) ?_
    | with_reducible refine rcs_bool (fun j hj => ?_) ?_
    | with_reducible refine rcs_str (fun j hj => ?_) ?_
    | refine entl_fresh (k := 2) (use_own rfl) (fresh_ok (n := 39) rfl) ?_
    | with_reducible rfl
  all_goals try exact (0 : Nat)
  all_goals try ((with_reducible refine (id : injL _ _ = true → _) ?_); exact rfl)
  all_goals first
    | omega
    | skip
theorem c15 (aa na ma : Nat) (ta : Nat → ByteArray) (va : Nat → Int) (ga : Nat → Int) (wa : Nat → Int) (hp : aa + na ≤ ma ∧ na ≤ 1000000) : CallR Try.prog 15 [.loose ⟨0, 4, aa, 0⟩ na] [[(0, (false, .cols ma [.str ta, .int .i64 va, .int .i64 ga, .int .i64 wa]))]] 1 (.own 2 4 na) [(2, (true, .cols na [.str (fun j => ta (j + aa)), .int .i64 (fun j => va (j + aa)), .int .i64 (fun j => ga (j + aa)), .int .i64 (fun j => wa (j + aa))])) :: [(0, (false, .cols ma [.str ta, .int .i64 va, .int .i64 ga, .int .i64 wa]))]] 40 ∧ ∃ F, Try.prog.funcs[15]? = some F ∧ F.body.isSome = true ∧ (F.name == "runtime.NumGoroutine") = false :=
  ⟨loose_cases (fun h => (c15s aa na ma ta va ga wa hp h).1) (fun h b => by cases b; exact (c15y aa na ma ta va ga wa hp h).1; exact (c15z aa na ma ta va ga wa hp h).1), by
    rcases Nat.eq_zero_or_pos na with h | h
    · exact (c15y aa na ma ta va ga wa hp h).2
    · exact (c15s aa na ma ta va ga wa hp h).2⟩
theorem k15_ok : k15.ok Try.prog := by
  intro x hx
  obtain ⟨⟨aa, na, ma, ta, va, ga, wa, _⟩, _⟩ := x
  have hp : aa + na ≤ ma ∧ na ≤ 1000000 := of_decide_eq_true hx
  obtain ⟨h1, h2⟩ := c15 aa na ma ta va ga wa hp
  exact ⟨⟨40, (by decide : 1 + 1 + 1 ≤ 40), h1⟩, h2⟩
noncomputable def xV (test : Bool → Prop → Prop → Prop) : Ext := consX test [k45, k49, k46]
theorem xV_ok : ExtOk Try.prog (xV cond) := consX_ok ⟨k45_ok, k49_ok, k46_ok, trivial⟩

end Go.Ev
