/-
  Further functions of buffers.
-/
import Derived.Test.YtedbjnojogjnkaaL3b
namespace Go.Ev
open Go.Proofs
set_option linter.unusedVariables false
set_option linter.unusedSimpArgs false
set_option maxRecDepth 100000
abbrev St23 := Empty
abbrev Rt23 := Int × Int × Int × Int × Bool × Int × List (Int × Int × Bool)
noncomputable def V23 (ca : Int) (af : Int) (al nl ml : Nat) (tl : Nat → Int) (vl : Nat → Int) (gl : Nat → Bool) (ov : Int) (re : Int) (fz : Bool) (t0 : Int) (r : Rt23) : PV := PV.tup
 [PV.agg
 [PV.int IntKind.i64 r.1, PV.int IntKind.i64 r.2.1,
 PV.own (2) (3) (List.length r.2.2.2.2.2.2), PV.int IntKind.i64 r.2.2.1,
 PV.int IntKind.i64 r.2.2.2.1, PV.bool r.2.2.2.2.1],
 PV.int IntKind.i64 r.2.2.2.2.2.1]
noncomputable def N23 (ca : Int) (af : Int) (al nl ml : Nat) (tl : Nat → Int) (vl : Nat → Int) (gl : Nat → Bool) (ov : Int) (re : Int) (fz : Bool) (t0 : Int) (r : Rt23) : List Blk := [Blk.cols (List.length r.2.2.2.2.2.2)
 [Col.int IntKind.i64 fun (j : Nat) => (S.at' r.2.2.2.2.2.2 j).1,
 Col.int IntKind.i64 fun (j : Nat) => (S.at' r.2.2.2.2.2.2 j).2.1,
 Col.bool fun (j : Nat) => (S.at' r.2.2.2.2.2.2 j).2.2]]
noncomputable def I23 (ca : Int) (af : Int) (al nl ml : Nat) (tl : Nat → Int) (vl : Nat → Int) (gl : Nat → Bool) (ov : Int) (re : Int) (fz : Bool) (t0 : Int) : St23 → Hd := fun s => s.elim
noncomputable def q23 (ca : Int) (af : Int) (al nl ml : Nat) (tl : Nat → Int) (vl : Nat → Int) (gl : Nat → Bool) (ov : Int) (re : Int) (fz : Bool) (t0 : Int) : St23 → Option (St23 ⊕ Rt23) := fun s => s.elim
noncomputable def p23 (ca : Int) (af : Int) (al nl ml : Nat) (tl : Nat → Int) (vl : Nat → Int) (gl : Nat → Bool) (ov : Int) (re : Int) (fz : Bool) (t0 : Int) : Option (St23 ⊕ Rt23) := bif (decide (al + nl ≤ ml ∧ nl ≤ 1000000))
 then (bif (S.vB ca af nl (fun (j : Nat) => tl (j + al)) (fun (j : Nat) => vl (j + al)) ov re fz != (0 : Int))
 then (some (.inr ((0 : Int), (0 : Int), (0 : Int), (0 : Int), false, S.vB ca af nl (fun (j : Nat) => tl (j + al)) (fun (j : Nat) => vl (j + al)) ov re fz, [])))
 else (bif (decide (t0 ≥ (0 : Int)))
 then (bif (decide (t0 ≤ (1099511627776 : Int)))
 then (bif (re == (-1 : Int))
 then (bif (af == (0 : Int))
 then (some (.inr (ca, af, ov, af, true, (0 : Int), S.mkl nl fun (j : Nat) => (tl (j + al), vl (j + al), gl (j + al)))))
 else (some (.inr (ca, af, ov, af, false, (0 : Int), S.mkl nl fun (j : Nat) => (tl (j + al), vl (j + al), gl (j + al))))))
 else (some (.inr (ca, af, ov, re, fz, (0 : Int), S.mkl nl fun (j : Nat) => (tl (j + al), vl (j + al), gl (j + al))))))
 else (some (.inr ((0 : Int), (0 : Int), (0 : Int), (0 : Int), false, (6 : Int), []))))
 else (some (.inr ((0 : Int), (0 : Int), (0 : Int), (0 : Int), false, (6 : Int), [])))))
 else (none)
noncomputable def Te23 (test : Bool → Prop → Prop → Prop) (Kst : KS) (Kret : KR) (ca : Int) (af : Int) (al nl ml : Nat) (tl : Nat → Int) (vl : Nat → Int) (gl : Nat → Bool) (ov : Int) (re : Int) (fz : Bool) (t0 : Int) : Prop :=
  test (decide (al + nl ≤ ml ∧ nl ≤ 1000000))
 (test (S.vB ca af nl (fun (j : Nat) => tl (j + al)) (fun (j : Nat) => vl (j + al)) ov re fz != (0 : Int))
 (Kret (PV.tup
 [PV.agg
 [PV.int IntKind.i64 (0 : Int), PV.int IntKind.i64 (0 : Int), PV.nils,
 PV.int IntKind.i64 (0 : Int), PV.int IntKind.i64 (0 : Int), PV.tf false],
 PV.int IntKind.i64
 (S.vB ca af nl (fun (j : Nat) => tl (j + al)) (fun (j : Nat) => vl (j + al)) ov re fz)]) ([[(0, false,
 Blk.cols ml [Col.int IntKind.i64 tl, Col.int IntKind.i64 vl, Col.bool gl])]]) (4))
 (test (decide (t0 ≥ (0 : Int)))
 (test (decide (t0 ≤ (1099511627776 : Int)))
 (test (decide (al + nl ≤ ml ∧ nl ≤ 1000000))
 (test (re == (-1 : Int))
 (test (af == (0 : Int))
 (Kret (PV.tup
 [PV.agg
 [PV.int IntKind.i64 ca, PV.int IntKind.i64 af, PV.own (7) (3) nl,
 PV.int IntKind.i64 ov, PV.int IntKind.i64 af, PV.tf true],
 PV.int IntKind.i64 (0 : Int)]) ([[(0, false,
 Blk.cols ml [Col.int IntKind.i64 tl, Col.int IntKind.i64 vl, Col.bool gl]),
 (7, true,
 Blk.cols nl
 [Col.int IntKind.i64 fun (j : Nat) => tl (j + al),
 Col.int IntKind.i64 fun (j : Nat) => vl (j + al), Col.bool fun (j : Nat) => gl (j + al)])]]) (9))
 (Kret (PV.tup
 [PV.agg
 [PV.int IntKind.i64 ca, PV.int IntKind.i64 af, PV.own (7) (3) nl,
 PV.int IntKind.i64 ov, PV.int IntKind.i64 af, PV.tf false],
 PV.int IntKind.i64 (0 : Int)]) ([[(0, false,
 Blk.cols ml [Col.int IntKind.i64 tl, Col.int IntKind.i64 vl, Col.bool gl]),
 (7, true,
 Blk.cols nl
 [Col.int IntKind.i64 fun (j : Nat) => tl (j + al),
 Col.int IntKind.i64 fun (j : Nat) => vl (j + al), Col.bool fun (j : Nat) => gl (j + al)])]]) (9)))
 (Kret (PV.tup
 [PV.agg
 [PV.int IntKind.i64 ca, PV.int IntKind.i64 af, PV.own (7) (3) nl,
 PV.int IntKind.i64 ov, PV.int IntKind.i64 re, PV.bool fz],
 PV.int IntKind.i64 (0 : Int)]) ([[(0, false,
 Blk.cols ml [Col.int IntKind.i64 tl, Col.int IntKind.i64 vl, Col.bool gl]),
 (7, true,
 Blk.cols nl
 [Col.int IntKind.i64 fun (j : Nat) => tl (j + al),
 Col.int IntKind.i64 fun (j : Nat) => vl (j + al), Col.bool fun (j : Nat) => gl (j + al)])]]) (9)))
 (False))
 (Kret (PV.tup
 [PV.agg
 [PV.int IntKind.i64 (0 : Int), PV.int IntKind.i64 (0 : Int), PV.nils,
 PV.int IntKind.i64 (0 : Int), PV.int IntKind.i64 (0 : Int), PV.tf false],
 PV.int IntKind.i64 (6 : Int)]) ([[(0, false,
 Blk.cols ml [Col.int IntKind.i64 tl, Col.int IntKind.i64 vl, Col.bool gl])]]) (4)))
 (Kret (PV.tup
 [PV.agg
 [PV.int IntKind.i64 (0 : Int), PV.int IntKind.i64 (0 : Int), PV.nils,
 PV.int IntKind.i64 (0 : Int), PV.int IntKind.i64 (0 : Int), PV.tf false],
 PV.int IntKind.i64 (6 : Int)]) ([[(0, false,
 Blk.cols ml [Col.int IntKind.i64 tl, Col.int IntKind.i64 vl, Col.bool gl])]]) (4))))
 (False)
set_option maxRecDepth 100000 in
theorem te23 (test : Bool → Prop → Prop → Prop) (Kst : KS) (Kret : KR) (ca : Int) (af : Int) (al nl ml : Nat) (tl : Nat → Int) (vl : Nat → Int) (gl : Nat → Bool) (ov : Int) (re : Int) (fz : Bool) (t0 : Int) : run test Try.env true (xB test) true 400 ⟨23, [.cd (mkFn Try.f23).body], argT 0 [.agg [.int .i64 ca, .int .i64 af, .loose ⟨0, 3, al, 0⟩ nl, .int .i64 ov, .int .i64 re, .bool fz], .int .i64 t0], [[], [(0, (false, .cols ml [.int .i64 tl, .int .i64 vl, .bool gl]))]], 1⟩ (proj 1 [] Kst Kret) =
  Te23 test Kst Kret ca af al nl ml tl vl gl ov re fz t0 := by kernel_rfl
set_option maxRecDepth 100000 in
theorem be23 (ca : Int) (af : Int) (al nl ml : Nat) (tl : Nat → Int) (vl : Nat → Int) (gl : Nat → Bool) (ov : Int) (re : Int) (fz : Bool) (t0 : Int) (Kst : KS) (Kret : KR) (x : St23 ⊕ Rt23) (hS : HS 1 400 ((I23 ca af al nl ml tl vl gl ov re fz t0)) Kst x) (hR : HR 1 400 ((V23 ca af al nl ml tl vl gl ov re fz t0)) (fun r => [newL (1 + 1) ((N23 ca af al nl ml tl vl gl ov re fz t0) r) ++ [(0, (false, .cols ml [.int .i64 tl, .int .i64 vl, .bool gl]))]]) Kret x) (h : (bif (decide (al + nl ≤ ml ∧ nl ≤ 1000000))
 then (bif (S.vB ca af nl (fun (j : Nat) => tl (j + al)) (fun (j : Nat) => vl (j + al)) ov re fz != (0 : Int))
 then (some (.inr ((0 : Int), (0 : Int), (0 : Int), (0 : Int), false, S.vB ca af nl (fun (j : Nat) => tl (j + al)) (fun (j : Nat) => vl (j + al)) ov re fz, [])))
 else (bif (decide (t0 ≥ (0 : Int)))
 then (bif (decide (t0 ≤ (1099511627776 : Int)))
 then (bif (re == (-1 : Int))
 then (bif (af == (0 : Int))
 then (some (.inr (ca, af, ov, af, true, (0 : Int), S.mkl nl fun (j : Nat) => (tl (j + al), vl (j + al), gl (j + al)))))
 else (some (.inr (ca, af, ov, af, false, (0 : Int), S.mkl nl fun (j : Nat) => (tl (j + al), vl (j + al), gl (j + al))))))
 else (some (.inr (ca, af, ov, re, fz, (0 : Int), S.mkl nl fun (j : Nat) => (tl (j + al), vl (j + al), gl (j + al))))))
 else (some (.inr ((0 : Int), (0 : Int), (0 : Int), (0 : Int), false, (6 : Int), []))))
 else (some (.inr ((0 : Int), (0 : Int), (0 : Int), (0 : Int), false, (6 : Int), [])))))
 else (none) : Option (St23 ⊕ Rt23)) = some x) : Te23 cond Kst Kret ca af al nl ml tl vl gl ov re fz t0 := by
  unfold Te23
  exact bif_split h
   (fun c0 h => bif_split h
   (fun c1 h => ret_at hR _ h (fun n => bif Nat.beq n 2 then 399 else n) rfl rfl rfl (rn_tup ⟨(rn_agg ⟨(rn_int rfl), (rn_int rfl), (rn_own_nils rfl), (rn_int rfl), (rn_int rfl), (rn_bool_tf rfl), trivial⟩), (rn_int rfl), trivial⟩) rfl (entl_fresh (use_own rfl) (fresh_ok rfl) (entl_bor (use_lo rfl) rfl rfl entl_nil)))
   (fun c1 h => bif_split h
   (fun c2 h => bif_split h
   (fun c3 h => cond_yes c0 (bif_split h
   (fun c4 h => bif_split h
   (fun c5 h => ret_at hR _ h (fun n => bif Nat.beq n 2 then 7 else n) rfl rfl rfl (rn_tup ⟨(rn_agg ⟨(rn_int rfl), (rn_int rfl), (rn_own (use_own rfl) rfl mkl_len), (rn_int rfl), (rn_int rfl), (rn_bool_tf rfl), trivial⟩), (rn_int rfl), trivial⟩) rfl (entl_new (use_own rfl) rfl (Nat.le_of_eq mkl_len) (rcs_int (fun _ hj => col_mkl (fun (t : Int × Int × Bool) => t.1) hj) (rcs_int (fun _ hj => col_mkl (fun (t : Int × Int × Bool) => t.2.1) hj) (rcs_bool (fun _ hj => col_mkl (fun (t : Int × Int × Bool) => t.2.2) hj) rcs_nil))) (entl_bor (use_lo rfl) rfl rfl entl_nil)))
   (fun c5 h => ret_at hR _ h (fun n => bif Nat.beq n 2 then 7 else n) rfl rfl rfl (rn_tup ⟨(rn_agg ⟨(rn_int rfl), (rn_int rfl), (rn_own (use_own rfl) rfl mkl_len), (rn_int rfl), (rn_int rfl), (rn_bool_tf rfl), trivial⟩), (rn_int rfl), trivial⟩) rfl (entl_new (use_own rfl) rfl (Nat.le_of_eq mkl_len) (rcs_int (fun _ hj => col_mkl (fun (t : Int × Int × Bool) => t.1) hj) (rcs_int (fun _ hj => col_mkl (fun (t : Int × Int × Bool) => t.2.1) hj) (rcs_bool (fun _ hj => col_mkl (fun (t : Int × Int × Bool) => t.2.2) hj) rcs_nil))) (entl_bor (use_lo rfl) rfl rfl entl_nil))))
   (fun c4 h => ret_at hR _ h (fun n => bif Nat.beq n 2 then 7 else n) rfl rfl rfl (rn_tup ⟨(rn_agg ⟨(rn_int rfl), (rn_int rfl), (rn_own (use_own rfl) rfl mkl_len), (rn_int rfl), (rn_int rfl), (rn_bool rfl), trivial⟩), (rn_int rfl), trivial⟩) rfl (entl_new (use_own rfl) rfl (Nat.le_of_eq mkl_len) (rcs_int (fun _ hj => col_mkl (fun (t : Int × Int × Bool) => t.1) hj) (rcs_int (fun _ hj => col_mkl (fun (t : Int × Int × Bool) => t.2.1) hj) (rcs_bool (fun _ hj => col_mkl (fun (t : Int × Int × Bool) => t.2.2) hj) rcs_nil))) (entl_bor (use_lo rfl) rfl rfl entl_nil)))))
   (fun c3 h => ret_at hR _ h (fun n => bif Nat.beq n 2 then 399 else n) rfl rfl rfl (rn_tup ⟨(rn_agg ⟨(rn_int rfl), (rn_int rfl), (rn_own_nils rfl), (rn_int rfl), (rn_int rfl), (rn_bool_tf rfl), trivial⟩), (rn_int rfl), trivial⟩) rfl (entl_fresh (use_own rfl) (fresh_ok rfl) (entl_bor (use_lo rfl) rfl rfl entl_nil))))
   (fun c2 h => ret_at hR _ h (fun n => bif Nat.beq n 2 then 399 else n) rfl rfl rfl (rn_tup ⟨(rn_agg ⟨(rn_int rfl), (rn_int rfl), (rn_own_nils rfl), (rn_int rfl), (rn_int rfl), (rn_bool_tf rfl), trivial⟩), (rn_int rfl), trivial⟩) rfl (entl_fresh (use_own rfl) (fresh_ok rfl) (entl_bor (use_lo rfl) rfl rfl entl_nil)))))
   (fun c0 h => no_some h)
theorem a23 (ca : Int) (af : Int) (al nl ml : Nat) (tl : Nat → Int) (vl : Nat → Int) (gl : Nat → Bool) (ov : Int) (re : Int) (fz : Bool) (t0 : Int) {r : Rt23} (h : Goes ((q23 ca af al nl ml tl vl gl ov re fz t0)) ((p23 ca af al nl ml tl vl gl ov re fz t0)) r) : CallR Try.prog 23 [.agg [.int .i64 ca, .int .i64 af, .loose ⟨0, 3, al, 0⟩ nl, .int .i64 ov, .int .i64 re, .bool fz], .int .i64 t0] [[(0, (false, .cols ml [.int .i64 tl, .int .i64 vl, .bool gl]))]] 1 ((V23 ca af al nl ml tl vl gl ov re fz t0) r) ((fun r => [newL (1 + 1) ((N23 ca af al nl ml tl vl gl ov re fz t0) r) ++ [(0, (false, .cols ml [.int .i64 tl, .int .i64 vl, .bool gl]))]]) r) 400 ∧ ∃ F, Try.prog.funcs[23]? = some F ∧ F.body.isSome = true ∧ (F.name == "runtime.NumGoroutine") = false := by
  refine dec_calls (f := 23) (lo := 1) (hi := 400) (H := [[(0, (false, .cols ml [.int .i64 tl, .int .i64 vl, .bool gl]))]]) (args := [.agg [.int .i64 ca, .int .i64 af, .loose ⟨0, 3, al, 0⟩ nl, .int .i64 ov, .int .i64 re, .bool fz], .int .i64 t0]) Try.envOk Try.mixed xB_ok ((I23 ca af al nl ml tl vl gl ov re fz t0)) ((V23 ca af al nl ml tl vl gl ov re fz t0)) (fun r => [newL (1 + 1) ((N23 ca af al nl ml tl vl gl ov re fz t0) r) ++ [(0, (false, .cols ml [.int .i64 tl, .int .i64 vl, .bool gl]))]]) (fn := mkFn Try.f23) (ts := []) (n := 400) rfl (by decide) (by simp) (names_of rfl) ?_ ?_ ?_ h
  · intro s; exact s.elim
  · intro Kst Kret x hS hR h
    exact Holds.eq (te23 cond Kst Kret ca af al nl ml tl vl gl ov re fz t0) (be23 ca af al nl ml tl vl gl ov re fz t0 Kst Kret x hS hR h)
  · intro Kst Kret x hS hR s h; exact s.elim
noncomputable def k23 : Con := ⟨23, [.agg [.plain (.int .i64), .plain (.int .i64), .list [.int .i64, .int .i64, .bool], .plain (.int .i64), .plain (.int .i64), .plain (.bool)], .one (.plain (.int .i64))], fun (x : (Int × Int × (Nat × Nat × Nat × (Nat → Int) × (Nat → Int) × (Nat → Bool) × Unit) × Int × Int × Bool × Unit) × Int × Unit) => (fun (ca : Int) (af : Int) (al nl ml : Nat) (tl : Nat → Int) (vl : Nat → Int) (gl : Nat → Bool) (ov : Int) (re : Int) (fz : Bool) (t0 : Int) => decide (al + nl ≤ ml ∧ nl ≤ 1000000)) x.1.1 x.1.2.1 x.1.2.2.1.1 x.1.2.2.1.2.1 x.1.2.2.1.2.2.1 x.1.2.2.1.2.2.2.1 x.1.2.2.1.2.2.2.2.1 x.1.2.2.1.2.2.2.2.2.1 x.1.2.2.2.1 x.1.2.2.2.2.1 x.1.2.2.2.2.2.1 x.2.1, fun (x : (Int × Int × (Nat × Nat × Nat × (Nat → Int) × (Nat → Int) × (Nat → Bool) × Unit) × Int × Int × Bool × Unit) × Int × Unit) => (fun (ca : Int) (af : Int) (al nl ml : Nat) (tl : Nat → Int) (vl : Nat → Int) (gl : Nat → Bool) (ov : Int) (re : Int) (fz : Bool) (t0 : Int) => (V23 ca af al nl ml tl vl gl ov re fz t0) (S.frzS ca af nl (fun j => tl (j + al)) (fun j => vl (j + al)) (fun j => gl (j + al)) ov re fz t0)) x.1.1 x.1.2.1 x.1.2.2.1.1 x.1.2.2.1.2.1 x.1.2.2.1.2.2.1 x.1.2.2.1.2.2.2.1 x.1.2.2.1.2.2.2.2.1 x.1.2.2.1.2.2.2.2.2.1 x.1.2.2.2.1 x.1.2.2.2.2.1 x.1.2.2.2.2.2.1 x.2.1, fun (x : (Int × Int × (Nat × Nat × Nat × (Nat → Int) × (Nat → Int) × (Nat → Bool) × Unit) × Int × Int × Bool × Unit) × Int × Unit) => (fun (ca : Int) (af : Int) (al nl ml : Nat) (tl : Nat → Int) (vl : Nat → Int) (gl : Nat → Bool) (ov : Int) (re : Int) (fz : Bool) (t0 : Int) => (N23 ca af al nl ml tl vl gl ov re fz t0) (S.frzS ca af nl (fun j => tl (j + al)) (fun j => vl (j + al)) (fun j => gl (j + al)) ov re fz t0)) x.1.1 x.1.2.1 x.1.2.2.1.1 x.1.2.2.1.2.1 x.1.2.2.1.2.2.1 x.1.2.2.1.2.2.2.1 x.1.2.2.1.2.2.2.2.1 x.1.2.2.1.2.2.2.2.2.1 x.1.2.2.2.1 x.1.2.2.2.2.1 x.1.2.2.2.2.2.1 x.2.1, fun _ _ => .dead⟩
theorem s23 (ca : Int) (af : Int) (al nl ml : Nat) (tl : Nat → Int) (vl : Nat → Int) (gl : Nat → Bool) (ov : Int) (re : Int) (fz : Bool) (t0 : Int) (hp : al + nl ≤ ml ∧ nl ≤ 1000000) : Goes ((q23 ca af al nl ml tl vl gl ov re fz t0)) ((p23 ca af al nl ml tl vl gl ov re fz t0)) (S.frzS ca af nl (fun j => tl (j + al)) (fun j => vl (j + al)) (fun j => gl (j + al)) ov re fz t0) := by
  obtain ⟨hp1, hp2⟩ := hp
  have hv : S.vB ca af nl (fun j => tl (j + al)) (fun j => vl (j + al)) ov re fz = 0 → _ := vB_ok
  generalize he : S.vB ca af nl (fun j => tl (j + al)) (fun j => vl (j + al)) ov re fz = e at hv
  by_cases h0 : e = 0
  · obtain ⟨v1, v2, v3, v4, v5, v6, v7, v8, v9, v10, v11, v12, -⟩ := hv h0
    subst h0
    cases fz <;> simp only [Bool.false_eq_true, true_imp_iff, false_imp_iff, imp_false, eq_self, reduceCtorEq, Bool.true_eq_false] at v10 v11 <;> (
    show Goes _ _ _
    unfold p23; rw [he]
    repeat' first
      | with_reducible refine goes_if (fun h => ?_) (fun h => ?_) <;> (try simp only [lim64, decide_eq_true_eq, decide_eq_false_iff_not, Int.toNat_natCast, toNat_pred, toNat_succ, Option.getD_some, Option.getD_none, Bool.not_eq_true', Bool.not_eq_false', Bool.and_eq_true, Bool.or_eq_true, Bool.and_eq_false_iff, Bool.or_eq_false_iff, bne_iff_ne, beq_iff_eq, bne_eq_false_iff_eq, beq_eq_false_iff_ne, ne_eq, not_and, Int.not_le, Int.not_lt, ge_iff_le, gt_iff_lt, Nat.not_lt, Nat.not_le, Bool.not_eq_true, Bool.not_eq_false, Bool.true_eq_false, Bool.false_eq_true, not_false_eq_true, not_true_eq_false] at h)
      | exact goes_none.mpr (by omega)
    all_goals first | (exfalso; omega) | (refine goes_inr.mpr ?_; (try simp only [S.frzS, he, S.okS, decide_eq_true_eq, S.noB, Nat.add_assoc, Nat.zero_add, Nat.add_zero, toNat_pred]); (repeat' split) <;> first | rfl | omega | (exfalso; simp_all; done) | (exfalso; simp_all; omega)))
  · show Goes _ _ _
    unfold p23; rw [he]
    repeat' first
      | with_reducible refine goes_if (fun h => ?_) (fun h => ?_) <;> (try simp only [lim64, decide_eq_true_eq, decide_eq_false_iff_not, Int.toNat_natCast, toNat_pred, toNat_succ, Option.getD_some, Option.getD_none, Bool.not_eq_true', Bool.not_eq_false', Bool.and_eq_true, Bool.or_eq_true, Bool.and_eq_false_iff, Bool.or_eq_false_iff, bne_iff_ne, beq_iff_eq, bne_eq_false_iff_eq, beq_eq_false_iff_ne, ne_eq, not_and, Int.not_le, Int.not_lt, ge_iff_le, gt_iff_lt, Nat.not_lt, Nat.not_le, Bool.not_eq_true, Bool.not_eq_false, Bool.true_eq_false, Bool.false_eq_true, not_false_eq_true, not_true_eq_false] at h)
      | exact goes_none.mpr (by omega)
    all_goals first | (exfalso; omega) | (refine goes_inr.mpr ?_; (try simp only [S.frzS, he, S.okS, decide_eq_true_eq, S.noB, Nat.add_assoc, Nat.zero_add, Nat.add_zero, toNat_pred]); (repeat' split) <;> first | rfl | omega | (exfalso; simp_all; done) | (exfalso; simp_all; omega))

theorem k23_ok : k23.ok Try.prog := by
  intro x hx
  obtain ⟨⟨ca, af, ⟨al, nl, ml, tl, vl, gl, _⟩, ov, re, fz, _⟩, t0, _⟩ := x
  obtain ⟨h1, h2⟩ := a23 ca af al nl ml tl vl gl ov re fz t0 (s23 ca af al nl ml tl vl gl ov re fz t0 (of_dec hx rfl))
  exact ⟨⟨400, (by decide : 1 + 1 + 1 ≤ 400), h1⟩, h2⟩
abbrev St24 := Empty
abbrev Rt24 := Int × Int × Int × Int × Bool × Int × List (Int × Int × Bool)
noncomputable def V24 (ca : Int) (af : Int) (al nl ml : Nat) (tl : Nat → Int) (vl : Nat → Int) (gl : Nat → Bool) (ov : Int) (re : Int) (fz : Bool) (t0 : Int) (r : Rt24) : PV := PV.tup
 [PV.agg
 [PV.int IntKind.i64 r.1, PV.int IntKind.i64 r.2.1,
 PV.own (2) (3) (List.length r.2.2.2.2.2.2), PV.int IntKind.i64 r.2.2.1,
 PV.int IntKind.i64 r.2.2.2.1, PV.bool r.2.2.2.2.1],
 PV.int IntKind.i64 r.2.2.2.2.2.1]
noncomputable def N24 (ca : Int) (af : Int) (al nl ml : Nat) (tl : Nat → Int) (vl : Nat → Int) (gl : Nat → Bool) (ov : Int) (re : Int) (fz : Bool) (t0 : Int) (r : Rt24) : List Blk := [Blk.cols (List.length r.2.2.2.2.2.2)
 [Col.int IntKind.i64 fun (j : Nat) => (S.at' r.2.2.2.2.2.2 j).1,
 Col.int IntKind.i64 fun (j : Nat) => (S.at' r.2.2.2.2.2.2 j).2.1,
 Col.bool fun (j : Nat) => (S.at' r.2.2.2.2.2.2 j).2.2]]
noncomputable def I24 (ca : Int) (af : Int) (al nl ml : Nat) (tl : Nat → Int) (vl : Nat → Int) (gl : Nat → Bool) (ov : Int) (re : Int) (fz : Bool) (t0 : Int) : St24 → Hd := fun s => s.elim
noncomputable def q24 (ca : Int) (af : Int) (al nl ml : Nat) (tl : Nat → Int) (vl : Nat → Int) (gl : Nat → Bool) (ov : Int) (re : Int) (fz : Bool) (t0 : Int) : St24 → Option (St24 ⊕ Rt24) := fun s => s.elim
noncomputable def p24 (ca : Int) (af : Int) (al nl ml : Nat) (tl : Nat → Int) (vl : Nat → Int) (gl : Nat → Bool) (ov : Int) (re : Int) (fz : Bool) (t0 : Int) : Option (St24 ⊕ Rt24) := bif (decide (al + nl ≤ ml ∧ nl ≤ 1000000))
 then (bif (S.vB ca af nl (fun (j : Nat) => tl (j + al)) (fun (j : Nat) => vl (j + al)) ov re fz != (0 : Int))
 then (some (.inr ((0 : Int), (0 : Int), (0 : Int), (0 : Int), false, S.vB ca af nl (fun (j : Nat) => tl (j + al)) (fun (j : Nat) => vl (j + al)) ov re fz, [])))
 else (bif (decide (t0 < (0 : Int)))
 then (some (.inr ((0 : Int), (0 : Int), (0 : Int), (0 : Int), false, (6 : Int), [])))
 else (bif (decide (t0 > (1099511627776 : Int)))
 then (some (.inr ((0 : Int), (0 : Int), (0 : Int), (0 : Int), false, (6 : Int), [])))
 else (bif (decide (0 + nl ≤ 1000000))
 then (bif (decide (al + nl ≤ ml))
 then (bif (re == (-1 : Int))
 then (bif (af == (0 : Int))
 then (some (.inr (ca, af, ov, af, true, (0 : Int), S.mkl (0 + nl) fun (j : Nat) => (tl (j + al), vl (j + al), gl (j + al)))))
 else (some (.inr (ca, af, ov, af, false, (0 : Int), S.mkl (0 + nl) fun (j : Nat) => (tl (j + al), vl (j + al), gl (j + al))))))
 else (some (.inr (ca, af, ov, re, fz, (0 : Int), S.mkl (0 + nl) fun (j : Nat) => (tl (j + al), vl (j + al), gl (j + al))))))
 else (none))
 else (none)))))
 else (none)
noncomputable def Te24 (test : Bool → Prop → Prop → Prop) (Kst : KS) (Kret : KR) (ca : Int) (af : Int) (al nl ml : Nat) (tl : Nat → Int) (vl : Nat → Int) (gl : Nat → Bool) (ov : Int) (re : Int) (fz : Bool) (t0 : Int) : Prop :=
  test (decide (al + nl ≤ ml ∧ nl ≤ 1000000))
 (test (S.vB ca af nl (fun (j : Nat) => tl (j + al)) (fun (j : Nat) => vl (j + al)) ov re fz != (0 : Int))
 (Kret (PV.tup
 [PV.agg
 [PV.int IntKind.i64 (0 : Int), PV.int IntKind.i64 (0 : Int), PV.nils,
 PV.int IntKind.i64 (0 : Int), PV.int IntKind.i64 (0 : Int), PV.tf false],
 PV.int IntKind.i64
 (S.vB ca af nl (fun (j : Nat) => tl (j + al)) (fun (j : Nat) => vl (j + al)) ov re fz)]) ([[(0, false,
 Blk.cols ml [Col.int IntKind.i64 tl, Col.int IntKind.i64 vl, Col.bool gl])]]) (4))
 (test (decide (t0 < (0 : Int)))
 (Kret (PV.tup
 [PV.agg
 [PV.int IntKind.i64 (0 : Int), PV.int IntKind.i64 (0 : Int), PV.nils,
 PV.int IntKind.i64 (0 : Int), PV.int IntKind.i64 (0 : Int), PV.tf false],
 PV.int IntKind.i64 (6 : Int)]) ([[(0, false,
 Blk.cols ml [Col.int IntKind.i64 tl, Col.int IntKind.i64 vl, Col.bool gl])]]) (4))
 (test (decide (t0 > (1099511627776 : Int)))
 (Kret (PV.tup
 [PV.agg
 [PV.int IntKind.i64 (0 : Int), PV.int IntKind.i64 (0 : Int), PV.nils,
 PV.int IntKind.i64 (0 : Int), PV.int IntKind.i64 (0 : Int), PV.tf false],
 PV.int IntKind.i64 (6 : Int)]) ([[(0, false,
 Blk.cols ml [Col.int IntKind.i64 tl, Col.int IntKind.i64 vl, Col.bool gl])]]) (4))
 (test (decide (0 + nl ≤ 1000000))
 (test (true)
 (test (decide (al + nl ≤ ml))
 (test (re == (-1 : Int))
 (test (af == (0 : Int))
 (Kret (PV.tup
 [PV.agg
 [PV.int IntKind.i64 ca, PV.int IntKind.i64 af,
 PV.own (6) (3) (0 + nl), PV.int IntKind.i64 ov,
 PV.int IntKind.i64 af, PV.tf true],
 PV.int IntKind.i64 (0 : Int)]) ([[(0, false,
 Blk.cols ml [Col.int IntKind.i64 tl, Col.int IntKind.i64 vl, Col.bool gl]),
 (6, true,
 Blk.cols (0 + nl)
 [Col.int IntKind.i64 fun (j : Nat) => tl (j + al),
 Col.int IntKind.i64 fun (j : Nat) => vl (j + al), Col.bool fun (j : Nat) => gl (j + al)])]]) (7))
 (Kret (PV.tup
 [PV.agg
 [PV.int IntKind.i64 ca, PV.int IntKind.i64 af,
 PV.own (6) (3) (0 + nl), PV.int IntKind.i64 ov,
 PV.int IntKind.i64 af, PV.tf false],
 PV.int IntKind.i64 (0 : Int)]) ([[(0, false,
 Blk.cols ml [Col.int IntKind.i64 tl, Col.int IntKind.i64 vl, Col.bool gl]),
 (6, true,
 Blk.cols (0 + nl)
 [Col.int IntKind.i64 fun (j : Nat) => tl (j + al),
 Col.int IntKind.i64 fun (j : Nat) => vl (j + al), Col.bool fun (j : Nat) => gl (j + al)])]]) (7)))
 (Kret (PV.tup
 [PV.agg
 [PV.int IntKind.i64 ca, PV.int IntKind.i64 af,
 PV.own (6) (3) (0 + nl), PV.int IntKind.i64 ov,
 PV.int IntKind.i64 re, PV.bool fz],
 PV.int IntKind.i64 (0 : Int)]) ([[(0, false,
 Blk.cols ml [Col.int IntKind.i64 tl, Col.int IntKind.i64 vl, Col.bool gl]),
 (6, true,
 Blk.cols (0 + nl)
 [Col.int IntKind.i64 fun (j : Nat) => tl (j + al),
 Col.int IntKind.i64 fun (j : Nat) => vl (j + al), Col.bool fun (j : Nat) => gl (j + al)])]]) (7)))
 (False))
 (False))
 (False)))))
 (False)
set_option maxRecDepth 100000 in
theorem te24 (test : Bool → Prop → Prop → Prop) (Kst : KS) (Kret : KR) (ca : Int) (af : Int) (al nl ml : Nat) (tl : Nat → Int) (vl : Nat → Int) (gl : Nat → Bool) (ov : Int) (re : Int) (fz : Bool) (t0 : Int) : run test Try.env true (xB test) true 400 ⟨24, [.cd (mkFn Try.f24).body], argT 0 [.agg [.int .i64 ca, .int .i64 af, .loose ⟨0, 3, al, 0⟩ nl, .int .i64 ov, .int .i64 re, .bool fz], .int .i64 t0], [[], [(0, (false, .cols ml [.int .i64 tl, .int .i64 vl, .bool gl]))]], 1⟩ (proj 1 [] Kst Kret) =
  Te24 test Kst Kret ca af al nl ml tl vl gl ov re fz t0 := by kernel_rfl
set_option maxRecDepth 100000 in
theorem be24 (ca : Int) (af : Int) (al nl ml : Nat) (tl : Nat → Int) (vl : Nat → Int) (gl : Nat → Bool) (ov : Int) (re : Int) (fz : Bool) (t0 : Int) (Kst : KS) (Kret : KR) (x : St24 ⊕ Rt24) (hS : HS 1 400 ((I24 ca af al nl ml tl vl gl ov re fz t0)) Kst x) (hR : HR 1 400 ((V24 ca af al nl ml tl vl gl ov re fz t0)) (fun r => [newL (1 + 1) ((N24 ca af al nl ml tl vl gl ov re fz t0) r) ++ [(0, (false, .cols ml [.int .i64 tl, .int .i64 vl, .bool gl]))]]) Kret x) (h : (bif (decide (al + nl ≤ ml ∧ nl ≤ 1000000))
 then (bif (S.vB ca af nl (fun (j : Nat) => tl (j + al)) (fun (j : Nat) => vl (j + al)) ov re fz != (0 : Int))
 then (some (.inr ((0 : Int), (0 : Int), (0 : Int), (0 : Int), false, S.vB ca af nl (fun (j : Nat) => tl (j + al)) (fun (j : Nat) => vl (j + al)) ov re fz, [])))
 else (bif (decide (t0 < (0 : Int)))
 then (some (.inr ((0 : Int), (0 : Int), (0 : Int), (0 : Int), false, (6 : Int), [])))
 else (bif (decide (t0 > (1099511627776 : Int)))
 then (some (.inr ((0 : Int), (0 : Int), (0 : Int), (0 : Int), false, (6 : Int), [])))
 else (bif (decide (0 + nl ≤ 1000000))
 then (bif (decide (al + nl ≤ ml))
 then (bif (re == (-1 : Int))
 then (bif (af == (0 : Int))
 then (some (.inr (ca, af, ov, af, true, (0 : Int), S.mkl (0 + nl) fun (j : Nat) => (tl (j + al), vl (j + al), gl (j + al)))))
 else (some (.inr (ca, af, ov, af, false, (0 : Int), S.mkl (0 + nl) fun (j : Nat) => (tl (j + al), vl (j + al), gl (j + al))))))
 else (some (.inr (ca, af, ov, re, fz, (0 : Int), S.mkl (0 + nl) fun (j : Nat) => (tl (j + al), vl (j + al), gl (j + al))))))
 else (none))
 else (none)))))
 else (none) : Option (St24 ⊕ Rt24)) = some x) : Te24 cond Kst Kret ca af al nl ml tl vl gl ov re fz t0 := by
  unfold Te24
  exact bif_split h
   (fun c0 h => bif_split h
   (fun c1 h => ret_at hR _ h (fun n => bif Nat.beq n 2 then 399 else n) rfl rfl rfl (rn_tup ⟨(rn_agg ⟨(rn_int rfl), (rn_int rfl), (rn_own_nils rfl), (rn_int rfl), (rn_int rfl), (rn_bool_tf rfl), trivial⟩), (rn_int rfl), trivial⟩) rfl (entl_fresh (use_own rfl) (fresh_ok rfl) (entl_bor (use_lo rfl) rfl rfl entl_nil)))
   (fun c1 h => bif_split h
   (fun c2 h => ret_at hR _ h (fun n => bif Nat.beq n 2 then 399 else n) rfl rfl rfl (rn_tup ⟨(rn_agg ⟨(rn_int rfl), (rn_int rfl), (rn_own_nils rfl), (rn_int rfl), (rn_int rfl), (rn_bool_tf rfl), trivial⟩), (rn_int rfl), trivial⟩) rfl (entl_fresh (use_own rfl) (fresh_ok rfl) (entl_bor (use_lo rfl) rfl rfl entl_nil)))
   (fun c2 h => bif_split h
   (fun c3 h => ret_at hR _ h (fun n => bif Nat.beq n 2 then 399 else n) rfl rfl rfl (rn_tup ⟨(rn_agg ⟨(rn_int rfl), (rn_int rfl), (rn_own_nils rfl), (rn_int rfl), (rn_int rfl), (rn_bool_tf rfl), trivial⟩), (rn_int rfl), trivial⟩) rfl (entl_fresh (use_own rfl) (fresh_ok rfl) (entl_bor (use_lo rfl) rfl rfl entl_nil)))
   (fun c3 h => bif_split h
   (fun c4 h => cond_yes rfl (bif_split h
   (fun c5 h => bif_split h
   (fun c6 h => bif_split h
   (fun c7 h => ret_at hR _ h (fun n => bif Nat.beq n 2 then 6 else n) rfl rfl rfl (rn_tup ⟨(rn_agg ⟨(rn_int rfl), (rn_int rfl), (rn_own (use_own rfl) rfl mkl_len), (rn_int rfl), (rn_int rfl), (rn_bool_tf rfl), trivial⟩), (rn_int rfl), trivial⟩) rfl (entl_new (use_own rfl) rfl (Nat.le_of_eq mkl_len) (rcs_int (fun _ hj => col_mkl (fun (t : Int × Int × Bool) => t.1) hj) (rcs_int (fun _ hj => col_mkl (fun (t : Int × Int × Bool) => t.2.1) hj) (rcs_bool (fun _ hj => col_mkl (fun (t : Int × Int × Bool) => t.2.2) hj) rcs_nil))) (entl_bor (use_lo rfl) rfl rfl entl_nil)))
   (fun c7 h => ret_at hR _ h (fun n => bif Nat.beq n 2 then 6 else n) rfl rfl rfl (rn_tup ⟨(rn_agg ⟨(rn_int rfl), (rn_int rfl), (rn_own (use_own rfl) rfl mkl_len), (rn_int rfl), (rn_int rfl), (rn_bool_tf rfl), trivial⟩), (rn_int rfl), trivial⟩) rfl (entl_new (use_own rfl) rfl (Nat.le_of_eq mkl_len) (rcs_int (fun _ hj => col_mkl (fun (t : Int × Int × Bool) => t.1) hj) (rcs_int (fun _ hj => col_mkl (fun (t : Int × Int × Bool) => t.2.1) hj) (rcs_bool (fun _ hj => col_mkl (fun (t : Int × Int × Bool) => t.2.2) hj) rcs_nil))) (entl_bor (use_lo rfl) rfl rfl entl_nil))))
   (fun c6 h => ret_at hR _ h (fun n => bif Nat.beq n 2 then 6 else n) rfl rfl rfl (rn_tup ⟨(rn_agg ⟨(rn_int rfl), (rn_int rfl), (rn_own (use_own rfl) rfl mkl_len), (rn_int rfl), (rn_int rfl), (rn_bool rfl), trivial⟩), (rn_int rfl), trivial⟩) rfl (entl_new (use_own rfl) rfl (Nat.le_of_eq mkl_len) (rcs_int (fun _ hj => col_mkl (fun (t : Int × Int × Bool) => t.1) hj) (rcs_int (fun _ hj => col_mkl (fun (t : Int × Int × Bool) => t.2.1) hj) (rcs_bool (fun _ hj => col_mkl (fun (t : Int × Int × Bool) => t.2.2) hj) rcs_nil))) (entl_bor (use_lo rfl) rfl rfl entl_nil))))
   (fun c5 h => no_some h)))
   (fun c4 h => no_some h)))))
   (fun c0 h => no_some h)
theorem a24 (ca : Int) (af : Int) (al nl ml : Nat) (tl : Nat → Int) (vl : Nat → Int) (gl : Nat → Bool) (ov : Int) (re : Int) (fz : Bool) (t0 : Int) {r : Rt24} (h : Goes ((q24 ca af al nl ml tl vl gl ov re fz t0)) ((p24 ca af al nl ml tl vl gl ov re fz t0)) r) : CallR Try.prog 24 [.agg [.int .i64 ca, .int .i64 af, .loose ⟨0, 3, al, 0⟩ nl, .int .i64 ov, .int .i64 re, .bool fz], .int .i64 t0] [[(0, (false, .cols ml [.int .i64 tl, .int .i64 vl, .bool gl]))]] 1 ((V24 ca af al nl ml tl vl gl ov re fz t0) r) ((fun r => [newL (1 + 1) ((N24 ca af al nl ml tl vl gl ov re fz t0) r) ++ [(0, (false, .cols ml [.int .i64 tl, .int .i64 vl, .bool gl]))]]) r) 400 ∧ ∃ F, Try.prog.funcs[24]? = some F ∧ F.body.isSome = true ∧ (F.name == "runtime.NumGoroutine") = false := by
  refine dec_calls (f := 24) (lo := 1) (hi := 400) (H := [[(0, (false, .cols ml [.int .i64 tl, .int .i64 vl, .bool gl]))]]) (args := [.agg [.int .i64 ca, .int .i64 af, .loose ⟨0, 3, al, 0⟩ nl, .int .i64 ov, .int .i64 re, .bool fz], .int .i64 t0]) Try.envOk Try.mixed xB_ok ((I24 ca af al nl ml tl vl gl ov re fz t0)) ((V24 ca af al nl ml tl vl gl ov re fz t0)) (fun r => [newL (1 + 1) ((N24 ca af al nl ml tl vl gl ov re fz t0) r) ++ [(0, (false, .cols ml [.int .i64 tl, .int .i64 vl, .bool gl]))]]) (fn := mkFn Try.f24) (ts := []) (n := 400) rfl (by decide) (by simp) (names_of rfl) ?_ ?_ ?_ h
  · intro s; exact s.elim
  · intro Kst Kret x hS hR h
    exact Holds.eq (te24 cond Kst Kret ca af al nl ml tl vl gl ov re fz t0) (be24 ca af al nl ml tl vl gl ov re fz t0 Kst Kret x hS hR h)
  · intro Kst Kret x hS hR s h; exact s.elim
noncomputable def k24 : Con := ⟨24, [.agg [.plain (.int .i64), .plain (.int .i64), .list [.int .i64, .int .i64, .bool], .plain (.int .i64), .plain (.int .i64), .plain (.bool)], .one (.plain (.int .i64))], fun (x : (Int × Int × (Nat × Nat × Nat × (Nat → Int) × (Nat → Int) × (Nat → Bool) × Unit) × Int × Int × Bool × Unit) × Int × Unit) => (fun (ca : Int) (af : Int) (al nl ml : Nat) (tl : Nat → Int) (vl : Nat → Int) (gl : Nat → Bool) (ov : Int) (re : Int) (fz : Bool) (t0 : Int) => decide (al + nl ≤ ml ∧ nl ≤ 1000000)) x.1.1 x.1.2.1 x.1.2.2.1.1 x.1.2.2.1.2.1 x.1.2.2.1.2.2.1 x.1.2.2.1.2.2.2.1 x.1.2.2.1.2.2.2.2.1 x.1.2.2.1.2.2.2.2.2.1 x.1.2.2.2.1 x.1.2.2.2.2.1 x.1.2.2.2.2.2.1 x.2.1, fun (x : (Int × Int × (Nat × Nat × Nat × (Nat → Int) × (Nat → Int) × (Nat → Bool) × Unit) × Int × Int × Bool × Unit) × Int × Unit) => (fun (ca : Int) (af : Int) (al nl ml : Nat) (tl : Nat → Int) (vl : Nat → Int) (gl : Nat → Bool) (ov : Int) (re : Int) (fz : Bool) (t0 : Int) => (V24 ca af al nl ml tl vl gl ov re fz t0) (S.frzS ca af nl (fun j => tl (j + al)) (fun j => vl (j + al)) (fun j => gl (j + al)) ov re fz t0)) x.1.1 x.1.2.1 x.1.2.2.1.1 x.1.2.2.1.2.1 x.1.2.2.1.2.2.1 x.1.2.2.1.2.2.2.1 x.1.2.2.1.2.2.2.2.1 x.1.2.2.1.2.2.2.2.2.1 x.1.2.2.2.1 x.1.2.2.2.2.1 x.1.2.2.2.2.2.1 x.2.1, fun (x : (Int × Int × (Nat × Nat × Nat × (Nat → Int) × (Nat → Int) × (Nat → Bool) × Unit) × Int × Int × Bool × Unit) × Int × Unit) => (fun (ca : Int) (af : Int) (al nl ml : Nat) (tl : Nat → Int) (vl : Nat → Int) (gl : Nat → Bool) (ov : Int) (re : Int) (fz : Bool) (t0 : Int) => (N24 ca af al nl ml tl vl gl ov re fz t0) (S.frzS ca af nl (fun j => tl (j + al)) (fun j => vl (j + al)) (fun j => gl (j + al)) ov re fz t0)) x.1.1 x.1.2.1 x.1.2.2.1.1 x.1.2.2.1.2.1 x.1.2.2.1.2.2.1 x.1.2.2.1.2.2.2.1 x.1.2.2.1.2.2.2.2.1 x.1.2.2.1.2.2.2.2.2.1 x.1.2.2.2.1 x.1.2.2.2.2.1 x.1.2.2.2.2.2.1 x.2.1, fun _ _ => .dead⟩
theorem s24 (ca : Int) (af : Int) (al nl ml : Nat) (tl : Nat → Int) (vl : Nat → Int) (gl : Nat → Bool) (ov : Int) (re : Int) (fz : Bool) (t0 : Int) (hp : al + nl ≤ ml ∧ nl ≤ 1000000) : Goes ((q24 ca af al nl ml tl vl gl ov re fz t0)) ((p24 ca af al nl ml tl vl gl ov re fz t0)) (S.frzS ca af nl (fun j => tl (j + al)) (fun j => vl (j + al)) (fun j => gl (j + al)) ov re fz t0) := by
  obtain ⟨hp1, hp2⟩ := hp
  have hv : S.vB ca af nl (fun j => tl (j + al)) (fun j => vl (j + al)) ov re fz = 0 → _ := vB_ok
  generalize he : S.vB ca af nl (fun j => tl (j + al)) (fun j => vl (j + al)) ov re fz = e at hv
  by_cases h0 : e = 0
  · obtain ⟨v1, v2, v3, v4, v5, v6, v7, v8, v9, v10, v11, v12, -⟩ := hv h0
    subst h0
    cases fz <;> simp only [Bool.false_eq_true, true_imp_iff, false_imp_iff, imp_false, eq_self, reduceCtorEq, Bool.true_eq_false] at v10 v11 <;> (
    show Goes _ _ _
    unfold p24; rw [he]
    repeat' first
      | with_reducible refine goes_if (fun h => ?_) (fun h => ?_) <;> (try simp only [lim64, decide_eq_true_eq, decide_eq_false_iff_not, Int.toNat_natCast, toNat_pred, toNat_succ, Option.getD_some, Option.getD_none, Bool.not_eq_true', Bool.not_eq_false', Bool.and_eq_true, Bool.or_eq_true, Bool.and_eq_false_iff, Bool.or_eq_false_iff, bne_iff_ne, beq_iff_eq, bne_eq_false_iff_eq, beq_eq_false_iff_ne, ne_eq, not_and, Int.not_le, Int.not_lt, ge_iff_le, gt_iff_lt, Nat.not_lt, Nat.not_le, Bool.not_eq_true, Bool.not_eq_false, Bool.true_eq_false, Bool.false_eq_true, not_false_eq_true, not_true_eq_false] at h)
      | exact goes_none.mpr (by omega)
    all_goals first | (exfalso; omega) | (refine goes_inr.mpr ?_; (try simp only [S.frzS, he, S.okS, decide_eq_true_eq, S.noB, Nat.add_assoc, Nat.zero_add, Nat.add_zero, toNat_pred]); (repeat' split) <;> first | rfl | omega | (exfalso; simp_all; done) | (exfalso; simp_all; omega)))
  · show Goes _ _ _
    unfold p24; rw [he]
    repeat' first
      | with_reducible refine goes_if (fun h => ?_) (fun h => ?_) <;> (try simp only [lim64, decide_eq_true_eq, decide_eq_false_iff_not, Int.toNat_natCast, toNat_pred, toNat_succ, Option.getD_some, Option.getD_none, Bool.not_eq_true', Bool.not_eq_false', Bool.and_eq_true, Bool.or_eq_true, Bool.and_eq_false_iff, Bool.or_eq_false_iff, bne_iff_ne, beq_iff_eq, bne_eq_false_iff_eq, beq_eq_false_iff_ne, ne_eq, not_and, Int.not_le, Int.not_lt, ge_iff_le, gt_iff_lt, Nat.not_lt, Nat.not_le, Bool.not_eq_true, Bool.not_eq_false, Bool.true_eq_false, Bool.false_eq_true, not_false_eq_true, not_true_eq_false] at h)
      | exact goes_none.mpr (by omega)
    all_goals first | (exfalso; omega) | (refine goes_inr.mpr ?_; (try simp only [S.frzS, he, S.okS, decide_eq_true_eq, S.noB, Nat.add_assoc, Nat.zero_add, Nat.add_zero, toNat_pred]); (repeat' split) <;> first | rfl | omega | (exfalso; simp_all; done) | (exfalso; simp_all; omega))

theorem k24_ok : k24.ok Try.prog := by
  intro x hx
  obtain ⟨⟨ca, af, ⟨al, nl, ml, tl, vl, gl, _⟩, ov, re, fz, _⟩, t0, _⟩ := x
  obtain ⟨h1, h2⟩ := a24 ca af al nl ml tl vl gl ov re fz t0 (s24 ca af al nl ml tl vl gl ov re fz t0 (of_dec hx rfl))
  exact ⟨⟨400, (by decide : 1 + 1 + 1 ≤ 400), h1⟩, h2⟩
abbrev St25 := Empty
abbrev Rt25 := Int × Int × Int × Int
noncomputable def V25 (ca : Int) (af : Int) (al nl ml : Nat) (tl : Nat → Int) (vl : Nat → Int) (gl : Nat → Bool) (ov : Int) (re : Int) (fz : Bool) (r : Rt25) : PV := PV.tup
 [PV.agg
 [PV.int IntKind.i64 r.1, PV.int IntKind.i64 r.2.1, PV.nils,
 PV.int IntKind.i64 (0 : Int), PV.int IntKind.i64 r.2.2.1, PV.tf false],
 PV.int IntKind.i64 r.2.2.2]
noncomputable def N25 (ca : Int) (af : Int) (al nl ml : Nat) (tl : Nat → Int) (vl : Nat → Int) (gl : Nat → Bool) (ov : Int) (re : Int) (fz : Bool) (r : Rt25) : List Blk := []
noncomputable def I25 (ca : Int) (af : Int) (al nl ml : Nat) (tl : Nat → Int) (vl : Nat → Int) (gl : Nat → Bool) (ov : Int) (re : Int) (fz : Bool) : St25 → Hd := fun s => s.elim
noncomputable def q25 (ca : Int) (af : Int) (al nl ml : Nat) (tl : Nat → Int) (vl : Nat → Int) (gl : Nat → Bool) (ov : Int) (re : Int) (fz : Bool) : St25 → Option (St25 ⊕ Rt25) := fun s => s.elim
noncomputable def p25 (ca : Int) (af : Int) (al nl ml : Nat) (tl : Nat → Int) (vl : Nat → Int) (gl : Nat → Bool) (ov : Int) (re : Int) (fz : Bool) : Option (St25 ⊕ Rt25) := bif (decide (al + nl ≤ ml ∧ nl ≤ 1000000))
 then (bif (S.vB ca af nl (fun (j : Nat) => tl (j + al)) (fun (j : Nat) => vl (j + al)) ov re fz != (0 : Int))
 then (some (.inr ((0 : Int), (0 : Int), (0 : Int), S.vB ca af nl (fun (j : Nat) => tl (j + al)) (fun (j : Nat) => vl (j + al)) ov re fz)))
 else (bif (fz)
 then (some (.inr (ca, af, (-1 : Int), (0 : Int))))
 else (some (.inr ((0 : Int), (0 : Int), (0 : Int), (8 : Int))))))
 else (none)
noncomputable def Te25 (test : Bool → Prop → Prop → Prop) (Kst : KS) (Kret : KR) (ca : Int) (af : Int) (al nl ml : Nat) (tl : Nat → Int) (vl : Nat → Int) (gl : Nat → Bool) (ov : Int) (re : Int) (fz : Bool) : Prop :=
  test (decide (al + nl ≤ ml ∧ nl ≤ 1000000))
 (test (S.vB ca af nl (fun (j : Nat) => tl (j + al)) (fun (j : Nat) => vl (j + al)) ov re fz != (0 : Int))
 (Kret (PV.tup
 [PV.agg
 [PV.int IntKind.i64 (0 : Int), PV.int IntKind.i64 (0 : Int), PV.nils,
 PV.int IntKind.i64 (0 : Int), PV.int IntKind.i64 (0 : Int), PV.tf false],
 PV.int IntKind.i64
 (S.vB ca af nl (fun (j : Nat) => tl (j + al)) (fun (j : Nat) => vl (j + al)) ov re fz)]) ([[(0, false,
 Blk.cols ml [Col.int IntKind.i64 tl, Col.int IntKind.i64 vl, Col.bool gl])]]) (4))
 (test (fz)
 (Kret (PV.tup
 [PV.agg
 [PV.int IntKind.i64 ca, PV.int IntKind.i64 af, PV.nils,
 PV.int IntKind.i64 (0 : Int), PV.int IntKind.i64 (-1 : Int), PV.tf false],
 PV.int IntKind.i64 (0 : Int)]) ([[(0, false,
 Blk.cols ml [Col.int IntKind.i64 tl, Col.int IntKind.i64 vl, Col.bool gl])]]) (5))
 (Kret (PV.tup
 [PV.agg
 [PV.int IntKind.i64 (0 : Int), PV.int IntKind.i64 (0 : Int), PV.nils,
 PV.int IntKind.i64 (0 : Int), PV.int IntKind.i64 (0 : Int), PV.tf false],
 PV.int IntKind.i64 (8 : Int)]) ([[(0, false,
 Blk.cols ml [Col.int IntKind.i64 tl, Col.int IntKind.i64 vl, Col.bool gl])]]) (4))))
 (False)
set_option maxRecDepth 100000 in
theorem te25 (test : Bool → Prop → Prop → Prop) (Kst : KS) (Kret : KR) (ca : Int) (af : Int) (al nl ml : Nat) (tl : Nat → Int) (vl : Nat → Int) (gl : Nat → Bool) (ov : Int) (re : Int) (fz : Bool) : run test Try.env true (xB test) true 400 ⟨25, [.cd (mkFn Try.f25).body], argT 0 [.agg [.int .i64 ca, .int .i64 af, .loose ⟨0, 3, al, 0⟩ nl, .int .i64 ov, .int .i64 re, .bool fz]], [[], [(0, (false, .cols ml [.int .i64 tl, .int .i64 vl, .bool gl]))]], 1⟩ (proj 1 [] Kst Kret) =
  Te25 test Kst Kret ca af al nl ml tl vl gl ov re fz := by kernel_rfl
set_option maxRecDepth 100000 in
theorem be25 (ca : Int) (af : Int) (al nl ml : Nat) (tl : Nat → Int) (vl : Nat → Int) (gl : Nat → Bool) (ov : Int) (re : Int) (fz : Bool) (Kst : KS) (Kret : KR) (x : St25 ⊕ Rt25) (hS : HS 1 400 ((I25 ca af al nl ml tl vl gl ov re fz)) Kst x) (hR : HR 1 400 ((V25 ca af al nl ml tl vl gl ov re fz)) (fun r => [newL (1 + 1) ((N25 ca af al nl ml tl vl gl ov re fz) r) ++ [(0, (false, .cols ml [.int .i64 tl, .int .i64 vl, .bool gl]))]]) Kret x) (h : (bif (decide (al + nl ≤ ml ∧ nl ≤ 1000000))
 then (bif (S.vB ca af nl (fun (j : Nat) => tl (j + al)) (fun (j : Nat) => vl (j + al)) ov re fz != (0 : Int))
 then (some (.inr ((0 : Int), (0 : Int), (0 : Int), S.vB ca af nl (fun (j : Nat) => tl (j + al)) (fun (j : Nat) => vl (j + al)) ov re fz)))
 else (bif (fz)
 then (some (.inr (ca, af, (-1 : Int), (0 : Int))))
 else (some (.inr ((0 : Int), (0 : Int), (0 : Int), (8 : Int))))))
 else (none) : Option (St25 ⊕ Rt25)) = some x) : Te25 cond Kst Kret ca af al nl ml tl vl gl ov re fz := by
  unfold Te25
  exact bif_split h
   (fun c0 h => bif_split h
   (fun c1 h => ret_at hR _ h (fun n => n) rfl rfl rfl (rn_tup ⟨(rn_agg ⟨(rn_int rfl), (rn_int rfl), rn_nils, (rn_int rfl), (rn_int rfl), (rn_tf rfl), trivial⟩), (rn_int rfl), trivial⟩) rfl (entl_bor (use_lo rfl) rfl rfl entl_nil))
   (fun c1 h => bif_split h
   (fun c2 h => ret_at hR _ h (fun n => n) rfl rfl rfl (rn_tup ⟨(rn_agg ⟨(rn_int rfl), (rn_int rfl), rn_nils, (rn_int rfl), (rn_int rfl), (rn_tf rfl), trivial⟩), (rn_int rfl), trivial⟩) rfl (entl_bor (use_lo rfl) rfl rfl entl_nil))
   (fun c2 h => ret_at hR _ h (fun n => n) rfl rfl rfl (rn_tup ⟨(rn_agg ⟨(rn_int rfl), (rn_int rfl), rn_nils, (rn_int rfl), (rn_int rfl), (rn_tf rfl), trivial⟩), (rn_int rfl), trivial⟩) rfl (entl_bor (use_lo rfl) rfl rfl entl_nil))))
   (fun c0 h => no_some h)
theorem a25 (ca : Int) (af : Int) (al nl ml : Nat) (tl : Nat → Int) (vl : Nat → Int) (gl : Nat → Bool) (ov : Int) (re : Int) (fz : Bool) {r : Rt25} (h : Goes ((q25 ca af al nl ml tl vl gl ov re fz)) ((p25 ca af al nl ml tl vl gl ov re fz)) r) : CallR Try.prog 25 [.agg [.int .i64 ca, .int .i64 af, .loose ⟨0, 3, al, 0⟩ nl, .int .i64 ov, .int .i64 re, .bool fz]] [[(0, (false, .cols ml [.int .i64 tl, .int .i64 vl, .bool gl]))]] 1 ((V25 ca af al nl ml tl vl gl ov re fz) r) ((fun r => [newL (1 + 1) ((N25 ca af al nl ml tl vl gl ov re fz) r) ++ [(0, (false, .cols ml [.int .i64 tl, .int .i64 vl, .bool gl]))]]) r) 400 ∧ ∃ F, Try.prog.funcs[25]? = some F ∧ F.body.isSome = true ∧ (F.name == "runtime.NumGoroutine") = false := by
  refine dec_calls (f := 25) (lo := 1) (hi := 400) (H := [[(0, (false, .cols ml [.int .i64 tl, .int .i64 vl, .bool gl]))]]) (args := [.agg [.int .i64 ca, .int .i64 af, .loose ⟨0, 3, al, 0⟩ nl, .int .i64 ov, .int .i64 re, .bool fz]]) Try.envOk Try.mixed xB_ok ((I25 ca af al nl ml tl vl gl ov re fz)) ((V25 ca af al nl ml tl vl gl ov re fz)) (fun r => [newL (1 + 1) ((N25 ca af al nl ml tl vl gl ov re fz) r) ++ [(0, (false, .cols ml [.int .i64 tl, .int .i64 vl, .bool gl]))]]) (fn := mkFn Try.f25) (ts := []) (n := 400) rfl (by decide) (by simp) (names_of rfl) ?_ ?_ ?_ h
  · intro s; exact s.elim
  · intro Kst Kret x hS hR h
    exact Holds.eq (te25 cond Kst Kret ca af al nl ml tl vl gl ov re fz) (be25 ca af al nl ml tl vl gl ov re fz Kst Kret x hS hR h)
  · intro Kst Kret x hS hR s h; exact s.elim
noncomputable def k25 : Con := ⟨25, [.agg [.plain (.int .i64), .plain (.int .i64), .list [.int .i64, .int .i64, .bool], .plain (.int .i64), .plain (.int .i64), .plain (.bool)]], fun (x : (Int × Int × (Nat × Nat × Nat × (Nat → Int) × (Nat → Int) × (Nat → Bool) × Unit) × Int × Int × Bool × Unit) × Unit) => (fun (ca : Int) (af : Int) (al nl ml : Nat) (tl : Nat → Int) (vl : Nat → Int) (gl : Nat → Bool) (ov : Int) (re : Int) (fz : Bool) => decide (al + nl ≤ ml ∧ nl ≤ 1000000)) x.1.1 x.1.2.1 x.1.2.2.1.1 x.1.2.2.1.2.1 x.1.2.2.1.2.2.1 x.1.2.2.1.2.2.2.1 x.1.2.2.1.2.2.2.2.1 x.1.2.2.1.2.2.2.2.2.1 x.1.2.2.2.1 x.1.2.2.2.2.1 x.1.2.2.2.2.2.1, fun (x : (Int × Int × (Nat × Nat × Nat × (Nat → Int) × (Nat → Int) × (Nat → Bool) × Unit) × Int × Int × Bool × Unit) × Unit) => (fun (ca : Int) (af : Int) (al nl ml : Nat) (tl : Nat → Int) (vl : Nat → Int) (gl : Nat → Bool) (ov : Int) (re : Int) (fz : Bool) => (V25 ca af al nl ml tl vl gl ov re fz) (S.reaS ca af nl (fun j => tl (j + al)) (fun j => vl (j + al)) ov re fz)) x.1.1 x.1.2.1 x.1.2.2.1.1 x.1.2.2.1.2.1 x.1.2.2.1.2.2.1 x.1.2.2.1.2.2.2.1 x.1.2.2.1.2.2.2.2.1 x.1.2.2.1.2.2.2.2.2.1 x.1.2.2.2.1 x.1.2.2.2.2.1 x.1.2.2.2.2.2.1, fun (x : (Int × Int × (Nat × Nat × Nat × (Nat → Int) × (Nat → Int) × (Nat → Bool) × Unit) × Int × Int × Bool × Unit) × Unit) => (fun (ca : Int) (af : Int) (al nl ml : Nat) (tl : Nat → Int) (vl : Nat → Int) (gl : Nat → Bool) (ov : Int) (re : Int) (fz : Bool) => (N25 ca af al nl ml tl vl gl ov re fz) (S.reaS ca af nl (fun j => tl (j + al)) (fun j => vl (j + al)) ov re fz)) x.1.1 x.1.2.1 x.1.2.2.1.1 x.1.2.2.1.2.1 x.1.2.2.1.2.2.1 x.1.2.2.1.2.2.2.1 x.1.2.2.1.2.2.2.2.1 x.1.2.2.1.2.2.2.2.2.1 x.1.2.2.2.1 x.1.2.2.2.2.1 x.1.2.2.2.2.2.1, fun _ _ => .dead⟩
theorem s25 (ca : Int) (af : Int) (al nl ml : Nat) (tl : Nat → Int) (vl : Nat → Int) (gl : Nat → Bool) (ov : Int) (re : Int) (fz : Bool) (hp : al + nl ≤ ml ∧ nl ≤ 1000000) : Goes ((q25 ca af al nl ml tl vl gl ov re fz)) ((p25 ca af al nl ml tl vl gl ov re fz)) (S.reaS ca af nl (fun j => tl (j + al)) (fun j => vl (j + al)) ov re fz) := by
  obtain ⟨hp1, hp2⟩ := hp
  have hv : S.vB ca af nl (fun j => tl (j + al)) (fun j => vl (j + al)) ov re fz = 0 → _ := vB_ok
  generalize he : S.vB ca af nl (fun j => tl (j + al)) (fun j => vl (j + al)) ov re fz = e at hv
  by_cases h0 : e = 0
  · obtain ⟨v1, v2, v3, v4, v5, v6, v7, v8, v9, v10, v11, v12, -⟩ := hv h0
    subst h0
    cases fz <;> simp only [Bool.false_eq_true, true_imp_iff, false_imp_iff, imp_false, eq_self, reduceCtorEq, Bool.true_eq_false] at v10 v11 <;> (
    show Goes _ _ _
    unfold p25; rw [he]
    repeat' first
      | with_reducible refine goes_if (fun h => ?_) (fun h => ?_) <;> (try simp only [lim64, decide_eq_true_eq, decide_eq_false_iff_not, Int.toNat_natCast, toNat_pred, toNat_succ, Option.getD_some, Option.getD_none, Bool.not_eq_true', Bool.not_eq_false', Bool.and_eq_true, Bool.or_eq_true, Bool.and_eq_false_iff, Bool.or_eq_false_iff, bne_iff_ne, beq_iff_eq, bne_eq_false_iff_eq, beq_eq_false_iff_ne, ne_eq, not_and, Int.not_le, Int.not_lt, ge_iff_le, gt_iff_lt, Nat.not_lt, Nat.not_le, Bool.not_eq_true, Bool.not_eq_false, Bool.true_eq_false, Bool.false_eq_true, not_false_eq_true, not_true_eq_false] at h)
      | exact goes_none.mpr (by omega)
    all_goals first | (exfalso; omega) | (refine goes_inr.mpr ?_; (try simp only [S.reaS, he, S.okS, decide_eq_true_eq, S.noB, Nat.add_assoc, Nat.zero_add, Nat.add_zero, toNat_pred]); (repeat' split) <;> first | rfl | omega | (exfalso; simp_all; done) | (exfalso; simp_all; omega)))
  · show Goes _ _ _
    unfold p25; rw [he]
    repeat' first
      | with_reducible refine goes_if (fun h => ?_) (fun h => ?_) <;> (try simp only [lim64, decide_eq_true_eq, decide_eq_false_iff_not, Int.toNat_natCast, toNat_pred, toNat_succ, Option.getD_some, Option.getD_none, Bool.not_eq_true', Bool.not_eq_false', Bool.and_eq_true, Bool.or_eq_true, Bool.and_eq_false_iff, Bool.or_eq_false_iff, bne_iff_ne, beq_iff_eq, bne_eq_false_iff_eq, beq_eq_false_iff_ne, ne_eq, not_and, Int.not_le, Int.not_lt, ge_iff_le, gt_iff_lt, Nat.not_lt, Nat.not_le, Bool.not_eq_true, Bool.not_eq_false, Bool.true_eq_false, Bool.false_eq_true, not_false_eq_true, not_true_eq_false] at h)
      | exact goes_none.mpr (by omega)
    all_goals first | (exfalso; omega) | (refine goes_inr.mpr ?_; (try simp only [S.reaS, he, S.okS, decide_eq_true_eq, S.noB, Nat.add_assoc, Nat.zero_add, Nat.add_zero, toNat_pred]); (repeat' split) <;> first | rfl | omega | (exfalso; simp_all; done) | (exfalso; simp_all; omega))

theorem k25_ok : k25.ok Try.prog := by
  intro x hx
  obtain ⟨⟨ca, af, ⟨al, nl, ml, tl, vl, gl, _⟩, ov, re, fz, _⟩, _⟩ := x
  obtain ⟨h1, h2⟩ := a25 ca af al nl ml tl vl gl ov re fz (s25 ca af al nl ml tl vl gl ov re fz (of_dec hx rfl))
  exact ⟨⟨400, (by decide : 1 + 1 + 0 ≤ 400), h1⟩, h2⟩
abbrev St26 := Empty
abbrev Rt26 := Int × Int × Int × Int
noncomputable def V26 (ca : Int) (af : Int) (al nl ml : Nat) (tl : Nat → Int) (vl : Nat → Int) (gl : Nat → Bool) (ov : Int) (re : Int) (fz : Bool) (r : Rt26) : PV := PV.tup
 [PV.agg
 [PV.int IntKind.i64 r.1, PV.int IntKind.i64 r.2.1, PV.nils,
 PV.int IntKind.i64 (0 : Int), PV.int IntKind.i64 r.2.2.1, PV.tf false],
 PV.int IntKind.i64 r.2.2.2]
noncomputable def N26 (ca : Int) (af : Int) (al nl ml : Nat) (tl : Nat → Int) (vl : Nat → Int) (gl : Nat → Bool) (ov : Int) (re : Int) (fz : Bool) (r : Rt26) : List Blk := []
noncomputable def I26 (ca : Int) (af : Int) (al nl ml : Nat) (tl : Nat → Int) (vl : Nat → Int) (gl : Nat → Bool) (ov : Int) (re : Int) (fz : Bool) : St26 → Hd := fun s => s.elim
noncomputable def q26 (ca : Int) (af : Int) (al nl ml : Nat) (tl : Nat → Int) (vl : Nat → Int) (gl : Nat → Bool) (ov : Int) (re : Int) (fz : Bool) : St26 → Option (St26 ⊕ Rt26) := fun s => s.elim
noncomputable def p26 (ca : Int) (af : Int) (al nl ml : Nat) (tl : Nat → Int) (vl : Nat → Int) (gl : Nat → Bool) (ov : Int) (re : Int) (fz : Bool) : Option (St26 ⊕ Rt26) := bif (decide (al + nl ≤ ml ∧ nl ≤ 1000000))
 then (bif (S.vB ca af nl (fun (j : Nat) => tl (j + al)) (fun (j : Nat) => vl (j + al)) ov re fz != (0 : Int))
 then (some (.inr ((0 : Int), (0 : Int), (0 : Int), S.vB ca af nl (fun (j : Nat) => tl (j + al)) (fun (j : Nat) => vl (j + al)) ov re fz)))
 else (bif (fz)
 then (bif (decide (ca < (1 : Int)))
 then (some (.inr ((0 : Int), (0 : Int), (0 : Int), (6 : Int))))
 else (bif (decide (ca > (200 : Int)))
 then (some (.inr ((0 : Int), (0 : Int), (0 : Int), (6 : Int))))
 else (bif (decide (af < (0 : Int)))
 then (some (.inr ((0 : Int), (0 : Int), (0 : Int), (6 : Int))))
 else (bif (decide (af > (200 : Int)))
 then (some (.inr ((0 : Int), (0 : Int), (0 : Int), (6 : Int))))
 else (some (.inr (ca, af, (-1 : Int), (0 : Int))))))))
 else (some (.inr ((0 : Int), (0 : Int), (0 : Int), (8 : Int))))))
 else (none)
noncomputable def Te26 (test : Bool → Prop → Prop → Prop) (Kst : KS) (Kret : KR) (ca : Int) (af : Int) (al nl ml : Nat) (tl : Nat → Int) (vl : Nat → Int) (gl : Nat → Bool) (ov : Int) (re : Int) (fz : Bool) : Prop :=
  test (decide (al + nl ≤ ml ∧ nl ≤ 1000000))
 (test (S.vB ca af nl (fun (j : Nat) => tl (j + al)) (fun (j : Nat) => vl (j + al)) ov re fz != (0 : Int))
 (Kret (PV.tup
 [PV.agg
 [PV.int IntKind.i64 (0 : Int), PV.int IntKind.i64 (0 : Int), PV.nils,
 PV.int IntKind.i64 (0 : Int), PV.int IntKind.i64 (0 : Int), PV.tf false],
 PV.int IntKind.i64
 (S.vB ca af nl (fun (j : Nat) => tl (j + al)) (fun (j : Nat) => vl (j + al)) ov re fz)]) ([[(0, false,
 Blk.cols ml [Col.int IntKind.i64 tl, Col.int IntKind.i64 vl, Col.bool gl])]]) (4))
 (test (fz)
 (test (decide (ca < (1 : Int)))
 (Kret (PV.tup
 [PV.agg
 [PV.int IntKind.i64 (0 : Int), PV.int IntKind.i64 (0 : Int), PV.nils,
 PV.int IntKind.i64 (0 : Int), PV.int IntKind.i64 (0 : Int), PV.tf false],
 PV.int IntKind.i64 (6 : Int)]) ([[(0, false,
 Blk.cols ml [Col.int IntKind.i64 tl, Col.int IntKind.i64 vl, Col.bool gl])]]) (5))
 (test (decide (ca > (200 : Int)))
 (Kret (PV.tup
 [PV.agg
 [PV.int IntKind.i64 (0 : Int), PV.int IntKind.i64 (0 : Int), PV.nils,
 PV.int IntKind.i64 (0 : Int), PV.int IntKind.i64 (0 : Int), PV.tf false],
 PV.int IntKind.i64 (6 : Int)]) ([[(0, false,
 Blk.cols ml [Col.int IntKind.i64 tl, Col.int IntKind.i64 vl, Col.bool gl])]]) (5))
 (test (decide (af < (0 : Int)))
 (Kret (PV.tup
 [PV.agg
 [PV.int IntKind.i64 (0 : Int), PV.int IntKind.i64 (0 : Int), PV.nils,
 PV.int IntKind.i64 (0 : Int), PV.int IntKind.i64 (0 : Int), PV.tf false],
 PV.int IntKind.i64 (6 : Int)]) ([[(0, false,
 Blk.cols ml [Col.int IntKind.i64 tl, Col.int IntKind.i64 vl, Col.bool gl])]]) (5))
 (test (decide (af > (200 : Int)))
 (Kret (PV.tup
 [PV.agg
 [PV.int IntKind.i64 (0 : Int), PV.int IntKind.i64 (0 : Int), PV.nils,
 PV.int IntKind.i64 (0 : Int), PV.int IntKind.i64 (0 : Int), PV.tf false],
 PV.int IntKind.i64 (6 : Int)]) ([[(0, false,
 Blk.cols ml [Col.int IntKind.i64 tl, Col.int IntKind.i64 vl, Col.bool gl])]]) (5))
 (Kret (PV.tup
 [PV.agg
 [PV.int IntKind.i64 ca, PV.int IntKind.i64 af, PV.nils,
 PV.int IntKind.i64 (0 : Int), PV.int IntKind.i64 (-1 : Int), PV.tf false],
 PV.int IntKind.i64 (0 : Int)]) ([[(0, false,
 Blk.cols ml [Col.int IntKind.i64 tl, Col.int IntKind.i64 vl, Col.bool gl])]]) (5))))))
 (Kret (PV.tup
 [PV.agg
 [PV.int IntKind.i64 (0 : Int), PV.int IntKind.i64 (0 : Int), PV.nils,
 PV.int IntKind.i64 (0 : Int), PV.int IntKind.i64 (0 : Int), PV.tf false],
 PV.int IntKind.i64 (8 : Int)]) ([[(0, false,
 Blk.cols ml [Col.int IntKind.i64 tl, Col.int IntKind.i64 vl, Col.bool gl])]]) (4))))
 (False)
set_option maxRecDepth 100000 in
theorem te26 (test : Bool → Prop → Prop → Prop) (Kst : KS) (Kret : KR) (ca : Int) (af : Int) (al nl ml : Nat) (tl : Nat → Int) (vl : Nat → Int) (gl : Nat → Bool) (ov : Int) (re : Int) (fz : Bool) : run test Try.env true (xB test) true 400 ⟨26, [.cd (mkFn Try.f26).body], argT 0 [.agg [.int .i64 ca, .int .i64 af, .loose ⟨0, 3, al, 0⟩ nl, .int .i64 ov, .int .i64 re, .bool fz]], [[], [(0, (false, .cols ml [.int .i64 tl, .int .i64 vl, .bool gl]))]], 1⟩ (proj 1 [] Kst Kret) =
  Te26 test Kst Kret ca af al nl ml tl vl gl ov re fz := by kernel_rfl
set_option maxRecDepth 100000 in
theorem be26 (ca : Int) (af : Int) (al nl ml : Nat) (tl : Nat → Int) (vl : Nat → Int) (gl : Nat → Bool) (ov : Int) (re : Int) (fz : Bool) (Kst : KS) (Kret : KR) (x : St26 ⊕ Rt26) (hS : HS 1 400 ((I26 ca af al nl ml tl vl gl ov re fz)) Kst x) (hR : HR 1 400 ((V26 ca af al nl ml tl vl gl ov re fz)) (fun r => [newL (1 + 1) ((N26 ca af al nl ml tl vl gl ov re fz) r) ++ [(0, (false, .cols ml [.int .i64 tl, .int .i64 vl, .bool gl]))]]) Kret x) (h : (bif (decide (al + nl ≤ ml ∧ nl ≤ 1000000))
 then (bif (S.vB ca af nl (fun (j : Nat) => tl (j + al)) (fun (j : Nat) => vl (j + al)) ov re fz != (0 : Int))
 then (some (.inr ((0 : Int), (0 : Int), (0 : Int), S.vB ca af nl (fun (j : Nat) => tl (j + al)) (fun (j : Nat) => vl (j + al)) ov re fz)))
 else (bif (fz)
 then (bif (decide (ca < (1 : Int)))
 then (some (.inr ((0 : Int), (0 : Int), (0 : Int), (6 : Int))))
 else (bif (decide (ca > (200 : Int)))
 then (some (.inr ((0 : Int), (0 : Int), (0 : Int), (6 : Int))))
 else (bif (decide (af < (0 : Int)))
 then (some (.inr ((0 : Int), (0 : Int), (0 : Int), (6 : Int))))
 else (bif (decide (af > (200 : Int)))
 then (some (.inr ((0 : Int), (0 : Int), (0 : Int), (6 : Int))))
 else (some (.inr (ca, af, (-1 : Int), (0 : Int))))))))
 else (some (.inr ((0 : Int), (0 : Int), (0 : Int), (8 : Int))))))
 else (none) : Option (St26 ⊕ Rt26)) = some x) : Te26 cond Kst Kret ca af al nl ml tl vl gl ov re fz := by
  unfold Te26
  exact bif_split h
   (fun c0 h => bif_split h
   (fun c1 h => ret_at hR _ h (fun n => n) rfl rfl rfl (rn_tup ⟨(rn_agg ⟨(rn_int rfl), (rn_int rfl), rn_nils, (rn_int rfl), (rn_int rfl), (rn_tf rfl), trivial⟩), (rn_int rfl), trivial⟩) rfl (entl_bor (use_lo rfl) rfl rfl entl_nil))
   (fun c1 h => bif_split h
   (fun c2 h => bif_split h
   (fun c3 h => ret_at hR _ h (fun n => n) rfl rfl rfl (rn_tup ⟨(rn_agg ⟨(rn_int rfl), (rn_int rfl), rn_nils, (rn_int rfl), (rn_int rfl), (rn_tf rfl), trivial⟩), (rn_int rfl), trivial⟩) rfl (entl_bor (use_lo rfl) rfl rfl entl_nil))
   (fun c3 h => bif_split h
   (fun c4 h => ret_at hR _ h (fun n => n) rfl rfl rfl (rn_tup ⟨(rn_agg ⟨(rn_int rfl), (rn_int rfl), rn_nils, (rn_int rfl), (rn_int rfl), (rn_tf rfl), trivial⟩), (rn_int rfl), trivial⟩) rfl (entl_bor (use_lo rfl) rfl rfl entl_nil))
   (fun c4 h => bif_split h
   (fun c5 h => ret_at hR _ h (fun n => n) rfl rfl rfl (rn_tup ⟨(rn_agg ⟨(rn_int rfl), (rn_int rfl), rn_nils, (rn_int rfl), (rn_int rfl), (rn_tf rfl), trivial⟩), (rn_int rfl), trivial⟩) rfl (entl_bor (use_lo rfl) rfl rfl entl_nil))
   (fun c5 h => bif_split h
   (fun c6 h => ret_at hR _ h (fun n => n) rfl rfl rfl (rn_tup ⟨(rn_agg ⟨(rn_int rfl), (rn_int rfl), rn_nils, (rn_int rfl), (rn_int rfl), (rn_tf rfl), trivial⟩), (rn_int rfl), trivial⟩) rfl (entl_bor (use_lo rfl) rfl rfl entl_nil))
   (fun c6 h => ret_at hR _ h (fun n => n) rfl rfl rfl (rn_tup ⟨(rn_agg ⟨(rn_int rfl), (rn_int rfl), rn_nils, (rn_int rfl), (rn_int rfl), (rn_tf rfl), trivial⟩), (rn_int rfl), trivial⟩) rfl (entl_bor (use_lo rfl) rfl rfl entl_nil))))))
   (fun c2 h => ret_at hR _ h (fun n => n) rfl rfl rfl (rn_tup ⟨(rn_agg ⟨(rn_int rfl), (rn_int rfl), rn_nils, (rn_int rfl), (rn_int rfl), (rn_tf rfl), trivial⟩), (rn_int rfl), trivial⟩) rfl (entl_bor (use_lo rfl) rfl rfl entl_nil))))
   (fun c0 h => no_some h)
theorem a26 (ca : Int) (af : Int) (al nl ml : Nat) (tl : Nat → Int) (vl : Nat → Int) (gl : Nat → Bool) (ov : Int) (re : Int) (fz : Bool) {r : Rt26} (h : Goes ((q26 ca af al nl ml tl vl gl ov re fz)) ((p26 ca af al nl ml tl vl gl ov re fz)) r) : CallR Try.prog 26 [.agg [.int .i64 ca, .int .i64 af, .loose ⟨0, 3, al, 0⟩ nl, .int .i64 ov, .int .i64 re, .bool fz]] [[(0, (false, .cols ml [.int .i64 tl, .int .i64 vl, .bool gl]))]] 1 ((V26 ca af al nl ml tl vl gl ov re fz) r) ((fun r => [newL (1 + 1) ((N26 ca af al nl ml tl vl gl ov re fz) r) ++ [(0, (false, .cols ml [.int .i64 tl, .int .i64 vl, .bool gl]))]]) r) 400 ∧ ∃ F, Try.prog.funcs[26]? = some F ∧ F.body.isSome = true ∧ (F.name == "runtime.NumGoroutine") = false := by
  refine dec_calls (f := 26) (lo := 1) (hi := 400) (H := [[(0, (false, .cols ml [.int .i64 tl, .int .i64 vl, .bool gl]))]]) (args := [.agg [.int .i64 ca, .int .i64 af, .loose ⟨0, 3, al, 0⟩ nl, .int .i64 ov, .int .i64 re, .bool fz]]) Try.envOk Try.mixed xB_ok ((I26 ca af al nl ml tl vl gl ov re fz)) ((V26 ca af al nl ml tl vl gl ov re fz)) (fun r => [newL (1 + 1) ((N26 ca af al nl ml tl vl gl ov re fz) r) ++ [(0, (false, .cols ml [.int .i64 tl, .int .i64 vl, .bool gl]))]]) (fn := mkFn Try.f26) (ts := []) (n := 400) rfl (by decide) (by simp) (names_of rfl) ?_ ?_ ?_ h
  · intro s; exact s.elim
  · intro Kst Kret x hS hR h
    exact Holds.eq (te26 cond Kst Kret ca af al nl ml tl vl gl ov re fz) (be26 ca af al nl ml tl vl gl ov re fz Kst Kret x hS hR h)
  · intro Kst Kret x hS hR s h; exact s.elim
noncomputable def k26 : Con := ⟨26, [.agg [.plain (.int .i64), .plain (.int .i64), .list [.int .i64, .int .i64, .bool], .plain (.int .i64), .plain (.int .i64), .plain (.bool)]], fun (x : (Int × Int × (Nat × Nat × Nat × (Nat → Int) × (Nat → Int) × (Nat → Bool) × Unit) × Int × Int × Bool × Unit) × Unit) => (fun (ca : Int) (af : Int) (al nl ml : Nat) (tl : Nat → Int) (vl : Nat → Int) (gl : Nat → Bool) (ov : Int) (re : Int) (fz : Bool) => decide (al + nl ≤ ml ∧ nl ≤ 1000000)) x.1.1 x.1.2.1 x.1.2.2.1.1 x.1.2.2.1.2.1 x.1.2.2.1.2.2.1 x.1.2.2.1.2.2.2.1 x.1.2.2.1.2.2.2.2.1 x.1.2.2.1.2.2.2.2.2.1 x.1.2.2.2.1 x.1.2.2.2.2.1 x.1.2.2.2.2.2.1, fun (x : (Int × Int × (Nat × Nat × Nat × (Nat → Int) × (Nat → Int) × (Nat → Bool) × Unit) × Int × Int × Bool × Unit) × Unit) => (fun (ca : Int) (af : Int) (al nl ml : Nat) (tl : Nat → Int) (vl : Nat → Int) (gl : Nat → Bool) (ov : Int) (re : Int) (fz : Bool) => (V26 ca af al nl ml tl vl gl ov re fz) (S.reaS ca af nl (fun j => tl (j + al)) (fun j => vl (j + al)) ov re fz)) x.1.1 x.1.2.1 x.1.2.2.1.1 x.1.2.2.1.2.1 x.1.2.2.1.2.2.1 x.1.2.2.1.2.2.2.1 x.1.2.2.1.2.2.2.2.1 x.1.2.2.1.2.2.2.2.2.1 x.1.2.2.2.1 x.1.2.2.2.2.1 x.1.2.2.2.2.2.1, fun (x : (Int × Int × (Nat × Nat × Nat × (Nat → Int) × (Nat → Int) × (Nat → Bool) × Unit) × Int × Int × Bool × Unit) × Unit) => (fun (ca : Int) (af : Int) (al nl ml : Nat) (tl : Nat → Int) (vl : Nat → Int) (gl : Nat → Bool) (ov : Int) (re : Int) (fz : Bool) => (N26 ca af al nl ml tl vl gl ov re fz) (S.reaS ca af nl (fun j => tl (j + al)) (fun j => vl (j + al)) ov re fz)) x.1.1 x.1.2.1 x.1.2.2.1.1 x.1.2.2.1.2.1 x.1.2.2.1.2.2.1 x.1.2.2.1.2.2.2.1 x.1.2.2.1.2.2.2.2.1 x.1.2.2.1.2.2.2.2.2.1 x.1.2.2.2.1 x.1.2.2.2.2.1 x.1.2.2.2.2.2.1, fun _ _ => .dead⟩
theorem s26 (ca : Int) (af : Int) (al nl ml : Nat) (tl : Nat → Int) (vl : Nat → Int) (gl : Nat → Bool) (ov : Int) (re : Int) (fz : Bool) (hp : al + nl ≤ ml ∧ nl ≤ 1000000) : Goes ((q26 ca af al nl ml tl vl gl ov re fz)) ((p26 ca af al nl ml tl vl gl ov re fz)) (S.reaS ca af nl (fun j => tl (j + al)) (fun j => vl (j + al)) ov re fz) := by
  obtain ⟨hp1, hp2⟩ := hp
  have hv : S.vB ca af nl (fun j => tl (j + al)) (fun j => vl (j + al)) ov re fz = 0 → _ := vB_ok
  generalize he : S.vB ca af nl (fun j => tl (j + al)) (fun j => vl (j + al)) ov re fz = e at hv
  by_cases h0 : e = 0
  · obtain ⟨v1, v2, v3, v4, v5, v6, v7, v8, v9, v10, v11, v12, -⟩ := hv h0
    subst h0
    cases fz <;> simp only [Bool.false_eq_true, true_imp_iff, false_imp_iff, imp_false, eq_self, reduceCtorEq, Bool.true_eq_false] at v10 v11 <;> (
    show Goes _ _ _
    unfold p26; rw [he]
    repeat' first
      | with_reducible refine goes_if (fun h => ?_) (fun h => ?_) <;> (try simp only [lim64, decide_eq_true_eq, decide_eq_false_iff_not, Int.toNat_natCast, toNat_pred, toNat_succ, Option.getD_some, Option.getD_none, Bool.not_eq_true', Bool.not_eq_false', Bool.and_eq_true, Bool.or_eq_true, Bool.and_eq_false_iff, Bool.or_eq_false_iff, bne_iff_ne, beq_iff_eq, bne_eq_false_iff_eq, beq_eq_false_iff_ne, ne_eq, not_and, Int.not_le, Int.not_lt, ge_iff_le, gt_iff_lt, Nat.not_lt, Nat.not_le, Bool.not_eq_true, Bool.not_eq_false, Bool.true_eq_false, Bool.false_eq_true, not_false_eq_true, not_true_eq_false] at h)
      | exact goes_none.mpr (by omega)
    all_goals first | (exfalso; omega) | (refine goes_inr.mpr ?_; (try simp only [S.reaS, he, S.okS, decide_eq_true_eq, S.noB, Nat.add_assoc, Nat.zero_add, Nat.add_zero, toNat_pred]); (repeat' split) <;> first | rfl | omega | (exfalso; simp_all; done) | (exfalso; simp_all; omega)))
  · show Goes _ _ _
    unfold p26; rw [he]
    repeat' first
      | with_reducible refine goes_if (fun h => ?_) (fun h => ?_) <;> (try simp only [lim64, decide_eq_true_eq, decide_eq_false_iff_not, Int.toNat_natCast, toNat_pred, toNat_succ, Option.getD_some, Option.getD_none, Bool.not_eq_true', Bool.not_eq_false', Bool.and_eq_true, Bool.or_eq_true, Bool.and_eq_false_iff, Bool.or_eq_false_iff, bne_iff_ne, beq_iff_eq, bne_eq_false_iff_eq, beq_eq_false_iff_ne, ne_eq, not_and, Int.not_le, Int.not_lt, ge_iff_le, gt_iff_lt, Nat.not_lt, Nat.not_le, Bool.not_eq_true, Bool.not_eq_false, Bool.true_eq_false, Bool.false_eq_true, not_false_eq_true, not_true_eq_false] at h)
      | exact goes_none.mpr (by omega)
    all_goals first | (exfalso; omega) | (refine goes_inr.mpr ?_; (try simp only [S.reaS, he, S.okS, decide_eq_true_eq, S.noB, Nat.add_assoc, Nat.zero_add, Nat.add_zero, toNat_pred]); (repeat' split) <;> first | rfl | omega | (exfalso; simp_all; done) | (exfalso; simp_all; omega))

theorem k26_ok : k26.ok Try.prog := by
  intro x hx
  obtain ⟨⟨ca, af, ⟨al, nl, ml, tl, vl, gl, _⟩, ov, re, fz, _⟩, _⟩ := x
  obtain ⟨h1, h2⟩ := a26 ca af al nl ml tl vl gl ov re fz (s26 ca af al nl ml tl vl gl ov re fz (of_dec hx rfl))
  exact ⟨⟨400, (by decide : 1 + 1 + 0 ≤ 400), h1⟩, h2⟩
abbrev St15 := Empty
abbrev Rt15 := Int × Int × List (Int × Int × Bool)
noncomputable def V15 (ca : Int) (af : Int) (al nl ml : Nat) (tl : Nat → Int) (vl : Nat → Int) (gl : Nat → Bool) (ov : Int) (re : Int) (fz : Bool) (r : Rt15) : PV := PV.tup
 [PV.own (2) (3) (List.length r.2.2), PV.int IntKind.i64 r.1,
 PV.int IntKind.i64 r.2.1]
noncomputable def N15 (ca : Int) (af : Int) (al nl ml : Nat) (tl : Nat → Int) (vl : Nat → Int) (gl : Nat → Bool) (ov : Int) (re : Int) (fz : Bool) (r : Rt15) : List Blk := [Blk.cols (List.length r.2.2)
 [Col.int IntKind.i64 fun (j : Nat) => (S.at' r.2.2 j).1,
 Col.int IntKind.i64 fun (j : Nat) => (S.at' r.2.2 j).2.1,
 Col.bool fun (j : Nat) => (S.at' r.2.2 j).2.2]]
noncomputable def I15 (ca : Int) (af : Int) (al nl ml : Nat) (tl : Nat → Int) (vl : Nat → Int) (gl : Nat → Bool) (ov : Int) (re : Int) (fz : Bool) : St15 → Hd := fun s => s.elim
noncomputable def q15 (ca : Int) (af : Int) (al nl ml : Nat) (tl : Nat → Int) (vl : Nat → Int) (gl : Nat → Bool) (ov : Int) (re : Int) (fz : Bool) : St15 → Option (St15 ⊕ Rt15) := fun s => s.elim
noncomputable def p15 (ca : Int) (af : Int) (al nl ml : Nat) (tl : Nat → Int) (vl : Nat → Int) (gl : Nat → Bool) (ov : Int) (re : Int) (fz : Bool) : Option (St15 ⊕ Rt15) := bif (decide (al + nl ≤ ml ∧ nl ≤ 1000000))
 then (bif (S.vB ca af nl (fun (j : Nat) => tl (j + al)) (fun (j : Nat) => vl (j + al)) ov re fz != (0 : Int))
 then (some (.inr ((0 : Int), S.vB ca af nl (fun (j : Nat) => tl (j + al)) (fun (j : Nat) => vl (j + al)) ov re fz, [])))
 else (some (.inr (ov, (0 : Int), S.mkl nl fun (j : Nat) => (tl (j + al), vl (j + al), gl (j + al))))))
 else (none)
noncomputable def Te15 (test : Bool → Prop → Prop → Prop) (Kst : KS) (Kret : KR) (ca : Int) (af : Int) (al nl ml : Nat) (tl : Nat → Int) (vl : Nat → Int) (gl : Nat → Bool) (ov : Int) (re : Int) (fz : Bool) : Prop :=
  test (decide (al + nl ≤ ml ∧ nl ≤ 1000000))
 (test (S.vB ca af nl (fun (j : Nat) => tl (j + al)) (fun (j : Nat) => vl (j + al)) ov re fz != (0 : Int))
 (Kret (PV.tup
 [PV.nils, PV.int IntKind.i64 (0 : Int),
 PV.int IntKind.i64
 (S.vB ca af nl (fun (j : Nat) => tl (j + al)) (fun (j : Nat) => vl (j + al)) ov re fz)]) ([[(0, false,
 Blk.cols ml [Col.int IntKind.i64 tl, Col.int IntKind.i64 vl, Col.bool gl])]]) (3))
 (test (decide (al + nl ≤ ml ∧ nl ≤ 1000000))
 (Kret (PV.tup
 [PV.own (4) (3) nl, PV.int IntKind.i64 ov, PV.int IntKind.i64 (0 : Int)]) ([[(0, false,
 Blk.cols ml [Col.int IntKind.i64 tl, Col.int IntKind.i64 vl, Col.bool gl]),
 (4, true,
 Blk.cols nl
 [Col.int IntKind.i64 fun (j : Nat) => tl (j + al),
 Col.int IntKind.i64 fun (j : Nat) => vl (j + al), Col.bool fun (j : Nat) => gl (j + al)])]]) (5))
 (False)))
 (False)
set_option maxRecDepth 100000 in
theorem te15 (test : Bool → Prop → Prop → Prop) (Kst : KS) (Kret : KR) (ca : Int) (af : Int) (al nl ml : Nat) (tl : Nat → Int) (vl : Nat → Int) (gl : Nat → Bool) (ov : Int) (re : Int) (fz : Bool) : run test Try.env true (xB test) true 400 ⟨15, [.cd (mkFn Try.f15).body], argT 0 [.agg [.int .i64 ca, .int .i64 af, .loose ⟨0, 3, al, 0⟩ nl, .int .i64 ov, .int .i64 re, .bool fz]], [[], [(0, (false, .cols ml [.int .i64 tl, .int .i64 vl, .bool gl]))]], 1⟩ (proj 1 [] Kst Kret) =
  Te15 test Kst Kret ca af al nl ml tl vl gl ov re fz := by kernel_rfl
set_option maxRecDepth 100000 in
theorem be15 (ca : Int) (af : Int) (al nl ml : Nat) (tl : Nat → Int) (vl : Nat → Int) (gl : Nat → Bool) (ov : Int) (re : Int) (fz : Bool) (Kst : KS) (Kret : KR) (x : St15 ⊕ Rt15) (hS : HS 1 400 ((I15 ca af al nl ml tl vl gl ov re fz)) Kst x) (hR : HR 1 400 ((V15 ca af al nl ml tl vl gl ov re fz)) (fun r => [newL (1 + 1) ((N15 ca af al nl ml tl vl gl ov re fz) r) ++ [(0, (false, .cols ml [.int .i64 tl, .int .i64 vl, .bool gl]))]]) Kret x) (h : (bif (decide (al + nl ≤ ml ∧ nl ≤ 1000000))
 then (bif (S.vB ca af nl (fun (j : Nat) => tl (j + al)) (fun (j : Nat) => vl (j + al)) ov re fz != (0 : Int))
 then (some (.inr ((0 : Int), S.vB ca af nl (fun (j : Nat) => tl (j + al)) (fun (j : Nat) => vl (j + al)) ov re fz, [])))
 else (some (.inr (ov, (0 : Int), S.mkl nl fun (j : Nat) => (tl (j + al), vl (j + al), gl (j + al))))))
 else (none) : Option (St15 ⊕ Rt15)) = some x) : Te15 cond Kst Kret ca af al nl ml tl vl gl ov re fz := by
  unfold Te15
  exact bif_split h
   (fun c0 h => bif_split h
   (fun c1 h => ret_at hR _ h (fun n => bif Nat.beq n 2 then 399 else n) rfl rfl rfl (rn_tup ⟨(rn_own_nils rfl), (rn_int rfl), (rn_int rfl), trivial⟩) rfl (entl_fresh (use_own rfl) (fresh_ok rfl) (entl_bor (use_lo rfl) rfl rfl entl_nil)))
   (fun c1 h => cond_yes c0 (ret_at hR _ h (fun n => bif Nat.beq n 2 then 4 else n) rfl rfl rfl (rn_tup ⟨(rn_own (use_own rfl) rfl mkl_len), (rn_int rfl), (rn_int rfl), trivial⟩) rfl (entl_new (use_own rfl) rfl (Nat.le_of_eq mkl_len) (rcs_int (fun _ hj => col_mkl (fun (t : Int × Int × Bool) => t.1) hj) (rcs_int (fun _ hj => col_mkl (fun (t : Int × Int × Bool) => t.2.1) hj) (rcs_bool (fun _ hj => col_mkl (fun (t : Int × Int × Bool) => t.2.2) hj) rcs_nil))) (entl_bor (use_lo rfl) rfl rfl entl_nil)))))
   (fun c0 h => no_some h)
theorem a15 (ca : Int) (af : Int) (al nl ml : Nat) (tl : Nat → Int) (vl : Nat → Int) (gl : Nat → Bool) (ov : Int) (re : Int) (fz : Bool) {r : Rt15} (h : Goes ((q15 ca af al nl ml tl vl gl ov re fz)) ((p15 ca af al nl ml tl vl gl ov re fz)) r) : CallR Try.prog 15 [.agg [.int .i64 ca, .int .i64 af, .loose ⟨0, 3, al, 0⟩ nl, .int .i64 ov, .int .i64 re, .bool fz]] [[(0, (false, .cols ml [.int .i64 tl, .int .i64 vl, .bool gl]))]] 1 ((V15 ca af al nl ml tl vl gl ov re fz) r) ((fun r => [newL (1 + 1) ((N15 ca af al nl ml tl vl gl ov re fz) r) ++ [(0, (false, .cols ml [.int .i64 tl, .int .i64 vl, .bool gl]))]]) r) 400 ∧ ∃ F, Try.prog.funcs[15]? = some F ∧ F.body.isSome = true ∧ (F.name == "runtime.NumGoroutine") = false := by
  refine dec_calls (f := 15) (lo := 1) (hi := 400) (H := [[(0, (false, .cols ml [.int .i64 tl, .int .i64 vl, .bool gl]))]]) (args := [.agg [.int .i64 ca, .int .i64 af, .loose ⟨0, 3, al, 0⟩ nl, .int .i64 ov, .int .i64 re, .bool fz]]) Try.envOk Try.mixed xB_ok ((I15 ca af al nl ml tl vl gl ov re fz)) ((V15 ca af al nl ml tl vl gl ov re fz)) (fun r => [newL (1 + 1) ((N15 ca af al nl ml tl vl gl ov re fz) r) ++ [(0, (false, .cols ml [.int .i64 tl, .int .i64 vl, .bool gl]))]]) (fn := mkFn Try.f15) (ts := []) (n := 400) rfl (by decide) (by simp) (names_of rfl) ?_ ?_ ?_ h
  · intro s; exact s.elim
  · intro Kst Kret x hS hR h
    exact Holds.eq (te15 cond Kst Kret ca af al nl ml tl vl gl ov re fz) (be15 ca af al nl ml tl vl gl ov re fz Kst Kret x hS hR h)
  · intro Kst Kret x hS hR s h; exact s.elim
noncomputable def k15 : Con := ⟨15, [.agg [.plain (.int .i64), .plain (.int .i64), .list [.int .i64, .int .i64, .bool], .plain (.int .i64), .plain (.int .i64), .plain (.bool)]], fun (x : (Int × Int × (Nat × Nat × Nat × (Nat → Int) × (Nat → Int) × (Nat → Bool) × Unit) × Int × Int × Bool × Unit) × Unit) => (fun (ca : Int) (af : Int) (al nl ml : Nat) (tl : Nat → Int) (vl : Nat → Int) (gl : Nat → Bool) (ov : Int) (re : Int) (fz : Bool) => decide (al + nl ≤ ml ∧ nl ≤ 1000000)) x.1.1 x.1.2.1 x.1.2.2.1.1 x.1.2.2.1.2.1 x.1.2.2.1.2.2.1 x.1.2.2.1.2.2.2.1 x.1.2.2.1.2.2.2.2.1 x.1.2.2.1.2.2.2.2.2.1 x.1.2.2.2.1 x.1.2.2.2.2.1 x.1.2.2.2.2.2.1, fun (x : (Int × Int × (Nat × Nat × Nat × (Nat → Int) × (Nat → Int) × (Nat → Bool) × Unit) × Int × Int × Bool × Unit) × Unit) => (fun (ca : Int) (af : Int) (al nl ml : Nat) (tl : Nat → Int) (vl : Nat → Int) (gl : Nat → Bool) (ov : Int) (re : Int) (fz : Bool) => (V15 ca af al nl ml tl vl gl ov re fz) (if S.vB ca af nl (fun j => tl (j + al)) (fun j => vl (j + al)) ov re fz = 0 then (ov, 0, (S.mkl nl fun j => (tl (j + al), vl (j + al), gl (j + al)))) else (0, S.vB ca af nl (fun j => tl (j + al)) (fun j => vl (j + al)) ov re fz, []))) x.1.1 x.1.2.1 x.1.2.2.1.1 x.1.2.2.1.2.1 x.1.2.2.1.2.2.1 x.1.2.2.1.2.2.2.1 x.1.2.2.1.2.2.2.2.1 x.1.2.2.1.2.2.2.2.2.1 x.1.2.2.2.1 x.1.2.2.2.2.1 x.1.2.2.2.2.2.1, fun (x : (Int × Int × (Nat × Nat × Nat × (Nat → Int) × (Nat → Int) × (Nat → Bool) × Unit) × Int × Int × Bool × Unit) × Unit) => (fun (ca : Int) (af : Int) (al nl ml : Nat) (tl : Nat → Int) (vl : Nat → Int) (gl : Nat → Bool) (ov : Int) (re : Int) (fz : Bool) => (N15 ca af al nl ml tl vl gl ov re fz) (if S.vB ca af nl (fun j => tl (j + al)) (fun j => vl (j + al)) ov re fz = 0 then (ov, 0, (S.mkl nl fun j => (tl (j + al), vl (j + al), gl (j + al)))) else (0, S.vB ca af nl (fun j => tl (j + al)) (fun j => vl (j + al)) ov re fz, []))) x.1.1 x.1.2.1 x.1.2.2.1.1 x.1.2.2.1.2.1 x.1.2.2.1.2.2.1 x.1.2.2.1.2.2.2.1 x.1.2.2.1.2.2.2.2.1 x.1.2.2.1.2.2.2.2.2.1 x.1.2.2.2.1 x.1.2.2.2.2.1 x.1.2.2.2.2.2.1, fun _ _ => .dead⟩
theorem s15 (ca : Int) (af : Int) (al nl ml : Nat) (tl : Nat → Int) (vl : Nat → Int) (gl : Nat → Bool) (ov : Int) (re : Int) (fz : Bool) (hp : al + nl ≤ ml ∧ nl ≤ 1000000) : Goes ((q15 ca af al nl ml tl vl gl ov re fz)) ((p15 ca af al nl ml tl vl gl ov re fz)) (if S.vB ca af nl (fun j => tl (j + al)) (fun j => vl (j + al)) ov re fz = 0 then (ov, 0, (S.mkl nl fun j => (tl (j + al), vl (j + al), gl (j + al)))) else (0, S.vB ca af nl (fun j => tl (j + al)) (fun j => vl (j + al)) ov re fz, [])) := by
  obtain ⟨hp1, hp2⟩ := hp
  have hv : S.vB ca af nl (fun j => tl (j + al)) (fun j => vl (j + al)) ov re fz = 0 → _ := vB_ok
  generalize he : S.vB ca af nl (fun j => tl (j + al)) (fun j => vl (j + al)) ov re fz = e at hv
  by_cases h0 : e = 0
  · obtain ⟨v1, v2, v3, v4, v5, v6, v7, v8, v9, v10, v11, v12, -⟩ := hv h0
    subst h0
    cases fz <;> simp only [Bool.false_eq_true, true_imp_iff, false_imp_iff, imp_false, eq_self, reduceCtorEq, Bool.true_eq_false] at v10 v11 <;> (
    show Goes _ _ _
    unfold p15; rw [he]
    repeat' first
      | with_reducible refine goes_if (fun h => ?_) (fun h => ?_) <;> (try simp only [lim64, decide_eq_true_eq, decide_eq_false_iff_not, Int.toNat_natCast, toNat_pred, toNat_succ, Option.getD_some, Option.getD_none, Bool.not_eq_true', Bool.not_eq_false', Bool.and_eq_true, Bool.or_eq_true, Bool.and_eq_false_iff, Bool.or_eq_false_iff, bne_iff_ne, beq_iff_eq, bne_eq_false_iff_eq, beq_eq_false_iff_ne, ne_eq, not_and, Int.not_le, Int.not_lt, ge_iff_le, gt_iff_lt, Nat.not_lt, Nat.not_le, Bool.not_eq_true, Bool.not_eq_false, Bool.true_eq_false, Bool.false_eq_true, not_false_eq_true, not_true_eq_false] at h)
      | exact goes_none.mpr (by omega)
    all_goals first | (exfalso; omega) | (refine goes_inr.mpr ?_; (try simp only [S.vB, he, S.okS, decide_eq_true_eq, S.noB, Nat.add_assoc, Nat.zero_add, Nat.add_zero, toNat_pred]); (repeat' split) <;> first | rfl | omega | (exfalso; simp_all; done) | (exfalso; simp_all; omega)))
  · show Goes _ _ _
    unfold p15; rw [he]
    repeat' first
      | with_reducible refine goes_if (fun h => ?_) (fun h => ?_) <;> (try simp only [lim64, decide_eq_true_eq, decide_eq_false_iff_not, Int.toNat_natCast, toNat_pred, toNat_succ, Option.getD_some, Option.getD_none, Bool.not_eq_true', Bool.not_eq_false', Bool.and_eq_true, Bool.or_eq_true, Bool.and_eq_false_iff, Bool.or_eq_false_iff, bne_iff_ne, beq_iff_eq, bne_eq_false_iff_eq, beq_eq_false_iff_ne, ne_eq, not_and, Int.not_le, Int.not_lt, ge_iff_le, gt_iff_lt, Nat.not_lt, Nat.not_le, Bool.not_eq_true, Bool.not_eq_false, Bool.true_eq_false, Bool.false_eq_true, not_false_eq_true, not_true_eq_false] at h)
      | exact goes_none.mpr (by omega)
    all_goals first | (exfalso; omega) | (refine goes_inr.mpr ?_; (try simp only [S.vB, he, S.okS, decide_eq_true_eq, S.noB, Nat.add_assoc, Nat.zero_add, Nat.add_zero, toNat_pred]); (repeat' split) <;> first | rfl | omega | (exfalso; simp_all; done) | (exfalso; simp_all; omega))

theorem k15_ok : k15.ok Try.prog := by
  intro x hx
  obtain ⟨⟨ca, af, ⟨al, nl, ml, tl, vl, gl, _⟩, ov, re, fz, _⟩, _⟩ := x
  obtain ⟨h1, h2⟩ := a15 ca af al nl ml tl vl gl ov re fz (s15 ca af al nl ml tl vl gl ov re fz (of_dec hx rfl))
  exact ⟨⟨400, (by decide : 1 + 1 + 1 ≤ 400), h1⟩, h2⟩
abbrev St16 := Empty
abbrev Rt16 := Nat × Nat × Int × Int
noncomputable def V16 (ca : Int) (af : Int) (al nl ml : Nat) (tl : Nat → Int) (vl : Nat → Int) (gl : Nat → Bool) (ov : Int) (re : Int) (fz : Bool) (r : Rt16) : PV := PV.tup
 [PV.loose (PA.mk (0) (3) r.1 (0)) r.2.1, PV.int IntKind.i64 r.2.2.1,
 PV.int IntKind.i64 r.2.2.2]
noncomputable def N16 (ca : Int) (af : Int) (al nl ml : Nat) (tl : Nat → Int) (vl : Nat → Int) (gl : Nat → Bool) (ov : Int) (re : Int) (fz : Bool) (r : Rt16) : List Blk := []
noncomputable def I16 (ca : Int) (af : Int) (al nl ml : Nat) (tl : Nat → Int) (vl : Nat → Int) (gl : Nat → Bool) (ov : Int) (re : Int) (fz : Bool) : St16 → Hd := fun s => s.elim
noncomputable def q16 (ca : Int) (af : Int) (al nl ml : Nat) (tl : Nat → Int) (vl : Nat → Int) (gl : Nat → Bool) (ov : Int) (re : Int) (fz : Bool) : St16 → Option (St16 ⊕ Rt16) := fun s => s.elim
noncomputable def p16 (ca : Int) (af : Int) (al nl ml : Nat) (tl : Nat → Int) (vl : Nat → Int) (gl : Nat → Bool) (ov : Int) (re : Int) (fz : Bool) : Option (St16 ⊕ Rt16) := bif (decide (al + nl ≤ ml ∧ nl ≤ 1000000))
 then (bif (S.vB ca af nl (fun (j : Nat) => tl (j + al)) (fun (j : Nat) => vl (j + al)) ov re fz != (0 : Int))
 then (some (.inr (0, 0, (0 : Int), S.vB ca af nl (fun (j : Nat) => tl (j + al)) (fun (j : Nat) => vl (j + al)) ov re fz)))
 else (some (.inr (al, nl, ov, (0 : Int)))))
 else (none)
noncomputable def Te16 (test : Bool → Prop → Prop → Prop) (Kst : KS) (Kret : KR) (ca : Int) (af : Int) (al nl ml : Nat) (tl : Nat → Int) (vl : Nat → Int) (gl : Nat → Bool) (ov : Int) (re : Int) (fz : Bool) : Prop :=
  test (decide (al + nl ≤ ml ∧ nl ≤ 1000000))
 (test (S.vB ca af nl (fun (j : Nat) => tl (j + al)) (fun (j : Nat) => vl (j + al)) ov re fz != (0 : Int))
 (Kret (PV.tup
 [PV.nils, PV.int IntKind.i64 (0 : Int),
 PV.int IntKind.i64
 (S.vB ca af nl (fun (j : Nat) => tl (j + al)) (fun (j : Nat) => vl (j + al)) ov re fz)]) ([[(0, false,
 Blk.cols ml [Col.int IntKind.i64 tl, Col.int IntKind.i64 vl, Col.bool gl])]]) (3))
 (Kret (PV.tup
 [PV.loose (PA.mk (0) (3) al (0)) nl, PV.int IntKind.i64 ov,
 PV.int IntKind.i64 (0 : Int)]) ([[(0, false,
 Blk.cols ml [Col.int IntKind.i64 tl, Col.int IntKind.i64 vl, Col.bool gl])]]) (3)))
 (False)
set_option maxRecDepth 100000 in
theorem te16 (test : Bool → Prop → Prop → Prop) (Kst : KS) (Kret : KR) (ca : Int) (af : Int) (al nl ml : Nat) (tl : Nat → Int) (vl : Nat → Int) (gl : Nat → Bool) (ov : Int) (re : Int) (fz : Bool) : run test Try.env true (xB test) true 400 ⟨16, [.cd (mkFn Try.f16).body], argT 0 [.agg [.int .i64 ca, .int .i64 af, .loose ⟨0, 3, al, 0⟩ nl, .int .i64 ov, .int .i64 re, .bool fz]], [[], [(0, (false, .cols ml [.int .i64 tl, .int .i64 vl, .bool gl]))]], 1⟩ (proj 1 [] Kst Kret) =
  Te16 test Kst Kret ca af al nl ml tl vl gl ov re fz := by kernel_rfl
set_option maxRecDepth 100000 in
theorem be16 (ca : Int) (af : Int) (al nl ml : Nat) (tl : Nat → Int) (vl : Nat → Int) (gl : Nat → Bool) (ov : Int) (re : Int) (fz : Bool) (Kst : KS) (Kret : KR) (x : St16 ⊕ Rt16) (hS : HS 1 400 ((I16 ca af al nl ml tl vl gl ov re fz)) Kst x) (hR : HR 1 400 ((V16 ca af al nl ml tl vl gl ov re fz)) (fun r => [newL (1 + 1) ((N16 ca af al nl ml tl vl gl ov re fz) r) ++ [(0, (false, .cols ml [.int .i64 tl, .int .i64 vl, .bool gl]))]]) Kret x) (h : (bif (decide (al + nl ≤ ml ∧ nl ≤ 1000000))
 then (bif (S.vB ca af nl (fun (j : Nat) => tl (j + al)) (fun (j : Nat) => vl (j + al)) ov re fz != (0 : Int))
 then (some (.inr (0, 0, (0 : Int), S.vB ca af nl (fun (j : Nat) => tl (j + al)) (fun (j : Nat) => vl (j + al)) ov re fz)))
 else (some (.inr (al, nl, ov, (0 : Int)))))
 else (none) : Option (St16 ⊕ Rt16)) = some x) : Te16 cond Kst Kret ca af al nl ml tl vl gl ov re fz := by
  unfold Te16
  exact bif_split h
   (fun c0 h => bif_split h
   (fun c1 h => ret_at hR _ h (fun n => n) rfl rfl rfl (rn_tup ⟨(rn_loose_nils rfl), (rn_int rfl), (rn_int rfl), trivial⟩) rfl (entl_bor (use_lo rfl) rfl rfl entl_nil))
   (fun c1 h => ret_at hR _ h (fun n => n) rfl rfl rfl (rn_tup ⟨(rn_loose (use_lo rfl) rfl rfl rfl), (rn_int rfl), (rn_int rfl), trivial⟩) rfl (entl_bor (use_lo rfl) rfl rfl entl_nil)))
   (fun c0 h => no_some h)
theorem a16 (ca : Int) (af : Int) (al nl ml : Nat) (tl : Nat → Int) (vl : Nat → Int) (gl : Nat → Bool) (ov : Int) (re : Int) (fz : Bool) {r : Rt16} (h : Goes ((q16 ca af al nl ml tl vl gl ov re fz)) ((p16 ca af al nl ml tl vl gl ov re fz)) r) : CallR Try.prog 16 [.agg [.int .i64 ca, .int .i64 af, .loose ⟨0, 3, al, 0⟩ nl, .int .i64 ov, .int .i64 re, .bool fz]] [[(0, (false, .cols ml [.int .i64 tl, .int .i64 vl, .bool gl]))]] 1 ((V16 ca af al nl ml tl vl gl ov re fz) r) ((fun r => [newL (1 + 1) ((N16 ca af al nl ml tl vl gl ov re fz) r) ++ [(0, (false, .cols ml [.int .i64 tl, .int .i64 vl, .bool gl]))]]) r) 400 ∧ ∃ F, Try.prog.funcs[16]? = some F ∧ F.body.isSome = true ∧ (F.name == "runtime.NumGoroutine") = false := by
  refine dec_calls (f := 16) (lo := 1) (hi := 400) (H := [[(0, (false, .cols ml [.int .i64 tl, .int .i64 vl, .bool gl]))]]) (args := [.agg [.int .i64 ca, .int .i64 af, .loose ⟨0, 3, al, 0⟩ nl, .int .i64 ov, .int .i64 re, .bool fz]]) Try.envOk Try.mixed xB_ok ((I16 ca af al nl ml tl vl gl ov re fz)) ((V16 ca af al nl ml tl vl gl ov re fz)) (fun r => [newL (1 + 1) ((N16 ca af al nl ml tl vl gl ov re fz) r) ++ [(0, (false, .cols ml [.int .i64 tl, .int .i64 vl, .bool gl]))]]) (fn := mkFn Try.f16) (ts := []) (n := 400) rfl (by decide) (by simp) (names_of rfl) ?_ ?_ ?_ h
  · intro s; exact s.elim
  · intro Kst Kret x hS hR h
    exact Holds.eq (te16 cond Kst Kret ca af al nl ml tl vl gl ov re fz) (be16 ca af al nl ml tl vl gl ov re fz Kst Kret x hS hR h)
  · intro Kst Kret x hS hR s h; exact s.elim
noncomputable def k16 : Con := ⟨16, [.agg [.plain (.int .i64), .plain (.int .i64), .list [.int .i64, .int .i64, .bool], .plain (.int .i64), .plain (.int .i64), .plain (.bool)]], fun (x : (Int × Int × (Nat × Nat × Nat × (Nat → Int) × (Nat → Int) × (Nat → Bool) × Unit) × Int × Int × Bool × Unit) × Unit) => (fun (ca : Int) (af : Int) (al nl ml : Nat) (tl : Nat → Int) (vl : Nat → Int) (gl : Nat → Bool) (ov : Int) (re : Int) (fz : Bool) => decide (al + nl ≤ ml ∧ nl ≤ 1000000)) x.1.1 x.1.2.1 x.1.2.2.1.1 x.1.2.2.1.2.1 x.1.2.2.1.2.2.1 x.1.2.2.1.2.2.2.1 x.1.2.2.1.2.2.2.2.1 x.1.2.2.1.2.2.2.2.2.1 x.1.2.2.2.1 x.1.2.2.2.2.1 x.1.2.2.2.2.2.1, fun (x : (Int × Int × (Nat × Nat × Nat × (Nat → Int) × (Nat → Int) × (Nat → Bool) × Unit) × Int × Int × Bool × Unit) × Unit) => (fun (ca : Int) (af : Int) (al nl ml : Nat) (tl : Nat → Int) (vl : Nat → Int) (gl : Nat → Bool) (ov : Int) (re : Int) (fz : Bool) => (V16 ca af al nl ml tl vl gl ov re fz) (if S.vB ca af nl (fun j => tl (j + al)) (fun j => vl (j + al)) ov re fz = 0 then (al, nl, ov, 0) else (0, 0, 0, S.vB ca af nl (fun j => tl (j + al)) (fun j => vl (j + al)) ov re fz))) x.1.1 x.1.2.1 x.1.2.2.1.1 x.1.2.2.1.2.1 x.1.2.2.1.2.2.1 x.1.2.2.1.2.2.2.1 x.1.2.2.1.2.2.2.2.1 x.1.2.2.1.2.2.2.2.2.1 x.1.2.2.2.1 x.1.2.2.2.2.1 x.1.2.2.2.2.2.1, fun (x : (Int × Int × (Nat × Nat × Nat × (Nat → Int) × (Nat → Int) × (Nat → Bool) × Unit) × Int × Int × Bool × Unit) × Unit) => (fun (ca : Int) (af : Int) (al nl ml : Nat) (tl : Nat → Int) (vl : Nat → Int) (gl : Nat → Bool) (ov : Int) (re : Int) (fz : Bool) => (N16 ca af al nl ml tl vl gl ov re fz) (if S.vB ca af nl (fun j => tl (j + al)) (fun j => vl (j + al)) ov re fz = 0 then (al, nl, ov, 0) else (0, 0, 0, S.vB ca af nl (fun j => tl (j + al)) (fun j => vl (j + al)) ov re fz))) x.1.1 x.1.2.1 x.1.2.2.1.1 x.1.2.2.1.2.1 x.1.2.2.1.2.2.1 x.1.2.2.1.2.2.2.1 x.1.2.2.1.2.2.2.2.1 x.1.2.2.1.2.2.2.2.2.1 x.1.2.2.2.1 x.1.2.2.2.2.1 x.1.2.2.2.2.2.1, fun _ _ => .dead⟩
theorem s16 (ca : Int) (af : Int) (al nl ml : Nat) (tl : Nat → Int) (vl : Nat → Int) (gl : Nat → Bool) (ov : Int) (re : Int) (fz : Bool) (hp : al + nl ≤ ml ∧ nl ≤ 1000000) : Goes ((q16 ca af al nl ml tl vl gl ov re fz)) ((p16 ca af al nl ml tl vl gl ov re fz)) (if S.vB ca af nl (fun j => tl (j + al)) (fun j => vl (j + al)) ov re fz = 0 then (al, nl, ov, 0) else (0, 0, 0, S.vB ca af nl (fun j => tl (j + al)) (fun j => vl (j + al)) ov re fz)) := by
  obtain ⟨hp1, hp2⟩ := hp
  have hv : S.vB ca af nl (fun j => tl (j + al)) (fun j => vl (j + al)) ov re fz = 0 → _ := vB_ok
  generalize he : S.vB ca af nl (fun j => tl (j + al)) (fun j => vl (j + al)) ov re fz = e at hv
  by_cases h0 : e = 0
  · obtain ⟨v1, v2, v3, v4, v5, v6, v7, v8, v9, v10, v11, v12, -⟩ := hv h0
    subst h0
    cases fz <;> simp only [Bool.false_eq_true, true_imp_iff, false_imp_iff, imp_false, eq_self, reduceCtorEq, Bool.true_eq_false] at v10 v11 <;> (
    show Goes _ _ _
    unfold p16; rw [he]
    repeat' first
      | with_reducible refine goes_if (fun h => ?_) (fun h => ?_) <;> (try simp only [lim64, decide_eq_true_eq, decide_eq_false_iff_not, Int.toNat_natCast, toNat_pred, toNat_succ, Option.getD_some, Option.getD_none, Bool.not_eq_true', Bool.not_eq_false', Bool.and_eq_true, Bool.or_eq_true, Bool.and_eq_false_iff, Bool.or_eq_false_iff, bne_iff_ne, beq_iff_eq, bne_eq_false_iff_eq, beq_eq_false_iff_ne, ne_eq, not_and, Int.not_le, Int.not_lt, ge_iff_le, gt_iff_lt, Nat.not_lt, Nat.not_le, Bool.not_eq_true, Bool.not_eq_false, Bool.true_eq_false, Bool.false_eq_true, not_false_eq_true, not_true_eq_false] at h)
      | exact goes_none.mpr (by omega)
    all_goals first | (exfalso; omega) | (refine goes_inr.mpr ?_; (try simp only [S.vB, he, S.okS, decide_eq_true_eq, S.noB, Nat.add_assoc, Nat.zero_add, Nat.add_zero, toNat_pred]); (repeat' split) <;> first | rfl | omega | (exfalso; simp_all; done) | (exfalso; simp_all; omega)))
  · show Goes _ _ _
    unfold p16; rw [he]
    repeat' first
      | with_reducible refine goes_if (fun h => ?_) (fun h => ?_) <;> (try simp only [lim64, decide_eq_true_eq, decide_eq_false_iff_not, Int.toNat_natCast, toNat_pred, toNat_succ, Option.getD_some, Option.getD_none, Bool.not_eq_true', Bool.not_eq_false', Bool.and_eq_true, Bool.or_eq_true, Bool.and_eq_false_iff, Bool.or_eq_false_iff, bne_iff_ne, beq_iff_eq, bne_eq_false_iff_eq, beq_eq_false_iff_ne, ne_eq, not_and, Int.not_le, Int.not_lt, ge_iff_le, gt_iff_lt, Nat.not_lt, Nat.not_le, Bool.not_eq_true, Bool.not_eq_false, Bool.true_eq_false, Bool.false_eq_true, not_false_eq_true, not_true_eq_false] at h)
      | exact goes_none.mpr (by omega)
    all_goals first | (exfalso; omega) | (refine goes_inr.mpr ?_; (try simp only [S.vB, he, S.okS, decide_eq_true_eq, S.noB, Nat.add_assoc, Nat.zero_add, Nat.add_zero, toNat_pred]); (repeat' split) <;> first | rfl | omega | (exfalso; simp_all; done) | (exfalso; simp_all; omega))

theorem k16_ok : k16.ok Try.prog := by
  intro x hx
  obtain ⟨⟨ca, af, ⟨al, nl, ml, tl, vl, gl, _⟩, ov, re, fz, _⟩, _⟩ := x
  obtain ⟨h1, h2⟩ := a16 ca af al nl ml tl vl gl ov re fz (s16 ca af al nl ml tl vl gl ov re fz (of_dec hx rfl))
  exact ⟨⟨400, (by decide : 1 + 1 + 0 ≤ 400), h1⟩, h2⟩
abbrev St17 := Empty
abbrev Rt17 := Int × Int × Int × Int
noncomputable def V17 (ca : Int) (af : Int) (r : Rt17) : PV := PV.tup
 [PV.agg
 [PV.int IntKind.i64 r.1, PV.int IntKind.i64 r.2.1, PV.nils,
 PV.int IntKind.i64 (0 : Int), PV.int IntKind.i64 r.2.2.1, PV.tf false],
 PV.int IntKind.i64 r.2.2.2]
noncomputable def N17 (ca : Int) (af : Int) (r : Rt17) : List Blk := []
noncomputable def I17 (ca : Int) (af : Int) : St17 → Hd := fun s => s.elim
noncomputable def q17 (ca : Int) (af : Int) : St17 → Option (St17 ⊕ Rt17) := fun s => s.elim
noncomputable def p17 (ca : Int) (af : Int) : Option (St17 ⊕ Rt17) := bif (decide (ca ≥ (1 : Int)))
 then (bif (decide (ca ≤ (200 : Int)))
 then (bif (decide (af ≥ (0 : Int)))
 then (bif (decide (af ≤ (200 : Int)))
 then (some (.inr (ca, af, (-1 : Int), (0 : Int))))
 else (some (.inr ((0 : Int), (0 : Int), (0 : Int), (6 : Int)))))
 else (some (.inr ((0 : Int), (0 : Int), (0 : Int), (6 : Int)))))
 else (some (.inr ((0 : Int), (0 : Int), (0 : Int), (6 : Int)))))
 else (some (.inr ((0 : Int), (0 : Int), (0 : Int), (6 : Int))))
noncomputable def Te17 (test : Bool → Prop → Prop → Prop) (Kst : KS) (Kret : KR) (ca : Int) (af : Int) : Prop :=
  test (decide (ca ≥ (1 : Int)))
 (test (decide (ca ≤ (200 : Int)))
 (test (decide (af ≥ (0 : Int)))
 (test (decide (af ≤ (200 : Int)))
 (Kret (PV.tup
 [PV.agg
 [PV.int IntKind.i64 ca, PV.int IntKind.i64 af, PV.nils,
 PV.int IntKind.i64 (0 : Int), PV.int IntKind.i64 (-1 : Int), PV.tf false],
 PV.int IntKind.i64 (0 : Int)]) ([[]]) (2))
 (Kret (PV.tup
 [PV.agg
 [PV.int IntKind.i64 (0 : Int), PV.int IntKind.i64 (0 : Int), PV.nils,
 PV.int IntKind.i64 (0 : Int), PV.int IntKind.i64 (0 : Int), PV.tf false],
 PV.int IntKind.i64 (6 : Int)]) ([[]]) (1)))
 (Kret (PV.tup
 [PV.agg
 [PV.int IntKind.i64 (0 : Int), PV.int IntKind.i64 (0 : Int), PV.nils,
 PV.int IntKind.i64 (0 : Int), PV.int IntKind.i64 (0 : Int), PV.tf false],
 PV.int IntKind.i64 (6 : Int)]) ([[]]) (1)))
 (Kret (PV.tup
 [PV.agg
 [PV.int IntKind.i64 (0 : Int), PV.int IntKind.i64 (0 : Int), PV.nils,
 PV.int IntKind.i64 (0 : Int), PV.int IntKind.i64 (0 : Int), PV.tf false],
 PV.int IntKind.i64 (6 : Int)]) ([[]]) (1)))
 (Kret (PV.tup
 [PV.agg
 [PV.int IntKind.i64 (0 : Int), PV.int IntKind.i64 (0 : Int), PV.nils,
 PV.int IntKind.i64 (0 : Int), PV.int IntKind.i64 (0 : Int), PV.tf false],
 PV.int IntKind.i64 (6 : Int)]) ([[]]) (1))
set_option maxRecDepth 100000 in
theorem te17 (test : Bool → Prop → Prop → Prop) (Kst : KS) (Kret : KR) (ca : Int) (af : Int) : run test Try.env true (xB test) true 400 ⟨17, [.cd (mkFn Try.f17).body], argT 0 [.int .i64 ca, .int .i64 af], [[], []], 0⟩ (proj 0 [] Kst Kret) =
  Te17 test Kst Kret ca af := by kernel_rfl
set_option maxRecDepth 100000 in
theorem be17 (ca : Int) (af : Int) (Kst : KS) (Kret : KR) (x : St17 ⊕ Rt17) (hS : HS 0 400 ((I17 ca af)) Kst x) (hR : HR 0 400 ((V17 ca af)) (fun r => [newL (0 + 1) ((N17 ca af) r) ++ []]) Kret x) (h : (bif (decide (ca ≥ (1 : Int)))
 then (bif (decide (ca ≤ (200 : Int)))
 then (bif (decide (af ≥ (0 : Int)))
 then (bif (decide (af ≤ (200 : Int)))
 then (some (.inr (ca, af, (-1 : Int), (0 : Int))))
 else (some (.inr ((0 : Int), (0 : Int), (0 : Int), (6 : Int)))))
 else (some (.inr ((0 : Int), (0 : Int), (0 : Int), (6 : Int)))))
 else (some (.inr ((0 : Int), (0 : Int), (0 : Int), (6 : Int)))))
 else (some (.inr ((0 : Int), (0 : Int), (0 : Int), (6 : Int)))) : Option (St17 ⊕ Rt17)) = some x) : Te17 cond Kst Kret ca af := by
  unfold Te17
  exact bif_split h
   (fun c0 h => bif_split h
   (fun c1 h => bif_split h
   (fun c2 h => bif_split h
   (fun c3 h => ret_at hR _ h (fun n => n) rfl rfl rfl (rn_tup ⟨(rn_agg ⟨(rn_int rfl), (rn_int rfl), rn_nils, (rn_int rfl), (rn_int rfl), (rn_tf rfl), trivial⟩), (rn_int rfl), trivial⟩) rfl entl_nil)
   (fun c3 h => ret_at hR _ h (fun n => n) rfl rfl rfl (rn_tup ⟨(rn_agg ⟨(rn_int rfl), (rn_int rfl), rn_nils, (rn_int rfl), (rn_int rfl), (rn_tf rfl), trivial⟩), (rn_int rfl), trivial⟩) rfl entl_nil))
   (fun c2 h => ret_at hR _ h (fun n => n) rfl rfl rfl (rn_tup ⟨(rn_agg ⟨(rn_int rfl), (rn_int rfl), rn_nils, (rn_int rfl), (rn_int rfl), (rn_tf rfl), trivial⟩), (rn_int rfl), trivial⟩) rfl entl_nil))
   (fun c1 h => ret_at hR _ h (fun n => n) rfl rfl rfl (rn_tup ⟨(rn_agg ⟨(rn_int rfl), (rn_int rfl), rn_nils, (rn_int rfl), (rn_int rfl), (rn_tf rfl), trivial⟩), (rn_int rfl), trivial⟩) rfl entl_nil))
   (fun c0 h => ret_at hR _ h (fun n => n) rfl rfl rfl (rn_tup ⟨(rn_agg ⟨(rn_int rfl), (rn_int rfl), rn_nils, (rn_int rfl), (rn_int rfl), (rn_tf rfl), trivial⟩), (rn_int rfl), trivial⟩) rfl entl_nil)
theorem a17 (ca : Int) (af : Int) {r : Rt17} (h : Goes ((q17 ca af)) ((p17 ca af)) r) : CallR Try.prog 17 [.int .i64 ca, .int .i64 af] [[]] 0 ((V17 ca af) r) ((fun r => [newL (0 + 1) ((N17 ca af) r) ++ []]) r) 400 ∧ ∃ F, Try.prog.funcs[17]? = some F ∧ F.body.isSome = true ∧ (F.name == "runtime.NumGoroutine") = false := by
  refine dec_calls (f := 17) (lo := 0) (hi := 400) (H := [[]]) (args := [.int .i64 ca, .int .i64 af]) Try.envOk Try.mixed xB_ok ((I17 ca af)) ((V17 ca af)) (fun r => [newL (0 + 1) ((N17 ca af) r) ++ []]) (fn := mkFn Try.f17) (ts := []) (n := 400) rfl (by decide) (by simp) (names_of rfl) ?_ ?_ ?_ h
  · intro s; exact s.elim
  · intro Kst Kret x hS hR h
    exact Holds.eq (te17 cond Kst Kret ca af) (be17 ca af Kst Kret x hS hR h)
  · intro Kst Kret x hS hR s h; exact s.elim
noncomputable def k17 : Con := ⟨17, [.one (.plain (.int .i64)), .one (.plain (.int .i64))], fun (x : Int × Int × Unit) => (fun (ca : Int) (af : Int) => decide (True)) x.1 x.2.1, fun (x : Int × Int × Unit) => (fun (ca : Int) (af : Int) => (V17 ca af) (S.newS ca af)) x.1 x.2.1, fun (x : Int × Int × Unit) => (fun (ca : Int) (af : Int) => (N17 ca af) (S.newS ca af)) x.1 x.2.1, fun _ _ => .dead⟩
theorem s17 (ca : Int) (af : Int) (hp : True) : Goes ((q17 ca af)) ((p17 ca af)) (S.newS ca af) := by
  show Goes _ _ _
  unfold p17
  repeat' first
    | with_reducible refine goes_if (fun h => ?_) (fun h => ?_) <;> (try simp only [lim64, decide_eq_true_eq, decide_eq_false_iff_not, Int.toNat_natCast, toNat_pred, toNat_succ, Option.getD_some, Option.getD_none, Bool.not_eq_true', Bool.not_eq_false', Bool.and_eq_true, Bool.or_eq_true, Bool.and_eq_false_iff, Bool.or_eq_false_iff, bne_iff_ne, beq_iff_eq, bne_eq_false_iff_eq, beq_eq_false_iff_ne, ne_eq, not_and, Int.not_le, Int.not_lt, ge_iff_le, gt_iff_lt, Nat.not_lt, Nat.not_le, Bool.not_eq_true, Bool.not_eq_false, Bool.true_eq_false, Bool.false_eq_true, not_false_eq_true, not_true_eq_false] at h)
    | exact goes_none.mpr (by omega)
  all_goals first | (exfalso; omega) | (refine goes_inr.mpr ?_; simp only [S.newS]; (repeat' split) <;> first | rfl | omega)

theorem k17_ok : k17.ok Try.prog := by
  intro x hx
  obtain ⟨ca, af, _⟩ := x
  obtain ⟨h1, h2⟩ := a17 ca af (s17 ca af (of_dec hx rfl))
  exact ⟨⟨400, (by decide : 0 + 1 + 0 ≤ 400), h1⟩, h2⟩
abbrev St18 := Empty
abbrev Rt18 := Int × Int × Int × Int
noncomputable def V18 (ca : Int) (af : Int) (r : Rt18) : PV := PV.tup
 [PV.agg
 [PV.int IntKind.i64 r.1, PV.int IntKind.i64 r.2.1, PV.nils,
 PV.int IntKind.i64 (0 : Int), PV.int IntKind.i64 r.2.2.1, PV.tf false],
 PV.int IntKind.i64 r.2.2.2]
noncomputable def N18 (ca : Int) (af : Int) (r : Rt18) : List Blk := []
noncomputable def I18 (ca : Int) (af : Int) : St18 → Hd := fun s => s.elim
noncomputable def q18 (ca : Int) (af : Int) : St18 → Option (St18 ⊕ Rt18) := fun s => s.elim
noncomputable def p18 (ca : Int) (af : Int) : Option (St18 ⊕ Rt18) := bif (decide (ca < (1 : Int)))
 then (some (.inr ((0 : Int), (0 : Int), (0 : Int), (6 : Int))))
 else (bif (decide (ca > (200 : Int)))
 then (some (.inr ((0 : Int), (0 : Int), (0 : Int), (6 : Int))))
 else (bif (decide (af < (0 : Int)))
 then (some (.inr ((0 : Int), (0 : Int), (0 : Int), (6 : Int))))
 else (bif (decide (af > (200 : Int)))
 then (some (.inr ((0 : Int), (0 : Int), (0 : Int), (6 : Int))))
 else (some (.inr (ca, af, (-1 : Int), (0 : Int)))))))
noncomputable def Te18 (test : Bool → Prop → Prop → Prop) (Kst : KS) (Kret : KR) (ca : Int) (af : Int) : Prop :=
  test (decide (ca < (1 : Int)))
 (Kret (PV.tup
 [PV.agg
 [PV.int IntKind.i64 (0 : Int), PV.int IntKind.i64 (0 : Int), PV.nils,
 PV.int IntKind.i64 (0 : Int), PV.int IntKind.i64 (0 : Int), PV.tf false],
 PV.int IntKind.i64 (6 : Int)]) ([[]]) (1))
 (test (decide (ca > (200 : Int)))
 (Kret (PV.tup
 [PV.agg
 [PV.int IntKind.i64 (0 : Int), PV.int IntKind.i64 (0 : Int), PV.nils,
 PV.int IntKind.i64 (0 : Int), PV.int IntKind.i64 (0 : Int), PV.tf false],
 PV.int IntKind.i64 (6 : Int)]) ([[]]) (1))
 (test (decide (af < (0 : Int)))
 (Kret (PV.tup
 [PV.agg
 [PV.int IntKind.i64 (0 : Int), PV.int IntKind.i64 (0 : Int), PV.nils,
 PV.int IntKind.i64 (0 : Int), PV.int IntKind.i64 (0 : Int), PV.tf false],
 PV.int IntKind.i64 (6 : Int)]) ([[]]) (1))
 (test (decide (af > (200 : Int)))
 (Kret (PV.tup
 [PV.agg
 [PV.int IntKind.i64 (0 : Int), PV.int IntKind.i64 (0 : Int), PV.nils,
 PV.int IntKind.i64 (0 : Int), PV.int IntKind.i64 (0 : Int), PV.tf false],
 PV.int IntKind.i64 (6 : Int)]) ([[]]) (1))
 (Kret (PV.tup
 [PV.agg
 [PV.int IntKind.i64 ca, PV.int IntKind.i64 af, PV.nils,
 PV.int IntKind.i64 (0 : Int), PV.int IntKind.i64 (-1 : Int), PV.tf false],
 PV.int IntKind.i64 (0 : Int)]) ([[]]) (1)))))
set_option maxRecDepth 100000 in
theorem te18 (test : Bool → Prop → Prop → Prop) (Kst : KS) (Kret : KR) (ca : Int) (af : Int) : run test Try.env true (xB test) true 400 ⟨18, [.cd (mkFn Try.f18).body], argT 0 [.int .i64 ca, .int .i64 af], [[], []], 0⟩ (proj 0 [] Kst Kret) =
  Te18 test Kst Kret ca af := by kernel_rfl
set_option maxRecDepth 100000 in
theorem be18 (ca : Int) (af : Int) (Kst : KS) (Kret : KR) (x : St18 ⊕ Rt18) (hS : HS 0 400 ((I18 ca af)) Kst x) (hR : HR 0 400 ((V18 ca af)) (fun r => [newL (0 + 1) ((N18 ca af) r) ++ []]) Kret x) (h : (bif (decide (ca < (1 : Int)))
 then (some (.inr ((0 : Int), (0 : Int), (0 : Int), (6 : Int))))
 else (bif (decide (ca > (200 : Int)))
 then (some (.inr ((0 : Int), (0 : Int), (0 : Int), (6 : Int))))
 else (bif (decide (af < (0 : Int)))
 then (some (.inr ((0 : Int), (0 : Int), (0 : Int), (6 : Int))))
 else (bif (decide (af > (200 : Int)))
 then (some (.inr ((0 : Int), (0 : Int), (0 : Int), (6 : Int))))
 else (some (.inr (ca, af, (-1 : Int), (0 : Int))))))) : Option (St18 ⊕ Rt18)) = some x) : Te18 cond Kst Kret ca af := by
  unfold Te18
  exact bif_split h
   (fun c0 h => ret_at hR _ h (fun n => n) rfl rfl rfl (rn_tup ⟨(rn_agg ⟨(rn_int rfl), (rn_int rfl), rn_nils, (rn_int rfl), (rn_int rfl), (rn_tf rfl), trivial⟩), (rn_int rfl), trivial⟩) rfl entl_nil)
   (fun c0 h => bif_split h
   (fun c1 h => ret_at hR _ h (fun n => n) rfl rfl rfl (rn_tup ⟨(rn_agg ⟨(rn_int rfl), (rn_int rfl), rn_nils, (rn_int rfl), (rn_int rfl), (rn_tf rfl), trivial⟩), (rn_int rfl), trivial⟩) rfl entl_nil)
   (fun c1 h => bif_split h
   (fun c2 h => ret_at hR _ h (fun n => n) rfl rfl rfl (rn_tup ⟨(rn_agg ⟨(rn_int rfl), (rn_int rfl), rn_nils, (rn_int rfl), (rn_int rfl), (rn_tf rfl), trivial⟩), (rn_int rfl), trivial⟩) rfl entl_nil)
   (fun c2 h => bif_split h
   (fun c3 h => ret_at hR _ h (fun n => n) rfl rfl rfl (rn_tup ⟨(rn_agg ⟨(rn_int rfl), (rn_int rfl), rn_nils, (rn_int rfl), (rn_int rfl), (rn_tf rfl), trivial⟩), (rn_int rfl), trivial⟩) rfl entl_nil)
   (fun c3 h => ret_at hR _ h (fun n => n) rfl rfl rfl (rn_tup ⟨(rn_agg ⟨(rn_int rfl), (rn_int rfl), rn_nils, (rn_int rfl), (rn_int rfl), (rn_tf rfl), trivial⟩), (rn_int rfl), trivial⟩) rfl entl_nil))))
theorem a18 (ca : Int) (af : Int) {r : Rt18} (h : Goes ((q18 ca af)) ((p18 ca af)) r) : CallR Try.prog 18 [.int .i64 ca, .int .i64 af] [[]] 0 ((V18 ca af) r) ((fun r => [newL (0 + 1) ((N18 ca af) r) ++ []]) r) 400 ∧ ∃ F, Try.prog.funcs[18]? = some F ∧ F.body.isSome = true ∧ (F.name == "runtime.NumGoroutine") = false := by
  refine dec_calls (f := 18) (lo := 0) (hi := 400) (H := [[]]) (args := [.int .i64 ca, .int .i64 af]) Try.envOk Try.mixed xB_ok ((I18 ca af)) ((V18 ca af)) (fun r => [newL (0 + 1) ((N18 ca af) r) ++ []]) (fn := mkFn Try.f18) (ts := []) (n := 400) rfl (by decide) (by simp) (names_of rfl) ?_ ?_ ?_ h
  · intro s; exact s.elim
  · intro Kst Kret x hS hR h
    exact Holds.eq (te18 cond Kst Kret ca af) (be18 ca af Kst Kret x hS hR h)
  · intro Kst Kret x hS hR s h; exact s.elim
noncomputable def k18 : Con := ⟨18, [.one (.plain (.int .i64)), .one (.plain (.int .i64))], fun (x : Int × Int × Unit) => (fun (ca : Int) (af : Int) => decide (True)) x.1 x.2.1, fun (x : Int × Int × Unit) => (fun (ca : Int) (af : Int) => (V18 ca af) (S.newS ca af)) x.1 x.2.1, fun (x : Int × Int × Unit) => (fun (ca : Int) (af : Int) => (N18 ca af) (S.newS ca af)) x.1 x.2.1, fun _ _ => .dead⟩
theorem s18 (ca : Int) (af : Int) (hp : True) : Goes ((q18 ca af)) ((p18 ca af)) (S.newS ca af) := by
  show Goes _ _ _
  unfold p18
  repeat' first
    | with_reducible refine goes_if (fun h => ?_) (fun h => ?_) <;> (try simp only [lim64, decide_eq_true_eq, decide_eq_false_iff_not, Int.toNat_natCast, toNat_pred, toNat_succ, Option.getD_some, Option.getD_none, Bool.not_eq_true', Bool.not_eq_false', Bool.and_eq_true, Bool.or_eq_true, Bool.and_eq_false_iff, Bool.or_eq_false_iff, bne_iff_ne, beq_iff_eq, bne_eq_false_iff_eq, beq_eq_false_iff_ne, ne_eq, not_and, Int.not_le, Int.not_lt, ge_iff_le, gt_iff_lt, Nat.not_lt, Nat.not_le, Bool.not_eq_true, Bool.not_eq_false, Bool.true_eq_false, Bool.false_eq_true, not_false_eq_true, not_true_eq_false] at h)
    | exact goes_none.mpr (by omega)
  all_goals first | (exfalso; omega) | (refine goes_inr.mpr ?_; simp only [S.newS]; (repeat' split) <;> first | rfl | omega)

theorem k18_ok : k18.ok Try.prog := by
  intro x hx
  obtain ⟨ca, af, _⟩ := x
  obtain ⟨h1, h2⟩ := a18 ca af (s18 ca af (of_dec hx rfl))
  exact ⟨⟨400, (by decide : 0 + 1 + 0 ≤ 400), h1⟩, h2⟩
abbrev St13 := Empty
abbrev Rt13 := List (Int × Int × Bool)
noncomputable def V13 (ca : Int) (af : Int) (al nl ml : Nat) (tl : Nat → Int) (vl : Nat → Int) (gl : Nat → Bool) (ov : Int) (re : Int) (fz : Bool) (r : Rt13) : PV := PV.agg
 [PV.int IntKind.i64 ca, PV.int IntKind.i64 af,
 PV.own (2) (3) (List.length r), PV.int IntKind.i64 ov,
 PV.int IntKind.i64 re, PV.bool fz]
noncomputable def N13 (ca : Int) (af : Int) (al nl ml : Nat) (tl : Nat → Int) (vl : Nat → Int) (gl : Nat → Bool) (ov : Int) (re : Int) (fz : Bool) (r : Rt13) : List Blk := [Blk.cols (List.length r)
 [Col.int IntKind.i64 fun (j : Nat) => (S.at' r j).1,
 Col.int IntKind.i64 fun (j : Nat) => (S.at' r j).2.1,
 Col.bool fun (j : Nat) => (S.at' r j).2.2]]
noncomputable def I13 (ca : Int) (af : Int) (al nl ml : Nat) (tl : Nat → Int) (vl : Nat → Int) (gl : Nat → Bool) (ov : Int) (re : Int) (fz : Bool) : St13 → Hd := fun s => s.elim
noncomputable def q13 (ca : Int) (af : Int) (al nl ml : Nat) (tl : Nat → Int) (vl : Nat → Int) (gl : Nat → Bool) (ov : Int) (re : Int) (fz : Bool) : St13 → Option (St13 ⊕ Rt13) := fun s => s.elim
noncomputable def p13 (ca : Int) (af : Int) (al nl ml : Nat) (tl : Nat → Int) (vl : Nat → Int) (gl : Nat → Bool) (ov : Int) (re : Int) (fz : Bool) : Option (St13 ⊕ Rt13) := bif (decide (al + nl ≤ ml ∧ nl ≤ 1000000))
 then (some (.inr (S.mkl nl fun (j : Nat) => (tl (j + al), vl (j + al), gl (j + al)))))
 else (none)
noncomputable def Te13 (test : Bool → Prop → Prop → Prop) (Kst : KS) (Kret : KR) (ca : Int) (af : Int) (al nl ml : Nat) (tl : Nat → Int) (vl : Nat → Int) (gl : Nat → Bool) (ov : Int) (re : Int) (fz : Bool) : Prop :=
  test (decide (al + nl ≤ ml ∧ nl ≤ 1000000))
 (Kret (PV.agg
 [PV.int IntKind.i64 ca, PV.int IntKind.i64 af, PV.own (4) (3) nl,
 PV.int IntKind.i64 ov, PV.int IntKind.i64 re, PV.bool fz]) ([[(0, false,
 Blk.cols ml [Col.int IntKind.i64 tl, Col.int IntKind.i64 vl, Col.bool gl]),
 (4, true,
 Blk.cols nl
 [Col.int IntKind.i64 fun (j : Nat) => tl (j + al),
 Col.int IntKind.i64 fun (j : Nat) => vl (j + al), Col.bool fun (j : Nat) => gl (j + al)])]]) (5))
 (False)
set_option maxRecDepth 100000 in
theorem te13 (test : Bool → Prop → Prop → Prop) (Kst : KS) (Kret : KR) (ca : Int) (af : Int) (al nl ml : Nat) (tl : Nat → Int) (vl : Nat → Int) (gl : Nat → Bool) (ov : Int) (re : Int) (fz : Bool) : run test Try.env true (xB test) true 400 ⟨13, [.cd (mkFn Try.f13).body], argT 0 [.agg [.int .i64 ca, .int .i64 af, .loose ⟨0, 3, al, 0⟩ nl, .int .i64 ov, .int .i64 re, .bool fz]], [[], [(0, (false, .cols ml [.int .i64 tl, .int .i64 vl, .bool gl]))]], 1⟩ (proj 1 [] Kst Kret) =
  Te13 test Kst Kret ca af al nl ml tl vl gl ov re fz := by kernel_rfl
set_option maxRecDepth 100000 in
theorem be13 (ca : Int) (af : Int) (al nl ml : Nat) (tl : Nat → Int) (vl : Nat → Int) (gl : Nat → Bool) (ov : Int) (re : Int) (fz : Bool) (Kst : KS) (Kret : KR) (x : St13 ⊕ Rt13) (hS : HS 1 400 ((I13 ca af al nl ml tl vl gl ov re fz)) Kst x) (hR : HR 1 400 ((V13 ca af al nl ml tl vl gl ov re fz)) (fun r => [newL (1 + 1) ((N13 ca af al nl ml tl vl gl ov re fz) r) ++ [(0, (false, .cols ml [.int .i64 tl, .int .i64 vl, .bool gl]))]]) Kret x) (h : (bif (decide (al + nl ≤ ml ∧ nl ≤ 1000000))
 then (some (.inr (S.mkl nl fun (j : Nat) => (tl (j + al), vl (j + al), gl (j + al)))))
 else (none) : Option (St13 ⊕ Rt13)) = some x) : Te13 cond Kst Kret ca af al nl ml tl vl gl ov re fz := by
  unfold Te13
  exact bif_split h
   (fun c0 h => ret_at hR _ h (fun n => bif Nat.beq n 2 then 4 else n) rfl rfl rfl (rn_agg ⟨(rn_int rfl), (rn_int rfl), (rn_own (use_own rfl) rfl mkl_len), (rn_int rfl), (rn_int rfl), (rn_bool rfl), trivial⟩) rfl (entl_new (use_own rfl) rfl (Nat.le_of_eq mkl_len) (rcs_int (fun _ hj => col_mkl (fun (t : Int × Int × Bool) => t.1) hj) (rcs_int (fun _ hj => col_mkl (fun (t : Int × Int × Bool) => t.2.1) hj) (rcs_bool (fun _ hj => col_mkl (fun (t : Int × Int × Bool) => t.2.2) hj) rcs_nil))) (entl_bor (use_lo rfl) rfl rfl entl_nil)))
   (fun c0 h => no_some h)
theorem a13 (ca : Int) (af : Int) (al nl ml : Nat) (tl : Nat → Int) (vl : Nat → Int) (gl : Nat → Bool) (ov : Int) (re : Int) (fz : Bool) {r : Rt13} (h : Goes ((q13 ca af al nl ml tl vl gl ov re fz)) ((p13 ca af al nl ml tl vl gl ov re fz)) r) : CallR Try.prog 13 [.agg [.int .i64 ca, .int .i64 af, .loose ⟨0, 3, al, 0⟩ nl, .int .i64 ov, .int .i64 re, .bool fz]] [[(0, (false, .cols ml [.int .i64 tl, .int .i64 vl, .bool gl]))]] 1 ((V13 ca af al nl ml tl vl gl ov re fz) r) ((fun r => [newL (1 + 1) ((N13 ca af al nl ml tl vl gl ov re fz) r) ++ [(0, (false, .cols ml [.int .i64 tl, .int .i64 vl, .bool gl]))]]) r) 400 ∧ ∃ F, Try.prog.funcs[13]? = some F ∧ F.body.isSome = true ∧ (F.name == "runtime.NumGoroutine") = false := by
  refine dec_calls (f := 13) (lo := 1) (hi := 400) (H := [[(0, (false, .cols ml [.int .i64 tl, .int .i64 vl, .bool gl]))]]) (args := [.agg [.int .i64 ca, .int .i64 af, .loose ⟨0, 3, al, 0⟩ nl, .int .i64 ov, .int .i64 re, .bool fz]]) Try.envOk Try.mixed xB_ok ((I13 ca af al nl ml tl vl gl ov re fz)) ((V13 ca af al nl ml tl vl gl ov re fz)) (fun r => [newL (1 + 1) ((N13 ca af al nl ml tl vl gl ov re fz) r) ++ [(0, (false, .cols ml [.int .i64 tl, .int .i64 vl, .bool gl]))]]) (fn := mkFn Try.f13) (ts := []) (n := 400) rfl (by decide) (by simp) (names_of rfl) ?_ ?_ ?_ h
  · intro s; exact s.elim
  · intro Kst Kret x hS hR h
    exact Holds.eq (te13 cond Kst Kret ca af al nl ml tl vl gl ov re fz) (be13 ca af al nl ml tl vl gl ov re fz Kst Kret x hS hR h)
  · intro Kst Kret x hS hR s h; exact s.elim
noncomputable def k13 : Con := ⟨13, [.agg [.plain (.int .i64), .plain (.int .i64), .list [.int .i64, .int .i64, .bool], .plain (.int .i64), .plain (.int .i64), .plain (.bool)]], fun (x : (Int × Int × (Nat × Nat × Nat × (Nat → Int) × (Nat → Int) × (Nat → Bool) × Unit) × Int × Int × Bool × Unit) × Unit) => (fun (ca : Int) (af : Int) (al nl ml : Nat) (tl : Nat → Int) (vl : Nat → Int) (gl : Nat → Bool) (ov : Int) (re : Int) (fz : Bool) => decide (al + nl ≤ ml ∧ nl ≤ 1000000)) x.1.1 x.1.2.1 x.1.2.2.1.1 x.1.2.2.1.2.1 x.1.2.2.1.2.2.1 x.1.2.2.1.2.2.2.1 x.1.2.2.1.2.2.2.2.1 x.1.2.2.1.2.2.2.2.2.1 x.1.2.2.2.1 x.1.2.2.2.2.1 x.1.2.2.2.2.2.1, fun (x : (Int × Int × (Nat × Nat × Nat × (Nat → Int) × (Nat → Int) × (Nat → Bool) × Unit) × Int × Int × Bool × Unit) × Unit) => (fun (ca : Int) (af : Int) (al nl ml : Nat) (tl : Nat → Int) (vl : Nat → Int) (gl : Nat → Bool) (ov : Int) (re : Int) (fz : Bool) => (V13 ca af al nl ml tl vl gl ov re fz) ((S.mkl nl fun j => (tl (j + al), vl (j + al), gl (j + al))))) x.1.1 x.1.2.1 x.1.2.2.1.1 x.1.2.2.1.2.1 x.1.2.2.1.2.2.1 x.1.2.2.1.2.2.2.1 x.1.2.2.1.2.2.2.2.1 x.1.2.2.1.2.2.2.2.2.1 x.1.2.2.2.1 x.1.2.2.2.2.1 x.1.2.2.2.2.2.1, fun (x : (Int × Int × (Nat × Nat × Nat × (Nat → Int) × (Nat → Int) × (Nat → Bool) × Unit) × Int × Int × Bool × Unit) × Unit) => (fun (ca : Int) (af : Int) (al nl ml : Nat) (tl : Nat → Int) (vl : Nat → Int) (gl : Nat → Bool) (ov : Int) (re : Int) (fz : Bool) => (N13 ca af al nl ml tl vl gl ov re fz) ((S.mkl nl fun j => (tl (j + al), vl (j + al), gl (j + al))))) x.1.1 x.1.2.1 x.1.2.2.1.1 x.1.2.2.1.2.1 x.1.2.2.1.2.2.1 x.1.2.2.1.2.2.2.1 x.1.2.2.1.2.2.2.2.1 x.1.2.2.1.2.2.2.2.2.1 x.1.2.2.2.1 x.1.2.2.2.2.1 x.1.2.2.2.2.2.1, fun _ _ => .dead⟩
theorem s13 (ca : Int) (af : Int) (al nl ml : Nat) (tl : Nat → Int) (vl : Nat → Int) (gl : Nat → Bool) (ov : Int) (re : Int) (fz : Bool) (hp : al + nl ≤ ml ∧ nl ≤ 1000000) : Goes ((q13 ca af al nl ml tl vl gl ov re fz)) ((p13 ca af al nl ml tl vl gl ov re fz)) ((S.mkl nl fun j => (tl (j + al), vl (j + al), gl (j + al)))) := by
  obtain ⟨hp1, hp2⟩ := hp
  show Goes _ _ _
  unfold p13
  repeat' first
    | with_reducible refine goes_if (fun h => ?_) (fun h => ?_) <;> (try simp only [lim64, decide_eq_true_eq, decide_eq_false_iff_not, Int.toNat_natCast, toNat_pred, toNat_succ, Option.getD_some, Option.getD_none, Bool.not_eq_true', Bool.not_eq_false', Bool.and_eq_true, Bool.or_eq_true, Bool.and_eq_false_iff, Bool.or_eq_false_iff, bne_iff_ne, beq_iff_eq, bne_eq_false_iff_eq, beq_eq_false_iff_ne, ne_eq, not_and, Int.not_le, Int.not_lt, ge_iff_le, gt_iff_lt, Nat.not_lt, Nat.not_le, Bool.not_eq_true, Bool.not_eq_false, Bool.true_eq_false, Bool.false_eq_true, not_false_eq_true, not_true_eq_false] at h)
    | exact goes_none.mpr (by omega)
  all_goals first | (exfalso; omega) | rfl

theorem k13_ok : k13.ok Try.prog := by
  intro x hx
  obtain ⟨⟨ca, af, ⟨al, nl, ml, tl, vl, gl, _⟩, ov, re, fz, _⟩, _⟩ := x
  obtain ⟨h1, h2⟩ := a13 ca af al nl ml tl vl gl ov re fz (s13 ca af al nl ml tl vl gl ov re fz (of_dec hx rfl))
  exact ⟨⟨400, (by decide : 1 + 1 + 1 ≤ 400), h1⟩, h2⟩
abbrev St47 := Empty
abbrev Rt47 := List (Int × Int × Bool)
noncomputable def V47 (ca : Int) (af : Int) (al nl ml : Nat) (tl : Nat → Int) (vl : Nat → Int) (gl : Nat → Bool) (ov : Int) (re : Int) (fz : Bool) (r : Rt47) : PV := PV.agg
 [PV.int IntKind.i64 ca, PV.int IntKind.i64 af,
 PV.own (2) (3) (List.length r), PV.int IntKind.i64 ov,
 PV.int IntKind.i64 re, PV.bool fz]
noncomputable def N47 (ca : Int) (af : Int) (al nl ml : Nat) (tl : Nat → Int) (vl : Nat → Int) (gl : Nat → Bool) (ov : Int) (re : Int) (fz : Bool) (r : Rt47) : List Blk := [Blk.cols (List.length r)
 [Col.int IntKind.i64 fun (j : Nat) => (S.at' r j).1,
 Col.int IntKind.i64 fun (j : Nat) => (S.at' r j).2.1,
 Col.bool fun (j : Nat) => (S.at' r j).2.2]]
noncomputable def I47 (ca : Int) (af : Int) (al nl ml : Nat) (tl : Nat → Int) (vl : Nat → Int) (gl : Nat → Bool) (ov : Int) (re : Int) (fz : Bool) : St47 → Hd := fun s => s.elim
noncomputable def q47 (ca : Int) (af : Int) (al nl ml : Nat) (tl : Nat → Int) (vl : Nat → Int) (gl : Nat → Bool) (ov : Int) (re : Int) (fz : Bool) : St47 → Option (St47 ⊕ Rt47) := fun s => s.elim
noncomputable def p47 (ca : Int) (af : Int) (al nl ml : Nat) (tl : Nat → Int) (vl : Nat → Int) (gl : Nat → Bool) (ov : Int) (re : Int) (fz : Bool) : Option (St47 ⊕ Rt47) := bif (decide (al + nl ≤ ml ∧ nl ≤ 1000000))
 then (some (.inr (S.mkl nl fun (j : Nat) => (tl (j + al), vl (j + al), gl (j + al)))))
 else (none)
noncomputable def Te47 (test : Bool → Prop → Prop → Prop) (Kst : KS) (Kret : KR) (ca : Int) (af : Int) (al nl ml : Nat) (tl : Nat → Int) (vl : Nat → Int) (gl : Nat → Bool) (ov : Int) (re : Int) (fz : Bool) : Prop :=
  test (decide (al + nl ≤ ml ∧ nl ≤ 1000000))
 (Kret (PV.agg
 [PV.int IntKind.i64 ca, PV.int IntKind.i64 af, PV.own (4) (3) nl,
 PV.int IntKind.i64 ov, PV.int IntKind.i64 re, PV.bool fz]) ([[(0, false,
 Blk.cols ml [Col.int IntKind.i64 tl, Col.int IntKind.i64 vl, Col.bool gl]),
 (4, true,
 Blk.cols nl
 [Col.int IntKind.i64 fun (j : Nat) => tl (j + al),
 Col.int IntKind.i64 fun (j : Nat) => vl (j + al), Col.bool fun (j : Nat) => gl (j + al)])]]) (5))
 (False)
set_option maxRecDepth 100000 in
theorem te47 (test : Bool → Prop → Prop → Prop) (Kst : KS) (Kret : KR) (ca : Int) (af : Int) (al nl ml : Nat) (tl : Nat → Int) (vl : Nat → Int) (gl : Nat → Bool) (ov : Int) (re : Int) (fz : Bool) : run test Try.env true (xB test) true 400 ⟨47, [.cd (mkFn Try.f47).body], argT 0 [.agg [.int .i64 ca, .int .i64 af, .loose ⟨0, 3, al, 0⟩ nl, .int .i64 ov, .int .i64 re, .bool fz]], [[], [(0, (false, .cols ml [.int .i64 tl, .int .i64 vl, .bool gl]))]], 1⟩ (proj 1 [] Kst Kret) =
  Te47 test Kst Kret ca af al nl ml tl vl gl ov re fz := by kernel_rfl
set_option maxRecDepth 100000 in
theorem be47 (ca : Int) (af : Int) (al nl ml : Nat) (tl : Nat → Int) (vl : Nat → Int) (gl : Nat → Bool) (ov : Int) (re : Int) (fz : Bool) (Kst : KS) (Kret : KR) (x : St47 ⊕ Rt47) (hS : HS 1 400 ((I47 ca af al nl ml tl vl gl ov re fz)) Kst x) (hR : HR 1 400 ((V47 ca af al nl ml tl vl gl ov re fz)) (fun r => [newL (1 + 1) ((N47 ca af al nl ml tl vl gl ov re fz) r) ++ [(0, (false, .cols ml [.int .i64 tl, .int .i64 vl, .bool gl]))]]) Kret x) (h : (bif (decide (al + nl ≤ ml ∧ nl ≤ 1000000))
 then (some (.inr (S.mkl nl fun (j : Nat) => (tl (j + al), vl (j + al), gl (j + al)))))
 else (none) : Option (St47 ⊕ Rt47)) = some x) : Te47 cond Kst Kret ca af al nl ml tl vl gl ov re fz := by
  unfold Te47
  exact bif_split h
   (fun c0 h => ret_at hR _ h (fun n => bif Nat.beq n 2 then 4 else n) rfl rfl rfl (rn_agg ⟨(rn_int rfl), (rn_int rfl), (rn_own (use_own rfl) rfl mkl_len), (rn_int rfl), (rn_int rfl), (rn_bool rfl), trivial⟩) rfl (entl_new (use_own rfl) rfl (Nat.le_of_eq mkl_len) (rcs_int (fun _ hj => col_mkl (fun (t : Int × Int × Bool) => t.1) hj) (rcs_int (fun _ hj => col_mkl (fun (t : Int × Int × Bool) => t.2.1) hj) (rcs_bool (fun _ hj => col_mkl (fun (t : Int × Int × Bool) => t.2.2) hj) rcs_nil))) (entl_bor (use_lo rfl) rfl rfl entl_nil)))
   (fun c0 h => no_some h)
theorem a47 (ca : Int) (af : Int) (al nl ml : Nat) (tl : Nat → Int) (vl : Nat → Int) (gl : Nat → Bool) (ov : Int) (re : Int) (fz : Bool) {r : Rt47} (h : Goes ((q47 ca af al nl ml tl vl gl ov re fz)) ((p47 ca af al nl ml tl vl gl ov re fz)) r) : CallR Try.prog 47 [.agg [.int .i64 ca, .int .i64 af, .loose ⟨0, 3, al, 0⟩ nl, .int .i64 ov, .int .i64 re, .bool fz]] [[(0, (false, .cols ml [.int .i64 tl, .int .i64 vl, .bool gl]))]] 1 ((V47 ca af al nl ml tl vl gl ov re fz) r) ((fun r => [newL (1 + 1) ((N47 ca af al nl ml tl vl gl ov re fz) r) ++ [(0, (false, .cols ml [.int .i64 tl, .int .i64 vl, .bool gl]))]]) r) 400 ∧ ∃ F, Try.prog.funcs[47]? = some F ∧ F.body.isSome = true ∧ (F.name == "runtime.NumGoroutine") = false := by
  refine dec_calls (f := 47) (lo := 1) (hi := 400) (H := [[(0, (false, .cols ml [.int .i64 tl, .int .i64 vl, .bool gl]))]]) (args := [.agg [.int .i64 ca, .int .i64 af, .loose ⟨0, 3, al, 0⟩ nl, .int .i64 ov, .int .i64 re, .bool fz]]) Try.envOk Try.mixed xB_ok ((I47 ca af al nl ml tl vl gl ov re fz)) ((V47 ca af al nl ml tl vl gl ov re fz)) (fun r => [newL (1 + 1) ((N47 ca af al nl ml tl vl gl ov re fz) r) ++ [(0, (false, .cols ml [.int .i64 tl, .int .i64 vl, .bool gl]))]]) (fn := mkFn Try.f47) (ts := []) (n := 400) rfl (by decide) (by simp) (names_of rfl) ?_ ?_ ?_ h
  · intro s; exact s.elim
  · intro Kst Kret x hS hR h
    exact Holds.eq (te47 cond Kst Kret ca af al nl ml tl vl gl ov re fz) (be47 ca af al nl ml tl vl gl ov re fz Kst Kret x hS hR h)
  · intro Kst Kret x hS hR s h; exact s.elim
noncomputable def k47 : Con := ⟨47, [.agg [.plain (.int .i64), .plain (.int .i64), .list [.int .i64, .int .i64, .bool], .plain (.int .i64), .plain (.int .i64), .plain (.bool)]], fun (x : (Int × Int × (Nat × Nat × Nat × (Nat → Int) × (Nat → Int) × (Nat → Bool) × Unit) × Int × Int × Bool × Unit) × Unit) => (fun (ca : Int) (af : Int) (al nl ml : Nat) (tl : Nat → Int) (vl : Nat → Int) (gl : Nat → Bool) (ov : Int) (re : Int) (fz : Bool) => decide (al + nl ≤ ml ∧ nl ≤ 1000000)) x.1.1 x.1.2.1 x.1.2.2.1.1 x.1.2.2.1.2.1 x.1.2.2.1.2.2.1 x.1.2.2.1.2.2.2.1 x.1.2.2.1.2.2.2.2.1 x.1.2.2.1.2.2.2.2.2.1 x.1.2.2.2.1 x.1.2.2.2.2.1 x.1.2.2.2.2.2.1, fun (x : (Int × Int × (Nat × Nat × Nat × (Nat → Int) × (Nat → Int) × (Nat → Bool) × Unit) × Int × Int × Bool × Unit) × Unit) => (fun (ca : Int) (af : Int) (al nl ml : Nat) (tl : Nat → Int) (vl : Nat → Int) (gl : Nat → Bool) (ov : Int) (re : Int) (fz : Bool) => (V47 ca af al nl ml tl vl gl ov re fz) ((S.mkl nl fun j => (tl (j + al), vl (j + al), gl (j + al))))) x.1.1 x.1.2.1 x.1.2.2.1.1 x.1.2.2.1.2.1 x.1.2.2.1.2.2.1 x.1.2.2.1.2.2.2.1 x.1.2.2.1.2.2.2.2.1 x.1.2.2.1.2.2.2.2.2.1 x.1.2.2.2.1 x.1.2.2.2.2.1 x.1.2.2.2.2.2.1, fun (x : (Int × Int × (Nat × Nat × Nat × (Nat → Int) × (Nat → Int) × (Nat → Bool) × Unit) × Int × Int × Bool × Unit) × Unit) => (fun (ca : Int) (af : Int) (al nl ml : Nat) (tl : Nat → Int) (vl : Nat → Int) (gl : Nat → Bool) (ov : Int) (re : Int) (fz : Bool) => (N47 ca af al nl ml tl vl gl ov re fz) ((S.mkl nl fun j => (tl (j + al), vl (j + al), gl (j + al))))) x.1.1 x.1.2.1 x.1.2.2.1.1 x.1.2.2.1.2.1 x.1.2.2.1.2.2.1 x.1.2.2.1.2.2.2.1 x.1.2.2.1.2.2.2.2.1 x.1.2.2.1.2.2.2.2.2.1 x.1.2.2.2.1 x.1.2.2.2.2.1 x.1.2.2.2.2.2.1, fun _ _ => .dead⟩
theorem s47 (ca : Int) (af : Int) (al nl ml : Nat) (tl : Nat → Int) (vl : Nat → Int) (gl : Nat → Bool) (ov : Int) (re : Int) (fz : Bool) (hp : al + nl ≤ ml ∧ nl ≤ 1000000) : Goes ((q47 ca af al nl ml tl vl gl ov re fz)) ((p47 ca af al nl ml tl vl gl ov re fz)) ((S.mkl nl fun j => (tl (j + al), vl (j + al), gl (j + al)))) := by
  obtain ⟨hp1, hp2⟩ := hp
  show Goes _ _ _
  unfold p47
  repeat' first
    | with_reducible refine goes_if (fun h => ?_) (fun h => ?_) <;> (try simp only [lim64, decide_eq_true_eq, decide_eq_false_iff_not, Int.toNat_natCast, toNat_pred, toNat_succ, Option.getD_some, Option.getD_none, Bool.not_eq_true', Bool.not_eq_false', Bool.and_eq_true, Bool.or_eq_true, Bool.and_eq_false_iff, Bool.or_eq_false_iff, bne_iff_ne, beq_iff_eq, bne_eq_false_iff_eq, beq_eq_false_iff_ne, ne_eq, not_and, Int.not_le, Int.not_lt, ge_iff_le, gt_iff_lt, Nat.not_lt, Nat.not_le, Bool.not_eq_true, Bool.not_eq_false, Bool.true_eq_false, Bool.false_eq_true, not_false_eq_true, not_true_eq_false] at h)
    | exact goes_none.mpr (by omega)
  all_goals first | (exfalso; omega) | rfl

theorem k47_ok : k47.ok Try.prog := by
  intro x hx
  obtain ⟨⟨ca, af, ⟨al, nl, ml, tl, vl, gl, _⟩, ov, re, fz, _⟩, _⟩ := x
  obtain ⟨h1, h2⟩ := a47 ca af al nl ml tl vl gl ov re fz (s47 ca af al nl ml tl vl gl ov re fz (of_dec hx rfl))
  exact ⟨⟨400, (by decide : 1 + 1 + 1 ≤ 400), h1⟩, h2⟩
inductive St22 where
  | h0 (x0 : Int)
abbrev Rt22 := Bool
noncomputable def V22 (al nl ml : Nat) (tl : Nat → Int) (vl : Nat → Int) (gl : Nat → Bool) (ak nk mk : Nat) (tk : Nat → Int) (vk : Nat → Int) (gk : Nat → Bool) (r : Rt22) : PV := PV.bool r
noncomputable def N22 (al nl ml : Nat) (tl : Nat → Int) (vl : Nat → Int) (gl : Nat → Bool) (ak nk mk : Nat) (tk : Nat → Int) (vk : Nat → Int) (gk : Nat → Bool) (r : Rt22) : List Blk := []
noncomputable def I22 (al nl ml : Nat) (tl : Nat → Int) (vl : Nat → Int) (gl : Nat → Bool) (ak nk mk : Nat) (tk : Nat → Int) (vk : Nat → Int) (gk : Nat → Bool) : St22 → Hd
  | .h0 x0 => ⟨hd Try.f22 0, [PV.loose (PA.mk (0) (3) al (0)) nl,
 PV.loose (PA.mk (1) (3) ak (0)) nk, PV.int IntKind.i64 x0], [[], [(0, (false, .cols ml [.int .i64 tl, .int .i64 vl, .bool gl])), (1, (false, .cols mk [.int .i64 tk, .int .i64 vk, .bool gk]))]], 2⟩
noncomputable def q22 (al nl ml : Nat) (tl : Nat → Int) (vl : Nat → Int) (gl : Nat → Bool) (ak nk mk : Nat) (tk : Nat → Int) (vk : Nat → Int) (gk : Nat → Bool) : St22 → Option (St22 ⊕ Rt22)
  | .h0 x0 => bif (decide (x0 < (↑nl : Int)))
 then (bif (decide ((0 : Int) ≤ x0 ∧ x0 < (↑nl : Int)))
 then (bif (decide (Int.toNat x0 + al < ml))
 then (bif (decide ((0 : Int) ≤ x0 ∧ x0 < (↑nk : Int)))
 then (bif (decide (Int.toNat x0 + ak < mk))
 then (bif (!(tl (Int.toNat x0 + al) == tk (Int.toNat x0 + ak) &&
 (vl (Int.toNat x0 + al) == vk (Int.toNat x0 + ak) &&
 (gl (Int.toNat x0 + al) == gk (Int.toNat x0 + ak) && true))))
 then (some (.inr (false)))
 else (bif (lim IntKind.i64 (x0 + (1 : Int)))
 then (some (.inl (.h0 (x0 + (1 : Int)))))
 else (none)))
 else (none))
 else (none))
 else (none))
 else (none))
 else (some (.inr (true)))
noncomputable def p22 (al nl ml : Nat) (tl : Nat → Int) (vl : Nat → Int) (gl : Nat → Bool) (ak nk mk : Nat) (tk : Nat → Int) (vk : Nat → Int) (gk : Nat → Bool) : Option (St22 ⊕ Rt22) := bif ((↑nl : Int) != (↑nk : Int))
 then (some (.inr (false)))
 else (some (.inl (.h0 ((0 : Int)))))
noncomputable def Te22 (test : Bool → Prop → Prop → Prop) (Kst : KS) (Kret : KR) (al nl ml : Nat) (tl : Nat → Int) (vl : Nat → Int) (gl : Nat → Bool) (ak nk mk : Nat) (tk : Nat → Int) (vk : Nat → Int) (gk : Nat → Bool) : Prop :=
  test ((↑nl : Int) != (↑nk : Int))
 (Kret (PV.tf false) ([[(1, false,
 Blk.cols mk [Col.int IntKind.i64 tk, Col.int IntKind.i64 vk, Col.bool gk]),
 (0, false,
 Blk.cols ml [Col.int IntKind.i64 tl, Col.int IntKind.i64 vl, Col.bool gl])]]) (2))
 (Kst (hd Try.f22 0) ([PV.loose (PA.mk (0) (3) al (0)) nl,
 PV.loose (PA.mk (1) (3) ak (0)) nk, PV.int IntKind.i64 (0 : Int)]) ([[(1, false,
 Blk.cols mk [Col.int IntKind.i64 tk, Col.int IntKind.i64 vk, Col.bool gk]),
 (0, false,
 Blk.cols ml [Col.int IntKind.i64 tl, Col.int IntKind.i64 vl, Col.bool gl])]]) (2))
set_option maxRecDepth 100000 in
theorem te22 (test : Bool → Prop → Prop → Prop) (Kst : KS) (Kret : KR) (al nl ml : Nat) (tl : Nat → Int) (vl : Nat → Int) (gl : Nat → Bool) (ak nk mk : Nat) (tk : Nat → Int) (vk : Nat → Int) (gk : Nat → Bool) : run test Try.env true (xB test) true 400 ⟨22, [.cd (mkFn Try.f22).body], argT 0 [.loose ⟨0, 3, al, 0⟩ nl, .loose ⟨1, 3, ak, 0⟩ nk], [[], [(0, (false, .cols ml [.int .i64 tl, .int .i64 vl, .bool gl])), (1, (false, .cols mk [.int .i64 tk, .int .i64 vk, .bool gk]))]], 2⟩ (proj 2 [0, 1, 5] Kst Kret) =
  Te22 test Kst Kret al nl ml tl vl gl ak nk mk tk vk gk := by kernel_rfl
noncomputable def T22_0 (test : Bool → Prop → Prop → Prop) (Kst : KS) (Kret : KR) (al nl ml : Nat) (tl : Nat → Int) (vl : Nat → Int) (gl : Nat → Bool) (ak nk mk : Nat) (tk : Nat → Int) (vk : Nat → Int) (gk : Nat → Bool) (x0 : Int) : Prop :=
  test (decide (x0 < (↑nl : Int)))
 (test (decide ((0 : Int) ≤ x0 ∧ x0 < (↑nl : Int)))
 (test (decide (Int.toNat x0 + al < ml))
 (test (decide (Int.toNat x0 + al < ml))
 (test (decide (Int.toNat x0 + al < ml))
 (test (decide ((0 : Int) ≤ x0 ∧ x0 < (↑nk : Int)))
 (test (decide (Int.toNat x0 + ak < mk))
 (test (decide (Int.toNat x0 + ak < mk))
 (test (decide (Int.toNat x0 + ak < mk))
 (test (!(tl (Int.toNat x0 + al) == tk (Int.toNat x0 + ak) &&
 (vl (Int.toNat x0 + al) == vk (Int.toNat x0 + ak) &&
 (gl (Int.toNat x0 + al) == gk (Int.toNat x0 + ak) && true))))
 (Kret (PV.tf false) ([[(1, false,
 Blk.cols mk [Col.int IntKind.i64 tk, Col.int IntKind.i64 vk, Col.bool gk]),
 (0, false,
 Blk.cols ml [Col.int IntKind.i64 tl, Col.int IntKind.i64 vl, Col.bool gl])]]) (2))
 (test (lim IntKind.i64 (x0 + (1 : Int)))
 (Kst (hd Try.f22 0) ([PV.loose (PA.mk (0) (3) al (0)) nl,
 PV.loose (PA.mk (1) (3) ak (0)) nk, PV.int IntKind.i64 (x0 + (1 : Int))]) ([[(1, false,
 Blk.cols mk [Col.int IntKind.i64 tk, Col.int IntKind.i64 vk, Col.bool gk]),
 (0, false,
 Blk.cols ml [Col.int IntKind.i64 tl, Col.int IntKind.i64 vl, Col.bool gl])]]) (2))
 (False)))
 (False))
 (False))
 (False))
 (False))
 (False))
 (False))
 (False))
 (False))
 (Kret (PV.tf true) ([[(1, false,
 Blk.cols mk [Col.int IntKind.i64 tk, Col.int IntKind.i64 vk, Col.bool gk]),
 (0, false,
 Blk.cols ml [Col.int IntKind.i64 tl, Col.int IntKind.i64 vl, Col.bool gl])]]) (2))
set_option maxRecDepth 100000 in
theorem t22_0 (test : Bool → Prop → Prop → Prop) (Kst : KS) (Kret : KR) (al nl ml : Nat) (tl : Nat → Int) (vl : Nat → Int) (gl : Nat → Bool) (ak nk mk : Nat) (tk : Nat → Int) (vk : Nat → Int) (gk : Nat → Bool) (x0 : Int) : run test Try.env true (xB test) true 400 ⟨22, hd Try.f22 0, zipT [0, 1, 5] [PV.loose (PA.mk (0) (3) al (0)) nl,
 PV.loose (PA.mk (1) (3) ak (0)) nk, PV.int IntKind.i64 x0], [[], [(0, (false, .cols ml [.int .i64 tl, .int .i64 vl, .bool gl])), (1, (false, .cols mk [.int .i64 tk, .int .i64 vk, .bool gk]))]], 2⟩ (proj 2 [0, 1, 5] Kst Kret) =
  T22_0 test Kst Kret al nl ml tl vl gl ak nk mk tk vk gk x0 := by kernel_rfl
set_option maxRecDepth 100000 in
theorem be22 (al nl ml : Nat) (tl : Nat → Int) (vl : Nat → Int) (gl : Nat → Bool) (ak nk mk : Nat) (tk : Nat → Int) (vk : Nat → Int) (gk : Nat → Bool) (Kst : KS) (Kret : KR) (x : St22 ⊕ Rt22) (hS : HS 2 400 ((I22 al nl ml tl vl gl ak nk mk tk vk gk)) Kst x) (hR : HR 2 400 ((V22 al nl ml tl vl gl ak nk mk tk vk gk)) (fun r => [newL (2 + 1) ((N22 al nl ml tl vl gl ak nk mk tk vk gk) r) ++ [(0, (false, .cols ml [.int .i64 tl, .int .i64 vl, .bool gl])), (1, (false, .cols mk [.int .i64 tk, .int .i64 vk, .bool gk]))]]) Kret x) (h : (bif ((↑nl : Int) != (↑nk : Int))
 then (some (.inr (false)))
 else (some (.inl (.h0 ((0 : Int))))) : Option (St22 ⊕ Rt22)) = some x) : Te22 cond Kst Kret al nl ml tl vl gl ak nk mk tk vk gk := by
  unfold Te22
  exact bif_split h
   (fun c0 h => ret_at hR _ h (fun n => n) rfl rfl rfl (rn_bool_tf rfl) rfl (entl_bor (use_lo rfl) rfl rfl (entl_bor (use_lo rfl) rfl rfl entl_nil)))
   (fun c0 h => stop_at hS _ h (fun n => n) rfl rfl rfl ⟨(rn_loose (use_lo rfl) rfl rfl rfl), ⟨(rn_loose (use_lo rfl) rfl rfl rfl), ⟨(rn_int rfl), trivial⟩⟩⟩ rfl (entl_bor (use_lo rfl) rfl rfl (entl_bor (use_lo rfl) rfl rfl entl_nil)))
set_option maxRecDepth 100000 in
theorem b22_0 (al nl ml : Nat) (tl : Nat → Int) (vl : Nat → Int) (gl : Nat → Bool) (ak nk mk : Nat) (tk : Nat → Int) (vk : Nat → Int) (gk : Nat → Bool) (Kst : KS) (Kret : KR) (x : St22 ⊕ Rt22) (hS : HS 2 400 ((I22 al nl ml tl vl gl ak nk mk tk vk gk)) Kst x) (hR : HR 2 400 ((V22 al nl ml tl vl gl ak nk mk tk vk gk)) (fun r => [newL (2 + 1) ((N22 al nl ml tl vl gl ak nk mk tk vk gk) r) ++ [(0, (false, .cols ml [.int .i64 tl, .int .i64 vl, .bool gl])), (1, (false, .cols mk [.int .i64 tk, .int .i64 vk, .bool gk]))]]) Kret x) (x0 : Int) (h : (bif (decide (x0 < (↑nl : Int)))
 then (bif (decide ((0 : Int) ≤ x0 ∧ x0 < (↑nl : Int)))
 then (bif (decide (Int.toNat x0 + al < ml))
 then (bif (decide ((0 : Int) ≤ x0 ∧ x0 < (↑nk : Int)))
 then (bif (decide (Int.toNat x0 + ak < mk))
 then (bif (!(tl (Int.toNat x0 + al) == tk (Int.toNat x0 + ak) &&
 (vl (Int.toNat x0 + al) == vk (Int.toNat x0 + ak) &&
 (gl (Int.toNat x0 + al) == gk (Int.toNat x0 + ak) && true))))
 then (some (.inr (false)))
 else (bif (lim IntKind.i64 (x0 + (1 : Int)))
 then (some (.inl (.h0 (x0 + (1 : Int)))))
 else (none)))
 else (none))
 else (none))
 else (none))
 else (none))
 else (some (.inr (true))) : Option (St22 ⊕ Rt22)) = some x) : T22_0 cond Kst Kret al nl ml tl vl gl ak nk mk tk vk gk x0 := by
  unfold T22_0
  exact bif_split h
   (fun c0 h => bif_split h
   (fun c1 h => bif_split h
   (fun c2 h => cond_yes c2 (cond_yes c2 (bif_split h
   (fun c3 h => bif_split h
   (fun c4 h => cond_yes c4 (cond_yes c4 (bif_split h
   (fun c5 h => ret_at hR _ h (fun n => n) rfl rfl rfl (rn_bool_tf rfl) rfl (entl_bor (use_lo rfl) rfl rfl (entl_bor (use_lo rfl) rfl rfl entl_nil)))
   (fun c5 h => bif_split h
   (fun c6 h => stop_at hS _ h (fun n => n) rfl rfl rfl ⟨(rn_loose (use_lo rfl) rfl rfl rfl), ⟨(rn_loose (use_lo rfl) rfl rfl rfl), ⟨(rn_int rfl), trivial⟩⟩⟩ rfl (entl_bor (use_lo rfl) rfl rfl (entl_bor (use_lo rfl) rfl rfl entl_nil)))
   (fun c6 h => no_some h)))))
   (fun c4 h => no_some h))
   (fun c3 h => no_some h))))
   (fun c2 h => no_some h))
   (fun c1 h => no_some h))
   (fun c0 h => ret_at hR _ h (fun n => n) rfl rfl rfl (rn_bool_tf rfl) rfl (entl_bor (use_lo rfl) rfl rfl (entl_bor (use_lo rfl) rfl rfl entl_nil)))
theorem a22 (al nl ml : Nat) (tl : Nat → Int) (vl : Nat → Int) (gl : Nat → Bool) (ak nk mk : Nat) (tk : Nat → Int) (vk : Nat → Int) (gk : Nat → Bool) {r : Rt22} (h : Goes ((q22 al nl ml tl vl gl ak nk mk tk vk gk)) ((p22 al nl ml tl vl gl ak nk mk tk vk gk)) r) : CallR Try.prog 22 [.loose ⟨0, 3, al, 0⟩ nl, .loose ⟨1, 3, ak, 0⟩ nk] [[(0, (false, .cols ml [.int .i64 tl, .int .i64 vl, .bool gl])), (1, (false, .cols mk [.int .i64 tk, .int .i64 vk, .bool gk]))]] 2 ((V22 al nl ml tl vl gl ak nk mk tk vk gk) r) ((fun r => [newL (2 + 1) ((N22 al nl ml tl vl gl ak nk mk tk vk gk) r) ++ [(0, (false, .cols ml [.int .i64 tl, .int .i64 vl, .bool gl])), (1, (false, .cols mk [.int .i64 tk, .int .i64 vk, .bool gk]))]]) r) 400 ∧ ∃ F, Try.prog.funcs[22]? = some F ∧ F.body.isSome = true ∧ (F.name == "runtime.NumGoroutine") = false := by
  refine dec_calls (f := 22) (lo := 2) (hi := 400) (H := [[(0, (false, .cols ml [.int .i64 tl, .int .i64 vl, .bool gl])), (1, (false, .cols mk [.int .i64 tk, .int .i64 vk, .bool gk]))]]) (args := [.loose ⟨0, 3, al, 0⟩ nl, .loose ⟨1, 3, ak, 0⟩ nk]) Try.envOk Try.mixed xB_ok ((I22 al nl ml tl vl gl ak nk mk tk vk gk)) ((V22 al nl ml tl vl gl ak nk mk tk vk gk)) (fun r => [newL (2 + 1) ((N22 al nl ml tl vl gl ak nk mk tk vk gk) r) ++ [(0, (false, .cols ml [.int .i64 tl, .int .i64 vl, .bool gl])), (1, (false, .cols mk [.int .i64 tk, .int .i64 vk, .bool gk]))]]) (fn := mkFn Try.f22) (ts := [0, 1, 5]) (n := 400) rfl (by decide) (by simp) (names_of rfl) ?_ ?_ ?_ h
  · intro s; cases s <;> exact ⟨hd_ok _ _, by simp [I22], names_of rfl, Nat.le_of_ble_eq_true rfl⟩
  · intro Kst Kret x hS hR h
    exact Holds.eq (te22 cond Kst Kret al nl ml tl vl gl ak nk mk tk vk gk) (be22 al nl ml tl vl gl ak nk mk tk vk gk Kst Kret x hS hR h)
  · intro Kst Kret x hS hR s h
    cases s with
    | h0 x0 => exact Holds.eq (t22_0 cond Kst Kret al nl ml tl vl gl ak nk mk tk vk gk x0) (b22_0 al nl ml tl vl gl ak nk mk tk vk gk Kst Kret x hS hR x0 h)
noncomputable def k22 : Con := ⟨22, [.one (.list [.int .i64, .int .i64, .bool]), .one (.list [.int .i64, .int .i64, .bool])], fun (x : (Nat × Nat × Nat × (Nat → Int) × (Nat → Int) × (Nat → Bool) × Unit) × (Nat × Nat × Nat × (Nat → Int) × (Nat → Int) × (Nat → Bool) × Unit) × Unit) => (fun (al nl ml : Nat) (tl : Nat → Int) (vl : Nat → Int) (gl : Nat → Bool) (ak nk mk : Nat) (tk : Nat → Int) (vk : Nat → Int) (gk : Nat → Bool) => decide (al + nl ≤ ml ∧ nl ≤ 1000000 ∧ ak + nk ≤ mk ∧ nk ≤ 1000000)) x.1.1 x.1.2.1 x.1.2.2.1 x.1.2.2.2.1 x.1.2.2.2.2.1 x.1.2.2.2.2.2.1 x.2.1.1 x.2.1.2.1 x.2.1.2.2.1 x.2.1.2.2.2.1 x.2.1.2.2.2.2.1 x.2.1.2.2.2.2.2.1, fun (x : (Nat × Nat × Nat × (Nat → Int) × (Nat → Int) × (Nat → Bool) × Unit) × (Nat × Nat × Nat × (Nat → Int) × (Nat → Int) × (Nat → Bool) × Unit) × Unit) => (fun (al nl ml : Nat) (tl : Nat → Int) (vl : Nat → Int) (gl : Nat → Bool) (ak nk mk : Nat) (tk : Nat → Int) (vk : Nat → Int) (gk : Nat → Bool) => (V22 al nl ml tl vl gl ak nk mk tk vk gk) (decide ((S.mkl nl fun j => (tl (j + al), vl (j + al), gl (j + al))) = (S.mkl nk fun j => (tk (j + ak), vk (j + ak), gk (j + ak)))))) x.1.1 x.1.2.1 x.1.2.2.1 x.1.2.2.2.1 x.1.2.2.2.2.1 x.1.2.2.2.2.2.1 x.2.1.1 x.2.1.2.1 x.2.1.2.2.1 x.2.1.2.2.2.1 x.2.1.2.2.2.2.1 x.2.1.2.2.2.2.2.1, fun (x : (Nat × Nat × Nat × (Nat → Int) × (Nat → Int) × (Nat → Bool) × Unit) × (Nat × Nat × Nat × (Nat → Int) × (Nat → Int) × (Nat → Bool) × Unit) × Unit) => (fun (al nl ml : Nat) (tl : Nat → Int) (vl : Nat → Int) (gl : Nat → Bool) (ak nk mk : Nat) (tk : Nat → Int) (vk : Nat → Int) (gk : Nat → Bool) => (N22 al nl ml tl vl gl ak nk mk tk vk gk) (decide ((S.mkl nl fun j => (tl (j + al), vl (j + al), gl (j + al))) = (S.mkl nk fun j => (tk (j + ak), vk (j + ak), gk (j + ak)))))) x.1.1 x.1.2.1 x.1.2.2.1 x.1.2.2.2.1 x.1.2.2.2.2.1 x.1.2.2.2.2.2.1 x.2.1.1 x.2.1.2.1 x.2.1.2.2.1 x.2.1.2.2.2.1 x.2.1.2.2.2.2.1 x.2.1.2.2.2.2.2.1, fun _ _ => .dead⟩
theorem s22' (al nl ml : Nat) (tl : Nat → Int) (vl : Nat → Int) (gl : Nat → Bool) (ak nk mk : Nat) (tk : Nat → Int) (vk : Nat → Int) (gk : Nat → Bool) (hp : al + nl ≤ ml ∧ nl ≤ 1000000 ∧ ak + nk ≤ mk ∧ nk ≤ 1000000) (hn : nl = nk) : ∀ d i : Nat, i + d = nl → (∀ j, j < i → (tl (j + al), vl (j + al), gl (j + al)) = (tk (j + ak), vk (j + ak), gk (j + ak))) → Comes (q22 al nl ml tl vl gl ak nk mk tk vk gk) (.h0 (i : Int)) (decide ((S.mkl nl fun j => (tl (j + al), vl (j + al), gl (j + al))) = (S.mkl nk fun j => (tk (j + ak), vk (j + ak), gk (j + ak))))) := by
  obtain ⟨hp1, hp2, hp3, hp4⟩ := hp
  intro d
  induction d with
  | zero =>
    intro i hi hj
    apply Comes.of
    show Goes _ _ _
    (first | rw [q22] | unfold q22)
    repeat' first
      | with_reducible refine goes_if (fun h => ?_) (fun h => ?_) <;> (try simp only [lim64, decide_eq_true_eq, decide_eq_false_iff_not, Int.toNat_natCast, toNat_pred, toNat_succ, Option.getD_some, Option.getD_none, Bool.not_eq_true', Bool.not_eq_false', Bool.and_eq_true, Bool.or_eq_true, Bool.and_eq_false_iff, Bool.or_eq_false_iff, bne_iff_ne, beq_iff_eq, bne_eq_false_iff_eq, beq_eq_false_iff_ne, ne_eq, not_and, Int.not_le, Int.not_lt, ge_iff_le, gt_iff_lt, Nat.not_lt, Nat.not_le, Bool.not_eq_true, Bool.not_eq_false, Bool.true_eq_false, Bool.false_eq_true, not_false_eq_true, not_true_eq_false] at h)
      | exact goes_none.mpr (by omega)
    all_goals first | (exfalso; omega) | (refine goes_inr.mpr ?_; exact (decide_eq_true (mkl_inj.2 ⟨hn, fun j h => hj j (by omega)⟩)).symm)
  | succ d ih =>
    intro i hi hj
    have ih := ih (i + 1) (by omega)
    apply Comes.of
    show Goes _ _ _
    (first | rw [q22] | unfold q22)
    repeat' first
      | with_reducible refine goes_if (fun h => ?_) (fun h => ?_) <;> (try simp only [lim64, decide_eq_true_eq, decide_eq_false_iff_not, Int.toNat_natCast, toNat_pred, toNat_succ, Option.getD_some, Option.getD_none, Bool.not_eq_true', Bool.not_eq_false', Bool.and_eq_true, Bool.or_eq_true, Bool.and_eq_false_iff, Bool.or_eq_false_iff, bne_iff_ne, beq_iff_eq, bne_eq_false_iff_eq, beq_eq_false_iff_ne, ne_eq, not_and, Int.not_le, Int.not_lt, ge_iff_le, gt_iff_lt, Nat.not_lt, Nat.not_le, Bool.not_eq_true, Bool.not_eq_false, Bool.true_eq_false, Bool.false_eq_true, not_false_eq_true, not_true_eq_false] at h)
      | exact goes_none.mpr (by omega)
    all_goals first
      | (exfalso; omega)
      | (refine goes_inr.mpr ?_
         refine (decide_eq_false fun h' => ?_).symm
         have := (mkl_inj.1 h').2 i (by omega)
         simp only [Prod.mk.injEq] at this
         simp_all)
      | (refine ih fun j h' => ?_
         rcases Nat.lt_or_ge j i with h'' | h''
         · exact hj j h''
         · obtain rfl : j = i := by omega
           simp_all)
theorem s22 (al nl ml : Nat) (tl : Nat → Int) (vl : Nat → Int) (gl : Nat → Bool) (ak nk mk : Nat) (tk : Nat → Int) (vk : Nat → Int) (gk : Nat → Bool) (hp : al + nl ≤ ml ∧ nl ≤ 1000000 ∧ ak + nk ≤ mk ∧ nk ≤ 1000000) : Goes ((q22 al nl ml tl vl gl ak nk mk tk vk gk)) ((p22 al nl ml tl vl gl ak nk mk tk vk gk)) (decide ((S.mkl nl fun j => (tl (j + al), vl (j + al), gl (j + al))) = (S.mkl nk fun j => (tk (j + ak), vk (j + ak), gk (j + ak))))) := by
  by_cases hn : nl = nk
  · show Goes _ _ _
    unfold p22
    repeat' first
      | with_reducible refine goes_if (fun h => ?_) (fun h => ?_) <;> (try simp only [lim64, decide_eq_true_eq, decide_eq_false_iff_not, Int.toNat_natCast, toNat_pred, toNat_succ, Option.getD_some, Option.getD_none, Bool.not_eq_true', Bool.not_eq_false', Bool.and_eq_true, Bool.or_eq_true, Bool.and_eq_false_iff, Bool.or_eq_false_iff, bne_iff_ne, beq_iff_eq, bne_eq_false_iff_eq, beq_eq_false_iff_ne, ne_eq, not_and, Int.not_le, Int.not_lt, ge_iff_le, gt_iff_lt, Nat.not_lt, Nat.not_le, Bool.not_eq_true, Bool.not_eq_false, Bool.true_eq_false, Bool.false_eq_true, not_false_eq_true, not_true_eq_false] at h)
      | exact goes_none.mpr (by omega)
    all_goals first | (exfalso; omega) | exact s22' al nl ml tl vl gl ak nk mk tk vk gk hp hn nl 0 (by omega) (fun j h => absurd h (by omega))
  · show Goes _ _ _
    unfold p22
    repeat' first
      | with_reducible refine goes_if (fun h => ?_) (fun h => ?_) <;> (try simp only [lim64, decide_eq_true_eq, decide_eq_false_iff_not, Int.toNat_natCast, toNat_pred, toNat_succ, Option.getD_some, Option.getD_none, Bool.not_eq_true', Bool.not_eq_false', Bool.and_eq_true, Bool.or_eq_true, Bool.and_eq_false_iff, Bool.or_eq_false_iff, bne_iff_ne, beq_iff_eq, bne_eq_false_iff_eq, beq_eq_false_iff_ne, ne_eq, not_and, Int.not_le, Int.not_lt, ge_iff_le, gt_iff_lt, Nat.not_lt, Nat.not_le, Bool.not_eq_true, Bool.not_eq_false, Bool.true_eq_false, Bool.false_eq_true, not_false_eq_true, not_true_eq_false] at h)
      | exact goes_none.mpr (by omega)
    all_goals first | (exfalso; omega) | (refine goes_inr.mpr ?_; exact (decide_eq_false fun h' => hn (mkl_inj.1 h').1).symm)

theorem k22_ok : k22.ok Try.prog := by
  intro x hx
  obtain ⟨⟨al, nl, ml, tl, vl, gl, _⟩, ⟨ak, nk, mk, tk, vk, gk, _⟩, _⟩ := x
  obtain ⟨h1, h2⟩ := a22 al nl ml tl vl gl ak nk mk tk vk gk (s22 al nl ml tl vl gl ak nk mk tk vk gk (of_dec hx rfl))
  exact ⟨⟨400, (by decide : 2 + 1 + 0 ≤ 400), h1⟩, h2⟩

end Go.Ev
