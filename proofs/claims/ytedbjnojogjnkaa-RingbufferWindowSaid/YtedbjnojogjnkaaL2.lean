/-
  The error of a buffer, in the program and in the reference.
-/
import Derived.Test.YtedbjnojogjnkaaL2a
namespace Go.Ev
open Go.Proofs
set_option linter.unusedVariables false
set_option linter.unusedSimpArgs false
set_option maxRecDepth 100000
abbrev St19 := Empty
abbrev Rt19 := Int
noncomputable def V19 (ca : Int) (af : Int) (al nl ml : Nat) (tl : Nat → Int) (vl : Nat → Int) (gl : Nat → Bool) (ov : Int) (re : Int) (fz : Bool) (r : Rt19) : PV := PV.int IntKind.i64 r
noncomputable def N19 (ca : Int) (af : Int) (al nl ml : Nat) (tl : Nat → Int) (vl : Nat → Int) (gl : Nat → Bool) (ov : Int) (re : Int) (fz : Bool) (r : Rt19) : List Blk := []
noncomputable def I19 (ca : Int) (af : Int) (al nl ml : Nat) (tl : Nat → Int) (vl : Nat → Int) (gl : Nat → Bool) (ov : Int) (re : Int) (fz : Bool) : St19 → Hd := fun s => s.elim
noncomputable def q19 (ca : Int) (af : Int) (al nl ml : Nat) (tl : Nat → Int) (vl : Nat → Int) (gl : Nat → Bool) (ov : Int) (re : Int) (fz : Bool) : St19 → Option (St19 ⊕ Rt19) := fun s => s.elim
noncomputable def p19 (ca : Int) (af : Int) (al nl ml : Nat) (tl : Nat → Int) (vl : Nat → Int) (gl : Nat → Bool) (ov : Int) (re : Int) (fz : Bool) : Option (St19 ⊕ Rt19) := bif (decide (ca ≥ (1 : Int)))
 then (bif (decide (ca ≤ (200 : Int)))
 then (bif (decide (af ≥ (0 : Int)))
 then (bif (decide (af ≤ (200 : Int)))
 then (bif (decide (ov ≥ (0 : Int)))
 then (bif (decide (ov ≤ (1099511627776 : Int)))
 then (bif (decide (re ≥ (-1 : Int)))
 then (bif (decide (re ≤ af))
 then (bif (decide (al + nl ≤ ml ∧ nl ≤ 1000000))
 then (bif (S.errS (fun (j : Nat) => tl (j + al)) (fun (j : Nat) => vl (j + al)) (0) nl != (0 : Int))
 then (some (.inr (S.errS (fun (j : Nat) => tl (j + al)) (fun (j : Nat) => vl (j + al)) (0) nl)))
 else (bif (decide ((↑nl : Int) > ca))
 then (some (.inr ((3 : Int))))
 else (bif (fz)
 then (bif (re == (0 : Int))
 then (bif (decide (ov > (0 : Int)))
 then (bif (decide ((↑nl : Int) < ca))
 then (some (.inr ((1 : Int))))
 else (some (.inr ((0 : Int)))))
 else (some (.inr ((0 : Int)))))
 else (some (.inr ((1 : Int)))))
 else (bif (re == (0 : Int))
 then (some (.inr ((1 : Int))))
 else (bif (decide (ov > (0 : Int)))
 then (bif (decide ((↑nl : Int) < ca))
 then (some (.inr ((1 : Int))))
 else (some (.inr ((0 : Int)))))
 else (some (.inr ((0 : Int)))))))))
 else (none))
 else (some (.inr ((6 : Int)))))
 else (some (.inr ((6 : Int)))))
 else (some (.inr ((6 : Int)))))
 else (some (.inr ((6 : Int)))))
 else (some (.inr ((6 : Int)))))
 else (some (.inr ((6 : Int)))))
 else (some (.inr ((6 : Int)))))
 else (some (.inr ((6 : Int))))
noncomputable def Te19 (test : Bool → Prop → Prop → Prop) (Kst : KS) (Kret : KR) (ca : Int) (af : Int) (al nl ml : Nat) (tl : Nat → Int) (vl : Nat → Int) (gl : Nat → Bool) (ov : Int) (re : Int) (fz : Bool) : Prop :=
  test (decide (ca ≥ (1 : Int)))
 (test (decide (ca ≤ (200 : Int)))
 (test (decide (af ≥ (0 : Int)))
 (test (decide (af ≤ (200 : Int)))
 (test (decide (ov ≥ (0 : Int)))
 (test (decide (ov ≤ (1099511627776 : Int)))
 (test (decide (re ≥ (-1 : Int)))
 (test (decide (re ≤ af))
 (test (decide (al + nl ≤ ml ∧ nl ≤ 1000000))
 (test (S.errS (fun (j : Nat) => tl (j + al)) (fun (j : Nat) => vl (j + al)) (0) nl != (0 : Int))
 (Kret (PV.int IntKind.i64 (S.errS (fun (j : Nat) => tl (j + al)) (fun (j : Nat) => vl (j + al)) (0) nl)) ([[(0, false,
 Blk.cols ml [Col.int IntKind.i64 tl, Col.int IntKind.i64 vl, Col.bool gl])]]) (3))
 (test (decide ((↑nl : Int) > ca))
 (Kret (PV.int IntKind.i64 (3 : Int)) ([[(0, false,
 Blk.cols ml [Col.int IntKind.i64 tl, Col.int IntKind.i64 vl, Col.bool gl])]]) (3))
 (test (fz)
 (test (re == (0 : Int))
 (test (decide (ov > (0 : Int)))
 (test (decide ((↑nl : Int) < ca))
 (Kret (PV.int IntKind.i64 (1 : Int)) ([[(0, false,
 Blk.cols ml [Col.int IntKind.i64 tl, Col.int IntKind.i64 vl, Col.bool gl])]]) (3))
 (Kret (PV.int IntKind.i64 (0 : Int)) ([[(0, false,
 Blk.cols ml [Col.int IntKind.i64 tl, Col.int IntKind.i64 vl, Col.bool gl])]]) (3)))
 (Kret (PV.int IntKind.i64 (0 : Int)) ([[(0, false,
 Blk.cols ml [Col.int IntKind.i64 tl, Col.int IntKind.i64 vl, Col.bool gl])]]) (3)))
 (Kret (PV.int IntKind.i64 (1 : Int)) ([[(0, false,
 Blk.cols ml [Col.int IntKind.i64 tl, Col.int IntKind.i64 vl, Col.bool gl])]]) (3)))
 (test (re == (0 : Int))
 (Kret (PV.int IntKind.i64 (1 : Int)) ([[(0, false,
 Blk.cols ml [Col.int IntKind.i64 tl, Col.int IntKind.i64 vl, Col.bool gl])]]) (3))
 (test (decide (ov > (0 : Int)))
 (test (decide ((↑nl : Int) < ca))
 (Kret (PV.int IntKind.i64 (1 : Int)) ([[(0, false,
 Blk.cols ml [Col.int IntKind.i64 tl, Col.int IntKind.i64 vl, Col.bool gl])]]) (3))
 (Kret (PV.int IntKind.i64 (0 : Int)) ([[(0, false,
 Blk.cols ml [Col.int IntKind.i64 tl, Col.int IntKind.i64 vl, Col.bool gl])]]) (3)))
 (Kret (PV.int IntKind.i64 (0 : Int)) ([[(0, false,
 Blk.cols ml [Col.int IntKind.i64 tl, Col.int IntKind.i64 vl, Col.bool gl])]]) (3)))))))
 (False))
 (Kret (PV.int IntKind.i64 (6 : Int)) ([[(0, false,
 Blk.cols ml [Col.int IntKind.i64 tl, Col.int IntKind.i64 vl, Col.bool gl])]]) (2)))
 (Kret (PV.int IntKind.i64 (6 : Int)) ([[(0, false,
 Blk.cols ml [Col.int IntKind.i64 tl, Col.int IntKind.i64 vl, Col.bool gl])]]) (2)))
 (Kret (PV.int IntKind.i64 (6 : Int)) ([[(0, false,
 Blk.cols ml [Col.int IntKind.i64 tl, Col.int IntKind.i64 vl, Col.bool gl])]]) (2)))
 (Kret (PV.int IntKind.i64 (6 : Int)) ([[(0, false,
 Blk.cols ml [Col.int IntKind.i64 tl, Col.int IntKind.i64 vl, Col.bool gl])]]) (2)))
 (Kret (PV.int IntKind.i64 (6 : Int)) ([[(0, false,
 Blk.cols ml [Col.int IntKind.i64 tl, Col.int IntKind.i64 vl, Col.bool gl])]]) (2)))
 (Kret (PV.int IntKind.i64 (6 : Int)) ([[(0, false,
 Blk.cols ml [Col.int IntKind.i64 tl, Col.int IntKind.i64 vl, Col.bool gl])]]) (2)))
 (Kret (PV.int IntKind.i64 (6 : Int)) ([[(0, false,
 Blk.cols ml [Col.int IntKind.i64 tl, Col.int IntKind.i64 vl, Col.bool gl])]]) (2)))
 (Kret (PV.int IntKind.i64 (6 : Int)) ([[(0, false,
 Blk.cols ml [Col.int IntKind.i64 tl, Col.int IntKind.i64 vl, Col.bool gl])]]) (2))
set_option maxRecDepth 100000 in
theorem te19 (test : Bool → Prop → Prop → Prop) (Kst : KS) (Kret : KR) (ca : Int) (af : Int) (al nl ml : Nat) (tl : Nat → Int) (vl : Nat → Int) (gl : Nat → Bool) (ov : Int) (re : Int) (fz : Bool) : run test Try.env true (xA test) true 400 ⟨19, [.cd (mkFn Try.f19).body], argT 0 [.agg [.int .i64 ca, .int .i64 af, .loose ⟨0, 3, al, 0⟩ nl, .int .i64 ov, .int .i64 re, .bool fz]], [[], [(0, (false, .cols ml [.int .i64 tl, .int .i64 vl, .bool gl]))]], 1⟩ (proj 1 [] Kst Kret) =
  Te19 test Kst Kret ca af al nl ml tl vl gl ov re fz := by kernel_rfl
set_option maxRecDepth 100000 in
theorem be19 (ca : Int) (af : Int) (al nl ml : Nat) (tl : Nat → Int) (vl : Nat → Int) (gl : Nat → Bool) (ov : Int) (re : Int) (fz : Bool) (Kst : KS) (Kret : KR) (x : St19 ⊕ Rt19) (hS : HS 1 400 ((I19 ca af al nl ml tl vl gl ov re fz)) Kst x) (hR : HR 1 400 ((V19 ca af al nl ml tl vl gl ov re fz)) (fun r => [newL (1 + 1) ((N19 ca af al nl ml tl vl gl ov re fz) r) ++ [(0, (false, .cols ml [.int .i64 tl, .int .i64 vl, .bool gl]))]]) Kret x) (h : (bif (decide (ca ≥ (1 : Int)))
 then (bif (decide (ca ≤ (200 : Int)))
 then (bif (decide (af ≥ (0 : Int)))
 then (bif (decide (af ≤ (200 : Int)))
 then (bif (decide (ov ≥ (0 : Int)))
 then (bif (decide (ov ≤ (1099511627776 : Int)))
 then (bif (decide (re ≥ (-1 : Int)))
 then (bif (decide (re ≤ af))
 then (bif (decide (al + nl ≤ ml ∧ nl ≤ 1000000))
 then (bif (S.errS (fun (j : Nat) => tl (j + al)) (fun (j : Nat) => vl (j + al)) (0) nl != (0 : Int))
 then (some (.inr (S.errS (fun (j : Nat) => tl (j + al)) (fun (j : Nat) => vl (j + al)) (0) nl)))
 else (bif (decide ((↑nl : Int) > ca))
 then (some (.inr ((3 : Int))))
 else (bif (fz)
 then (bif (re == (0 : Int))
 then (bif (decide (ov > (0 : Int)))
 then (bif (decide ((↑nl : Int) < ca))
 then (some (.inr ((1 : Int))))
 else (some (.inr ((0 : Int)))))
 else (some (.inr ((0 : Int)))))
 else (some (.inr ((1 : Int)))))
 else (bif (re == (0 : Int))
 then (some (.inr ((1 : Int))))
 else (bif (decide (ov > (0 : Int)))
 then (bif (decide ((↑nl : Int) < ca))
 then (some (.inr ((1 : Int))))
 else (some (.inr ((0 : Int)))))
 else (some (.inr ((0 : Int)))))))))
 else (none))
 else (some (.inr ((6 : Int)))))
 else (some (.inr ((6 : Int)))))
 else (some (.inr ((6 : Int)))))
 else (some (.inr ((6 : Int)))))
 else (some (.inr ((6 : Int)))))
 else (some (.inr ((6 : Int)))))
 else (some (.inr ((6 : Int)))))
 else (some (.inr ((6 : Int)))) : Option (St19 ⊕ Rt19)) = some x) : Te19 cond Kst Kret ca af al nl ml tl vl gl ov re fz := by
  unfold Te19
  exact bif_split h
   (fun c0 h => bif_split h
   (fun c1 h => bif_split h
   (fun c2 h => bif_split h
   (fun c3 h => bif_split h
   (fun c4 h => bif_split h
   (fun c5 h => bif_split h
   (fun c6 h => bif_split h
   (fun c7 h => bif_split h
   (fun c8 h => bif_split h
   (fun c9 h => ret_at hR _ h (fun n => n) rfl rfl rfl (rn_int rfl) rfl (entl_bor (use_lo rfl) rfl rfl entl_nil))
   (fun c9 h => bif_split h
   (fun c10 h => ret_at hR _ h (fun n => n) rfl rfl rfl (rn_int rfl) rfl (entl_bor (use_lo rfl) rfl rfl entl_nil))
   (fun c10 h => bif_split h
   (fun c11 h => bif_split h
   (fun c12 h => bif_split h
   (fun c13 h => bif_split h
   (fun c14 h => ret_at hR _ h (fun n => n) rfl rfl rfl (rn_int rfl) rfl (entl_bor (use_lo rfl) rfl rfl entl_nil))
   (fun c14 h => ret_at hR _ h (fun n => n) rfl rfl rfl (rn_int rfl) rfl (entl_bor (use_lo rfl) rfl rfl entl_nil)))
   (fun c13 h => ret_at hR _ h (fun n => n) rfl rfl rfl (rn_int rfl) rfl (entl_bor (use_lo rfl) rfl rfl entl_nil)))
   (fun c12 h => ret_at hR _ h (fun n => n) rfl rfl rfl (rn_int rfl) rfl (entl_bor (use_lo rfl) rfl rfl entl_nil)))
   (fun c11 h => bif_split h
   (fun c12 h => ret_at hR _ h (fun n => n) rfl rfl rfl (rn_int rfl) rfl (entl_bor (use_lo rfl) rfl rfl entl_nil))
   (fun c12 h => bif_split h
   (fun c13 h => bif_split h
   (fun c14 h => ret_at hR _ h (fun n => n) rfl rfl rfl (rn_int rfl) rfl (entl_bor (use_lo rfl) rfl rfl entl_nil))
   (fun c14 h => ret_at hR _ h (fun n => n) rfl rfl rfl (rn_int rfl) rfl (entl_bor (use_lo rfl) rfl rfl entl_nil)))
   (fun c13 h => ret_at hR _ h (fun n => n) rfl rfl rfl (rn_int rfl) rfl (entl_bor (use_lo rfl) rfl rfl entl_nil)))))))
   (fun c8 h => no_some h))
   (fun c7 h => ret_at hR _ h (fun n => n) rfl rfl rfl (rn_int rfl) rfl (entl_bor (use_lo rfl) rfl rfl entl_nil)))
   (fun c6 h => ret_at hR _ h (fun n => n) rfl rfl rfl (rn_int rfl) rfl (entl_bor (use_lo rfl) rfl rfl entl_nil)))
   (fun c5 h => ret_at hR _ h (fun n => n) rfl rfl rfl (rn_int rfl) rfl (entl_bor (use_lo rfl) rfl rfl entl_nil)))
   (fun c4 h => ret_at hR _ h (fun n => n) rfl rfl rfl (rn_int rfl) rfl (entl_bor (use_lo rfl) rfl rfl entl_nil)))
   (fun c3 h => ret_at hR _ h (fun n => n) rfl rfl rfl (rn_int rfl) rfl (entl_bor (use_lo rfl) rfl rfl entl_nil)))
   (fun c2 h => ret_at hR _ h (fun n => n) rfl rfl rfl (rn_int rfl) rfl (entl_bor (use_lo rfl) rfl rfl entl_nil)))
   (fun c1 h => ret_at hR _ h (fun n => n) rfl rfl rfl (rn_int rfl) rfl (entl_bor (use_lo rfl) rfl rfl entl_nil)))
   (fun c0 h => ret_at hR _ h (fun n => n) rfl rfl rfl (rn_int rfl) rfl (entl_bor (use_lo rfl) rfl rfl entl_nil))
theorem a19 (ca : Int) (af : Int) (al nl ml : Nat) (tl : Nat → Int) (vl : Nat → Int) (gl : Nat → Bool) (ov : Int) (re : Int) (fz : Bool) {r : Rt19} (h : Goes ((q19 ca af al nl ml tl vl gl ov re fz)) ((p19 ca af al nl ml tl vl gl ov re fz)) r) : CallR Try.prog 19 [.agg [.int .i64 ca, .int .i64 af, .loose ⟨0, 3, al, 0⟩ nl, .int .i64 ov, .int .i64 re, .bool fz]] [[(0, (false, .cols ml [.int .i64 tl, .int .i64 vl, .bool gl]))]] 1 ((V19 ca af al nl ml tl vl gl ov re fz) r) ((fun r => [newL (1 + 1) ((N19 ca af al nl ml tl vl gl ov re fz) r) ++ [(0, (false, .cols ml [.int .i64 tl, .int .i64 vl, .bool gl]))]]) r) 400 ∧ ∃ F, Try.prog.funcs[19]? = some F ∧ F.body.isSome = true ∧ (F.name == "runtime.NumGoroutine") = false := by
  refine dec_calls (f := 19) (lo := 1) (hi := 400) (H := [[(0, (false, .cols ml [.int .i64 tl, .int .i64 vl, .bool gl]))]]) (args := [.agg [.int .i64 ca, .int .i64 af, .loose ⟨0, 3, al, 0⟩ nl, .int .i64 ov, .int .i64 re, .bool fz]]) Try.envOk Try.mixed xA_ok ((I19 ca af al nl ml tl vl gl ov re fz)) ((V19 ca af al nl ml tl vl gl ov re fz)) (fun r => [newL (1 + 1) ((N19 ca af al nl ml tl vl gl ov re fz) r) ++ [(0, (false, .cols ml [.int .i64 tl, .int .i64 vl, .bool gl]))]]) (fn := mkFn Try.f19) (ts := []) (n := 400) rfl (by decide) (by simp) (names_of rfl) ?_ ?_ ?_ h
  · intro s; exact s.elim
  · intro Kst Kret x hS hR h
    exact Holds.eq (te19 cond Kst Kret ca af al nl ml tl vl gl ov re fz) (be19 ca af al nl ml tl vl gl ov re fz Kst Kret x hS hR h)
  · intro Kst Kret x hS hR s h; exact s.elim
noncomputable def k19 : Con := ⟨19, [.agg [.plain (.int .i64), .plain (.int .i64), .list [.int .i64, .int .i64, .bool], .plain (.int .i64), .plain (.int .i64), .plain (.bool)]], fun (x : (Int × Int × (Nat × Nat × Nat × (Nat → Int) × (Nat → Int) × (Nat → Bool) × Unit) × Int × Int × Bool × Unit) × Unit) => (fun (ca : Int) (af : Int) (al nl ml : Nat) (tl : Nat → Int) (vl : Nat → Int) (gl : Nat → Bool) (ov : Int) (re : Int) (fz : Bool) => decide (al + nl ≤ ml ∧ nl ≤ 1000000)) x.1.1 x.1.2.1 x.1.2.2.1.1 x.1.2.2.1.2.1 x.1.2.2.1.2.2.1 x.1.2.2.1.2.2.2.1 x.1.2.2.1.2.2.2.2.1 x.1.2.2.1.2.2.2.2.2.1 x.1.2.2.2.1 x.1.2.2.2.2.1 x.1.2.2.2.2.2.1, fun (x : (Int × Int × (Nat × Nat × Nat × (Nat → Int) × (Nat → Int) × (Nat → Bool) × Unit) × Int × Int × Bool × Unit) × Unit) => (fun (ca : Int) (af : Int) (al nl ml : Nat) (tl : Nat → Int) (vl : Nat → Int) (gl : Nat → Bool) (ov : Int) (re : Int) (fz : Bool) => (V19 ca af al nl ml tl vl gl ov re fz) (S.vB ca af nl (fun j => tl (j + al)) (fun j => vl (j + al)) ov re fz)) x.1.1 x.1.2.1 x.1.2.2.1.1 x.1.2.2.1.2.1 x.1.2.2.1.2.2.1 x.1.2.2.1.2.2.2.1 x.1.2.2.1.2.2.2.2.1 x.1.2.2.1.2.2.2.2.2.1 x.1.2.2.2.1 x.1.2.2.2.2.1 x.1.2.2.2.2.2.1, fun (x : (Int × Int × (Nat × Nat × Nat × (Nat → Int) × (Nat → Int) × (Nat → Bool) × Unit) × Int × Int × Bool × Unit) × Unit) => (fun (ca : Int) (af : Int) (al nl ml : Nat) (tl : Nat → Int) (vl : Nat → Int) (gl : Nat → Bool) (ov : Int) (re : Int) (fz : Bool) => (N19 ca af al nl ml tl vl gl ov re fz) (S.vB ca af nl (fun j => tl (j + al)) (fun j => vl (j + al)) ov re fz)) x.1.1 x.1.2.1 x.1.2.2.1.1 x.1.2.2.1.2.1 x.1.2.2.1.2.2.1 x.1.2.2.1.2.2.2.1 x.1.2.2.1.2.2.2.2.1 x.1.2.2.1.2.2.2.2.2.1 x.1.2.2.2.1 x.1.2.2.2.2.1 x.1.2.2.2.2.2.1, fun _ _ => .dead⟩
theorem s19 (ca : Int) (af : Int) (al nl ml : Nat) (tl : Nat → Int) (vl : Nat → Int) (gl : Nat → Bool) (ov : Int) (re : Int) (fz : Bool) (hp : al + nl ≤ ml ∧ nl ≤ 1000000) : Goes ((q19 ca af al nl ml tl vl gl ov re fz)) ((p19 ca af al nl ml tl vl gl ov re fz)) (S.vB ca af nl (fun j => tl (j + al)) (fun j => vl (j + al)) ov re fz) := by
  obtain ⟨hp1, hp2⟩ := hp
  generalize he : S.errS (fun j => tl (j + al)) (fun j => vl (j + al)) 0 nl = e
  cases fz <;> (
  show Goes _ _ _
  unfold p19; rw [he]
  repeat' first
    | with_reducible refine goes_if (fun h => ?_) (fun h => ?_) <;> (try simp only [lim64, decide_eq_true_eq, decide_eq_false_iff_not, Int.toNat_natCast, toNat_pred, toNat_succ, Option.getD_some, Option.getD_none, Bool.not_eq_true', Bool.not_eq_false', Bool.and_eq_true, Bool.or_eq_true, Bool.and_eq_false_iff, Bool.or_eq_false_iff, bne_iff_ne, beq_iff_eq, bne_eq_false_iff_eq, beq_eq_false_iff_ne, ne_eq, not_and, Int.not_le, Int.not_lt, ge_iff_le, gt_iff_lt, Nat.not_lt, Nat.not_le, Bool.not_eq_true, Bool.not_eq_false, Bool.true_eq_false, Bool.false_eq_true, not_false_eq_true, not_true_eq_false] at h)
    | exact goes_none.mpr (by omega)
  all_goals first | (exfalso; omega) | (refine goes_inr.mpr ?_; simp only [S.vB, he, eq_self, true_imp_iff, Bool.false_eq_true, false_imp_iff, imp_false, true_and, and_true, implies_true]; (repeat' split) <;> first | rfl | omega))

theorem k19_ok : k19.ok Try.prog := by
  intro x hx
  obtain ⟨⟨ca, af, ⟨al, nl, ml, tl, vl, gl, _⟩, ov, re, fz, _⟩, _⟩ := x
  obtain ⟨h1, h2⟩ := a19 ca af al nl ml tl vl gl ov re fz (s19 ca af al nl ml tl vl gl ov re fz (of_dec hx rfl))
  exact ⟨⟨400, (by decide : 1 + 1 + 0 ≤ 400), h1⟩, h2⟩
abbrev St20 := Empty
abbrev Rt20 := Int
noncomputable def V20 (ca : Int) (af : Int) (al nl ml : Nat) (tl : Nat → Int) (vl : Nat → Int) (gl : Nat → Bool) (ov : Int) (re : Int) (fz : Bool) (r : Rt20) : PV := PV.int IntKind.i64 r
noncomputable def N20 (ca : Int) (af : Int) (al nl ml : Nat) (tl : Nat → Int) (vl : Nat → Int) (gl : Nat → Bool) (ov : Int) (re : Int) (fz : Bool) (r : Rt20) : List Blk := []
noncomputable def I20 (ca : Int) (af : Int) (al nl ml : Nat) (tl : Nat → Int) (vl : Nat → Int) (gl : Nat → Bool) (ov : Int) (re : Int) (fz : Bool) : St20 → Hd := fun s => s.elim
noncomputable def q20 (ca : Int) (af : Int) (al nl ml : Nat) (tl : Nat → Int) (vl : Nat → Int) (gl : Nat → Bool) (ov : Int) (re : Int) (fz : Bool) : St20 → Option (St20 ⊕ Rt20) := fun s => s.elim
noncomputable def p20 (ca : Int) (af : Int) (al nl ml : Nat) (tl : Nat → Int) (vl : Nat → Int) (gl : Nat → Bool) (ov : Int) (re : Int) (fz : Bool) : Option (St20 ⊕ Rt20) := bif (decide (ca < (1 : Int)))
 then (some (.inr ((6 : Int))))
 else (bif (decide (ca > (200 : Int)))
 then (some (.inr ((6 : Int))))
 else (bif (decide (af < (0 : Int)))
 then (some (.inr ((6 : Int))))
 else (bif (decide (af > (200 : Int)))
 then (some (.inr ((6 : Int))))
 else (bif (decide (ov < (0 : Int)))
 then (some (.inr ((6 : Int))))
 else (bif (decide (ov > (1099511627776 : Int)))
 then (some (.inr ((6 : Int))))
 else (bif (decide (re < (-1 : Int)))
 then (some (.inr ((6 : Int))))
 else (bif (decide (re > af))
 then (some (.inr ((6 : Int))))
 else (bif (decide (al + nl ≤ ml ∧ nl ≤ 1000000))
 then (bif (S.errS (fun (j : Nat) => tl (j + al)) (fun (j : Nat) => vl (j + al)) (0) nl != (0 : Int))
 then (some (.inr (S.errS (fun (j : Nat) => tl (j + al)) (fun (j : Nat) => vl (j + al)) (0) nl)))
 else (bif (decide ((↑nl : Int) > ca))
 then (some (.inr ((3 : Int))))
 else (bif (fz)
 then (bif (re == (0 : Int))
 then (bif (decide (ov > (0 : Int)))
 then (bif (decide ((↑nl : Int) < ca))
 then (some (.inr ((1 : Int))))
 else (some (.inr ((0 : Int)))))
 else (some (.inr ((0 : Int)))))
 else (some (.inr ((1 : Int)))))
 else (bif (re == (0 : Int))
 then (some (.inr ((1 : Int))))
 else (bif (decide (ov > (0 : Int)))
 then (bif (decide ((↑nl : Int) < ca))
 then (some (.inr ((1 : Int))))
 else (some (.inr ((0 : Int)))))
 else (some (.inr ((0 : Int)))))))))
 else (none)))))))))
noncomputable def Te20 (test : Bool → Prop → Prop → Prop) (Kst : KS) (Kret : KR) (ca : Int) (af : Int) (al nl ml : Nat) (tl : Nat → Int) (vl : Nat → Int) (gl : Nat → Bool) (ov : Int) (re : Int) (fz : Bool) : Prop :=
  test (decide (ca < (1 : Int)))
 (test (true)
 (Kret (PV.int IntKind.i64 (6 : Int)) ([[(0, false,
 Blk.cols ml [Col.int IntKind.i64 tl, Col.int IntKind.i64 vl, Col.bool gl])]]) (4))
 (test (decide (ov < (0 : Int)))
 (Kret (PV.int IntKind.i64 (6 : Int)) ([[(0, false,
 Blk.cols ml [Col.int IntKind.i64 tl, Col.int IntKind.i64 vl, Col.bool gl])]]) (4))
 (test (decide (ov > (1099511627776 : Int)))
 (Kret (PV.int IntKind.i64 (6 : Int)) ([[(0, false,
 Blk.cols ml [Col.int IntKind.i64 tl, Col.int IntKind.i64 vl, Col.bool gl])]]) (4))
 (test (decide (re < (-1 : Int)))
 (Kret (PV.int IntKind.i64 (6 : Int)) ([[(0, false,
 Blk.cols ml [Col.int IntKind.i64 tl, Col.int IntKind.i64 vl, Col.bool gl])]]) (4))
 (test (decide (re > af))
 (Kret (PV.int IntKind.i64 (6 : Int)) ([[(0, false,
 Blk.cols ml [Col.int IntKind.i64 tl, Col.int IntKind.i64 vl, Col.bool gl])]]) (4))
 (test (decide (al + nl ≤ ml ∧ nl ≤ 1000000))
 (test (S.errS (fun (j : Nat) => tl (j + al)) (fun (j : Nat) => vl (j + al)) (0) nl != (0 : Int))
 (Kret (PV.int IntKind.i64 (S.errS (fun (j : Nat) => tl (j + al)) (fun (j : Nat) => vl (j + al)) (0) nl)) ([[(0, false,
 Blk.cols ml [Col.int IntKind.i64 tl, Col.int IntKind.i64 vl, Col.bool gl])]]) (5))
 (test (decide ((↑nl : Int) > ca))
 (Kret (PV.int IntKind.i64 (3 : Int)) ([[(0, false,
 Blk.cols ml [Col.int IntKind.i64 tl, Col.int IntKind.i64 vl, Col.bool gl])]]) (5))
 (test (fz)
 (test (re == (0 : Int))
 (test (decide (ov > (0 : Int)))
 (test (decide ((↑nl : Int) < ca))
 (Kret (PV.int IntKind.i64 (1 : Int)) ([[(0, false,
 Blk.cols ml [Col.int IntKind.i64 tl, Col.int IntKind.i64 vl, Col.bool gl])]]) (5))
 (Kret (PV.int IntKind.i64 (0 : Int)) ([[(0, false,
 Blk.cols ml [Col.int IntKind.i64 tl, Col.int IntKind.i64 vl, Col.bool gl])]]) (5)))
 (Kret (PV.int IntKind.i64 (0 : Int)) ([[(0, false,
 Blk.cols ml [Col.int IntKind.i64 tl, Col.int IntKind.i64 vl, Col.bool gl])]]) (5)))
 (Kret (PV.int IntKind.i64 (1 : Int)) ([[(0, false,
 Blk.cols ml [Col.int IntKind.i64 tl, Col.int IntKind.i64 vl, Col.bool gl])]]) (5)))
 (test (re == (0 : Int))
 (Kret (PV.int IntKind.i64 (1 : Int)) ([[(0, false,
 Blk.cols ml [Col.int IntKind.i64 tl, Col.int IntKind.i64 vl, Col.bool gl])]]) (5))
 (test (decide (ov > (0 : Int)))
 (test (decide ((↑nl : Int) < ca))
 (Kret (PV.int IntKind.i64 (1 : Int)) ([[(0, false,
 Blk.cols ml [Col.int IntKind.i64 tl, Col.int IntKind.i64 vl, Col.bool gl])]]) (5))
 (Kret (PV.int IntKind.i64 (0 : Int)) ([[(0, false,
 Blk.cols ml [Col.int IntKind.i64 tl, Col.int IntKind.i64 vl, Col.bool gl])]]) (5)))
 (Kret (PV.int IntKind.i64 (0 : Int)) ([[(0, false,
 Blk.cols ml [Col.int IntKind.i64 tl, Col.int IntKind.i64 vl, Col.bool gl])]]) (5)))))))
 (False)))))))
 (test (decide (ca > (200 : Int)))
 (test (true)
 (Kret (PV.int IntKind.i64 (6 : Int)) ([[(0, false,
 Blk.cols ml [Col.int IntKind.i64 tl, Col.int IntKind.i64 vl, Col.bool gl])]]) (4))
 (test (decide (ov < (0 : Int)))
 (Kret (PV.int IntKind.i64 (6 : Int)) ([[(0, false,
 Blk.cols ml [Col.int IntKind.i64 tl, Col.int IntKind.i64 vl, Col.bool gl])]]) (4))
 (test (decide (ov > (1099511627776 : Int)))
 (Kret (PV.int IntKind.i64 (6 : Int)) ([[(0, false,
 Blk.cols ml [Col.int IntKind.i64 tl, Col.int IntKind.i64 vl, Col.bool gl])]]) (4))
 (test (decide (re < (-1 : Int)))
 (Kret (PV.int IntKind.i64 (6 : Int)) ([[(0, false,
 Blk.cols ml [Col.int IntKind.i64 tl, Col.int IntKind.i64 vl, Col.bool gl])]]) (4))
 (test (decide (re > af))
 (Kret (PV.int IntKind.i64 (6 : Int)) ([[(0, false,
 Blk.cols ml [Col.int IntKind.i64 tl, Col.int IntKind.i64 vl, Col.bool gl])]]) (4))
 (test (decide (al + nl ≤ ml ∧ nl ≤ 1000000))
 (test (S.errS (fun (j : Nat) => tl (j + al)) (fun (j : Nat) => vl (j + al)) (0) nl != (0 : Int))
 (Kret (PV.int IntKind.i64 (S.errS (fun (j : Nat) => tl (j + al)) (fun (j : Nat) => vl (j + al)) (0) nl)) ([[(0, false,
 Blk.cols ml [Col.int IntKind.i64 tl, Col.int IntKind.i64 vl, Col.bool gl])]]) (5))
 (test (decide ((↑nl : Int) > ca))
 (Kret (PV.int IntKind.i64 (3 : Int)) ([[(0, false,
 Blk.cols ml [Col.int IntKind.i64 tl, Col.int IntKind.i64 vl, Col.bool gl])]]) (5))
 (test (fz)
 (test (re == (0 : Int))
 (test (decide (ov > (0 : Int)))
 (test (decide ((↑nl : Int) < ca))
 (Kret (PV.int IntKind.i64 (1 : Int)) ([[(0, false,
 Blk.cols ml [Col.int IntKind.i64 tl, Col.int IntKind.i64 vl, Col.bool gl])]]) (5))
 (Kret (PV.int IntKind.i64 (0 : Int)) ([[(0, false,
 Blk.cols ml [Col.int IntKind.i64 tl, Col.int IntKind.i64 vl, Col.bool gl])]]) (5)))
 (Kret (PV.int IntKind.i64 (0 : Int)) ([[(0, false,
 Blk.cols ml [Col.int IntKind.i64 tl, Col.int IntKind.i64 vl, Col.bool gl])]]) (5)))
 (Kret (PV.int IntKind.i64 (1 : Int)) ([[(0, false,
 Blk.cols ml [Col.int IntKind.i64 tl, Col.int IntKind.i64 vl, Col.bool gl])]]) (5)))
 (test (re == (0 : Int))
 (Kret (PV.int IntKind.i64 (1 : Int)) ([[(0, false,
 Blk.cols ml [Col.int IntKind.i64 tl, Col.int IntKind.i64 vl, Col.bool gl])]]) (5))
 (test (decide (ov > (0 : Int)))
 (test (decide ((↑nl : Int) < ca))
 (Kret (PV.int IntKind.i64 (1 : Int)) ([[(0, false,
 Blk.cols ml [Col.int IntKind.i64 tl, Col.int IntKind.i64 vl, Col.bool gl])]]) (5))
 (Kret (PV.int IntKind.i64 (0 : Int)) ([[(0, false,
 Blk.cols ml [Col.int IntKind.i64 tl, Col.int IntKind.i64 vl, Col.bool gl])]]) (5)))
 (Kret (PV.int IntKind.i64 (0 : Int)) ([[(0, false,
 Blk.cols ml [Col.int IntKind.i64 tl, Col.int IntKind.i64 vl, Col.bool gl])]]) (5)))))))
 (False)))))))
 (test (decide (af < (0 : Int)))
 (test (true)
 (Kret (PV.int IntKind.i64 (6 : Int)) ([[(0, false,
 Blk.cols ml [Col.int IntKind.i64 tl, Col.int IntKind.i64 vl, Col.bool gl])]]) (4))
 (test (decide (ov < (0 : Int)))
 (Kret (PV.int IntKind.i64 (6 : Int)) ([[(0, false,
 Blk.cols ml [Col.int IntKind.i64 tl, Col.int IntKind.i64 vl, Col.bool gl])]]) (4))
 (test (decide (ov > (1099511627776 : Int)))
 (Kret (PV.int IntKind.i64 (6 : Int)) ([[(0, false,
 Blk.cols ml [Col.int IntKind.i64 tl, Col.int IntKind.i64 vl, Col.bool gl])]]) (4))
 (test (decide (re < (-1 : Int)))
 (Kret (PV.int IntKind.i64 (6 : Int)) ([[(0, false,
 Blk.cols ml [Col.int IntKind.i64 tl, Col.int IntKind.i64 vl, Col.bool gl])]]) (4))
 (test (decide (re > af))
 (Kret (PV.int IntKind.i64 (6 : Int)) ([[(0, false,
 Blk.cols ml [Col.int IntKind.i64 tl, Col.int IntKind.i64 vl, Col.bool gl])]]) (4))
 (test (decide (al + nl ≤ ml ∧ nl ≤ 1000000))
 (test (S.errS (fun (j : Nat) => tl (j + al)) (fun (j : Nat) => vl (j + al)) (0) nl != (0 : Int))
 (Kret (PV.int IntKind.i64 (S.errS (fun (j : Nat) => tl (j + al)) (fun (j : Nat) => vl (j + al)) (0) nl)) ([[(0, false,
 Blk.cols ml [Col.int IntKind.i64 tl, Col.int IntKind.i64 vl, Col.bool gl])]]) (5))
 (test (decide ((↑nl : Int) > ca))
 (Kret (PV.int IntKind.i64 (3 : Int)) ([[(0, false,
 Blk.cols ml [Col.int IntKind.i64 tl, Col.int IntKind.i64 vl, Col.bool gl])]]) (5))
 (test (fz)
 (test (re == (0 : Int))
 (test (decide (ov > (0 : Int)))
 (test (decide ((↑nl : Int) < ca))
 (Kret (PV.int IntKind.i64 (1 : Int)) ([[(0, false,
 Blk.cols ml [Col.int IntKind.i64 tl, Col.int IntKind.i64 vl, Col.bool gl])]]) (5))
 (Kret (PV.int IntKind.i64 (0 : Int)) ([[(0, false,
 Blk.cols ml [Col.int IntKind.i64 tl, Col.int IntKind.i64 vl, Col.bool gl])]]) (5)))
 (Kret (PV.int IntKind.i64 (0 : Int)) ([[(0, false,
 Blk.cols ml [Col.int IntKind.i64 tl, Col.int IntKind.i64 vl, Col.bool gl])]]) (5)))
 (Kret (PV.int IntKind.i64 (1 : Int)) ([[(0, false,
 Blk.cols ml [Col.int IntKind.i64 tl, Col.int IntKind.i64 vl, Col.bool gl])]]) (5)))
 (test (re == (0 : Int))
 (Kret (PV.int IntKind.i64 (1 : Int)) ([[(0, false,
 Blk.cols ml [Col.int IntKind.i64 tl, Col.int IntKind.i64 vl, Col.bool gl])]]) (5))
 (test (decide (ov > (0 : Int)))
 (test (decide ((↑nl : Int) < ca))
 (Kret (PV.int IntKind.i64 (1 : Int)) ([[(0, false,
 Blk.cols ml [Col.int IntKind.i64 tl, Col.int IntKind.i64 vl, Col.bool gl])]]) (5))
 (Kret (PV.int IntKind.i64 (0 : Int)) ([[(0, false,
 Blk.cols ml [Col.int IntKind.i64 tl, Col.int IntKind.i64 vl, Col.bool gl])]]) (5)))
 (Kret (PV.int IntKind.i64 (0 : Int)) ([[(0, false,
 Blk.cols ml [Col.int IntKind.i64 tl, Col.int IntKind.i64 vl, Col.bool gl])]]) (5)))))))
 (False)))))))
 (test (decide (af > (200 : Int)))
 (test (true)
 (Kret (PV.int IntKind.i64 (6 : Int)) ([[(0, false,
 Blk.cols ml [Col.int IntKind.i64 tl, Col.int IntKind.i64 vl, Col.bool gl])]]) (4))
 (test (decide (ov < (0 : Int)))
 (Kret (PV.int IntKind.i64 (6 : Int)) ([[(0, false,
 Blk.cols ml [Col.int IntKind.i64 tl, Col.int IntKind.i64 vl, Col.bool gl])]]) (4))
 (test (decide (ov > (1099511627776 : Int)))
 (Kret (PV.int IntKind.i64 (6 : Int)) ([[(0, false,
 Blk.cols ml [Col.int IntKind.i64 tl, Col.int IntKind.i64 vl, Col.bool gl])]]) (4))
 (test (decide (re < (-1 : Int)))
 (Kret (PV.int IntKind.i64 (6 : Int)) ([[(0, false,
 Blk.cols ml [Col.int IntKind.i64 tl, Col.int IntKind.i64 vl, Col.bool gl])]]) (4))
 (test (decide (re > af))
 (Kret (PV.int IntKind.i64 (6 : Int)) ([[(0, false,
 Blk.cols ml [Col.int IntKind.i64 tl, Col.int IntKind.i64 vl, Col.bool gl])]]) (4))
 (test (decide (al + nl ≤ ml ∧ nl ≤ 1000000))
 (test (S.errS (fun (j : Nat) => tl (j + al)) (fun (j : Nat) => vl (j + al)) (0) nl != (0 : Int))
 (Kret (PV.int IntKind.i64 (S.errS (fun (j : Nat) => tl (j + al)) (fun (j : Nat) => vl (j + al)) (0) nl)) ([[(0, false,
 Blk.cols ml [Col.int IntKind.i64 tl, Col.int IntKind.i64 vl, Col.bool gl])]]) (5))
 (test (decide ((↑nl : Int) > ca))
 (Kret (PV.int IntKind.i64 (3 : Int)) ([[(0, false,
 Blk.cols ml [Col.int IntKind.i64 tl, Col.int IntKind.i64 vl, Col.bool gl])]]) (5))
 (test (fz)
 (test (re == (0 : Int))
 (test (decide (ov > (0 : Int)))
 (test (decide ((↑nl : Int) < ca))
 (Kret (PV.int IntKind.i64 (1 : Int)) ([[(0, false,
 Blk.cols ml [Col.int IntKind.i64 tl, Col.int IntKind.i64 vl, Col.bool gl])]]) (5))
 (Kret (PV.int IntKind.i64 (0 : Int)) ([[(0, false,
 Blk.cols ml [Col.int IntKind.i64 tl, Col.int IntKind.i64 vl, Col.bool gl])]]) (5)))
 (Kret (PV.int IntKind.i64 (0 : Int)) ([[(0, false,
 Blk.cols ml [Col.int IntKind.i64 tl, Col.int IntKind.i64 vl, Col.bool gl])]]) (5)))
 (Kret (PV.int IntKind.i64 (1 : Int)) ([[(0, false,
 Blk.cols ml [Col.int IntKind.i64 tl, Col.int IntKind.i64 vl, Col.bool gl])]]) (5)))
 (test (re == (0 : Int))
 (Kret (PV.int IntKind.i64 (1 : Int)) ([[(0, false,
 Blk.cols ml [Col.int IntKind.i64 tl, Col.int IntKind.i64 vl, Col.bool gl])]]) (5))
 (test (decide (ov > (0 : Int)))
 (test (decide ((↑nl : Int) < ca))
 (Kret (PV.int IntKind.i64 (1 : Int)) ([[(0, false,
 Blk.cols ml [Col.int IntKind.i64 tl, Col.int IntKind.i64 vl, Col.bool gl])]]) (5))
 (Kret (PV.int IntKind.i64 (0 : Int)) ([[(0, false,
 Blk.cols ml [Col.int IntKind.i64 tl, Col.int IntKind.i64 vl, Col.bool gl])]]) (5)))
 (Kret (PV.int IntKind.i64 (0 : Int)) ([[(0, false,
 Blk.cols ml [Col.int IntKind.i64 tl, Col.int IntKind.i64 vl, Col.bool gl])]]) (5)))))))
 (False)))))))
 (test (false)
 (Kret (PV.int IntKind.i64 (0 : Int)) ([[(0, false,
 Blk.cols ml [Col.int IntKind.i64 tl, Col.int IntKind.i64 vl, Col.bool gl])]]) (4))
 (test (decide (ov < (0 : Int)))
 (Kret (PV.int IntKind.i64 (6 : Int)) ([[(0, false,
 Blk.cols ml [Col.int IntKind.i64 tl, Col.int IntKind.i64 vl, Col.bool gl])]]) (4))
 (test (decide (ov > (1099511627776 : Int)))
 (Kret (PV.int IntKind.i64 (6 : Int)) ([[(0, false,
 Blk.cols ml [Col.int IntKind.i64 tl, Col.int IntKind.i64 vl, Col.bool gl])]]) (4))
 (test (decide (re < (-1 : Int)))
 (Kret (PV.int IntKind.i64 (6 : Int)) ([[(0, false,
 Blk.cols ml [Col.int IntKind.i64 tl, Col.int IntKind.i64 vl, Col.bool gl])]]) (4))
 (test (decide (re > af))
 (Kret (PV.int IntKind.i64 (6 : Int)) ([[(0, false,
 Blk.cols ml [Col.int IntKind.i64 tl, Col.int IntKind.i64 vl, Col.bool gl])]]) (4))
 (test (decide (al + nl ≤ ml ∧ nl ≤ 1000000))
 (test (S.errS (fun (j : Nat) => tl (j + al)) (fun (j : Nat) => vl (j + al)) (0) nl != (0 : Int))
 (Kret (PV.int IntKind.i64 (S.errS (fun (j : Nat) => tl (j + al)) (fun (j : Nat) => vl (j + al)) (0) nl)) ([[(0, false,
 Blk.cols ml [Col.int IntKind.i64 tl, Col.int IntKind.i64 vl, Col.bool gl])]]) (5))
 (test (decide ((↑nl : Int) > ca))
 (Kret (PV.int IntKind.i64 (3 : Int)) ([[(0, false,
 Blk.cols ml [Col.int IntKind.i64 tl, Col.int IntKind.i64 vl, Col.bool gl])]]) (5))
 (test (fz)
 (test (re == (0 : Int))
 (test (decide (ov > (0 : Int)))
 (test (decide ((↑nl : Int) < ca))
 (Kret (PV.int IntKind.i64 (1 : Int)) ([[(0, false,
 Blk.cols ml [Col.int IntKind.i64 tl, Col.int IntKind.i64 vl, Col.bool gl])]]) (5))
 (Kret (PV.int IntKind.i64 (0 : Int)) ([[(0, false,
 Blk.cols ml [Col.int IntKind.i64 tl, Col.int IntKind.i64 vl, Col.bool gl])]]) (5)))
 (Kret (PV.int IntKind.i64 (0 : Int)) ([[(0, false,
 Blk.cols ml [Col.int IntKind.i64 tl, Col.int IntKind.i64 vl, Col.bool gl])]]) (5)))
 (Kret (PV.int IntKind.i64 (1 : Int)) ([[(0, false,
 Blk.cols ml [Col.int IntKind.i64 tl, Col.int IntKind.i64 vl, Col.bool gl])]]) (5)))
 (test (re == (0 : Int))
 (Kret (PV.int IntKind.i64 (1 : Int)) ([[(0, false,
 Blk.cols ml [Col.int IntKind.i64 tl, Col.int IntKind.i64 vl, Col.bool gl])]]) (5))
 (test (decide (ov > (0 : Int)))
 (test (decide ((↑nl : Int) < ca))
 (Kret (PV.int IntKind.i64 (1 : Int)) ([[(0, false,
 Blk.cols ml [Col.int IntKind.i64 tl, Col.int IntKind.i64 vl, Col.bool gl])]]) (5))
 (Kret (PV.int IntKind.i64 (0 : Int)) ([[(0, false,
 Blk.cols ml [Col.int IntKind.i64 tl, Col.int IntKind.i64 vl, Col.bool gl])]]) (5)))
 (Kret (PV.int IntKind.i64 (0 : Int)) ([[(0, false,
 Blk.cols ml [Col.int IntKind.i64 tl, Col.int IntKind.i64 vl, Col.bool gl])]]) (5)))))))
 (False))))))))))
set_option maxRecDepth 100000 in
theorem te20 (test : Bool → Prop → Prop → Prop) (Kst : KS) (Kret : KR) (ca : Int) (af : Int) (al nl ml : Nat) (tl : Nat → Int) (vl : Nat → Int) (gl : Nat → Bool) (ov : Int) (re : Int) (fz : Bool) : run test Try.env true (xA test) true 400 ⟨20, [.cd (mkFn Try.f20).body], argT 0 [.agg [.int .i64 ca, .int .i64 af, .loose ⟨0, 3, al, 0⟩ nl, .int .i64 ov, .int .i64 re, .bool fz]], [[], [(0, (false, .cols ml [.int .i64 tl, .int .i64 vl, .bool gl]))]], 1⟩ (proj 1 [] Kst Kret) =
  Te20 test Kst Kret ca af al nl ml tl vl gl ov re fz := by kernel_rfl
set_option maxRecDepth 100000 in
theorem be20 (ca : Int) (af : Int) (al nl ml : Nat) (tl : Nat → Int) (vl : Nat → Int) (gl : Nat → Bool) (ov : Int) (re : Int) (fz : Bool) (Kst : KS) (Kret : KR) (x : St20 ⊕ Rt20) (hS : HS 1 400 ((I20 ca af al nl ml tl vl gl ov re fz)) Kst x) (hR : HR 1 400 ((V20 ca af al nl ml tl vl gl ov re fz)) (fun r => [newL (1 + 1) ((N20 ca af al nl ml tl vl gl ov re fz) r) ++ [(0, (false, .cols ml [.int .i64 tl, .int .i64 vl, .bool gl]))]]) Kret x) (h : (bif (decide (ca < (1 : Int)))
 then (some (.inr ((6 : Int))))
 else (bif (decide (ca > (200 : Int)))
 then (some (.inr ((6 : Int))))
 else (bif (decide (af < (0 : Int)))
 then (some (.inr ((6 : Int))))
 else (bif (decide (af > (200 : Int)))
 then (some (.inr ((6 : Int))))
 else (bif (decide (ov < (0 : Int)))
 then (some (.inr ((6 : Int))))
 else (bif (decide (ov > (1099511627776 : Int)))
 then (some (.inr ((6 : Int))))
 else (bif (decide (re < (-1 : Int)))
 then (some (.inr ((6 : Int))))
 else (bif (decide (re > af))
 then (some (.inr ((6 : Int))))
 else (bif (decide (al + nl ≤ ml ∧ nl ≤ 1000000))
 then (bif (S.errS (fun (j : Nat) => tl (j + al)) (fun (j : Nat) => vl (j + al)) (0) nl != (0 : Int))
 then (some (.inr (S.errS (fun (j : Nat) => tl (j + al)) (fun (j : Nat) => vl (j + al)) (0) nl)))
 else (bif (decide ((↑nl : Int) > ca))
 then (some (.inr ((3 : Int))))
 else (bif (fz)
 then (bif (re == (0 : Int))
 then (bif (decide (ov > (0 : Int)))
 then (bif (decide ((↑nl : Int) < ca))
 then (some (.inr ((1 : Int))))
 else (some (.inr ((0 : Int)))))
 else (some (.inr ((0 : Int)))))
 else (some (.inr ((1 : Int)))))
 else (bif (re == (0 : Int))
 then (some (.inr ((1 : Int))))
 else (bif (decide (ov > (0 : Int)))
 then (bif (decide ((↑nl : Int) < ca))
 then (some (.inr ((1 : Int))))
 else (some (.inr ((0 : Int)))))
 else (some (.inr ((0 : Int)))))))))
 else (none))))))))) : Option (St20 ⊕ Rt20)) = some x) : Te20 cond Kst Kret ca af al nl ml tl vl gl ov re fz := by
  unfold Te20
  exact bif_split h
   (fun c0 h => cond_yes rfl (ret_at hR _ h (fun n => n) rfl rfl rfl (rn_int rfl) rfl (entl_bor (use_lo rfl) rfl rfl entl_nil)))
   (fun c0 h => bif_split h
   (fun c1 h => cond_yes rfl (ret_at hR _ h (fun n => n) rfl rfl rfl (rn_int rfl) rfl (entl_bor (use_lo rfl) rfl rfl entl_nil)))
   (fun c1 h => bif_split h
   (fun c2 h => cond_yes rfl (ret_at hR _ h (fun n => n) rfl rfl rfl (rn_int rfl) rfl (entl_bor (use_lo rfl) rfl rfl entl_nil)))
   (fun c2 h => bif_split h
   (fun c3 h => cond_yes rfl (ret_at hR _ h (fun n => n) rfl rfl rfl (rn_int rfl) rfl (entl_bor (use_lo rfl) rfl rfl entl_nil)))
   (fun c3 h => cond_no rfl (bif_split h
   (fun c4 h => ret_at hR _ h (fun n => n) rfl rfl rfl (rn_int rfl) rfl (entl_bor (use_lo rfl) rfl rfl entl_nil))
   (fun c4 h => bif_split h
   (fun c5 h => ret_at hR _ h (fun n => n) rfl rfl rfl (rn_int rfl) rfl (entl_bor (use_lo rfl) rfl rfl entl_nil))
   (fun c5 h => bif_split h
   (fun c6 h => ret_at hR _ h (fun n => n) rfl rfl rfl (rn_int rfl) rfl (entl_bor (use_lo rfl) rfl rfl entl_nil))
   (fun c6 h => bif_split h
   (fun c7 h => ret_at hR _ h (fun n => n) rfl rfl rfl (rn_int rfl) rfl (entl_bor (use_lo rfl) rfl rfl entl_nil))
   (fun c7 h => bif_split h
   (fun c8 h => bif_split h
   (fun c9 h => ret_at hR _ h (fun n => n) rfl rfl rfl (rn_int rfl) rfl (entl_bor (use_lo rfl) rfl rfl entl_nil))
   (fun c9 h => bif_split h
   (fun c10 h => ret_at hR _ h (fun n => n) rfl rfl rfl (rn_int rfl) rfl (entl_bor (use_lo rfl) rfl rfl entl_nil))
   (fun c10 h => bif_split h
   (fun c11 h => bif_split h
   (fun c12 h => bif_split h
   (fun c13 h => bif_split h
   (fun c14 h => ret_at hR _ h (fun n => n) rfl rfl rfl (rn_int rfl) rfl (entl_bor (use_lo rfl) rfl rfl entl_nil))
   (fun c14 h => ret_at hR _ h (fun n => n) rfl rfl rfl (rn_int rfl) rfl (entl_bor (use_lo rfl) rfl rfl entl_nil)))
   (fun c13 h => ret_at hR _ h (fun n => n) rfl rfl rfl (rn_int rfl) rfl (entl_bor (use_lo rfl) rfl rfl entl_nil)))
   (fun c12 h => ret_at hR _ h (fun n => n) rfl rfl rfl (rn_int rfl) rfl (entl_bor (use_lo rfl) rfl rfl entl_nil)))
   (fun c11 h => bif_split h
   (fun c12 h => ret_at hR _ h (fun n => n) rfl rfl rfl (rn_int rfl) rfl (entl_bor (use_lo rfl) rfl rfl entl_nil))
   (fun c12 h => bif_split h
   (fun c13 h => bif_split h
   (fun c14 h => ret_at hR _ h (fun n => n) rfl rfl rfl (rn_int rfl) rfl (entl_bor (use_lo rfl) rfl rfl entl_nil))
   (fun c14 h => ret_at hR _ h (fun n => n) rfl rfl rfl (rn_int rfl) rfl (entl_bor (use_lo rfl) rfl rfl entl_nil)))
   (fun c13 h => ret_at hR _ h (fun n => n) rfl rfl rfl (rn_int rfl) rfl (entl_bor (use_lo rfl) rfl rfl entl_nil)))))))
   (fun c8 h => no_some h))))))))))
theorem a20 (ca : Int) (af : Int) (al nl ml : Nat) (tl : Nat → Int) (vl : Nat → Int) (gl : Nat → Bool) (ov : Int) (re : Int) (fz : Bool) {r : Rt20} (h : Goes ((q20 ca af al nl ml tl vl gl ov re fz)) ((p20 ca af al nl ml tl vl gl ov re fz)) r) : CallR Try.prog 20 [.agg [.int .i64 ca, .int .i64 af, .loose ⟨0, 3, al, 0⟩ nl, .int .i64 ov, .int .i64 re, .bool fz]] [[(0, (false, .cols ml [.int .i64 tl, .int .i64 vl, .bool gl]))]] 1 ((V20 ca af al nl ml tl vl gl ov re fz) r) ((fun r => [newL (1 + 1) ((N20 ca af al nl ml tl vl gl ov re fz) r) ++ [(0, (false, .cols ml [.int .i64 tl, .int .i64 vl, .bool gl]))]]) r) 400 ∧ ∃ F, Try.prog.funcs[20]? = some F ∧ F.body.isSome = true ∧ (F.name == "runtime.NumGoroutine") = false := by
  refine dec_calls (f := 20) (lo := 1) (hi := 400) (H := [[(0, (false, .cols ml [.int .i64 tl, .int .i64 vl, .bool gl]))]]) (args := [.agg [.int .i64 ca, .int .i64 af, .loose ⟨0, 3, al, 0⟩ nl, .int .i64 ov, .int .i64 re, .bool fz]]) Try.envOk Try.mixed xA_ok ((I20 ca af al nl ml tl vl gl ov re fz)) ((V20 ca af al nl ml tl vl gl ov re fz)) (fun r => [newL (1 + 1) ((N20 ca af al nl ml tl vl gl ov re fz) r) ++ [(0, (false, .cols ml [.int .i64 tl, .int .i64 vl, .bool gl]))]]) (fn := mkFn Try.f20) (ts := []) (n := 400) rfl (by decide) (by simp) (names_of rfl) ?_ ?_ ?_ h
  · intro s; exact s.elim
  · intro Kst Kret x hS hR h
    exact Holds.eq (te20 cond Kst Kret ca af al nl ml tl vl gl ov re fz) (be20 ca af al nl ml tl vl gl ov re fz Kst Kret x hS hR h)
  · intro Kst Kret x hS hR s h; exact s.elim
noncomputable def k20 : Con := ⟨20, [.agg [.plain (.int .i64), .plain (.int .i64), .list [.int .i64, .int .i64, .bool], .plain (.int .i64), .plain (.int .i64), .plain (.bool)]], fun (x : (Int × Int × (Nat × Nat × Nat × (Nat → Int) × (Nat → Int) × (Nat → Bool) × Unit) × Int × Int × Bool × Unit) × Unit) => (fun (ca : Int) (af : Int) (al nl ml : Nat) (tl : Nat → Int) (vl : Nat → Int) (gl : Nat → Bool) (ov : Int) (re : Int) (fz : Bool) => decide (al + nl ≤ ml ∧ nl ≤ 1000000)) x.1.1 x.1.2.1 x.1.2.2.1.1 x.1.2.2.1.2.1 x.1.2.2.1.2.2.1 x.1.2.2.1.2.2.2.1 x.1.2.2.1.2.2.2.2.1 x.1.2.2.1.2.2.2.2.2.1 x.1.2.2.2.1 x.1.2.2.2.2.1 x.1.2.2.2.2.2.1, fun (x : (Int × Int × (Nat × Nat × Nat × (Nat → Int) × (Nat → Int) × (Nat → Bool) × Unit) × Int × Int × Bool × Unit) × Unit) => (fun (ca : Int) (af : Int) (al nl ml : Nat) (tl : Nat → Int) (vl : Nat → Int) (gl : Nat → Bool) (ov : Int) (re : Int) (fz : Bool) => (V20 ca af al nl ml tl vl gl ov re fz) (S.vB ca af nl (fun j => tl (j + al)) (fun j => vl (j + al)) ov re fz)) x.1.1 x.1.2.1 x.1.2.2.1.1 x.1.2.2.1.2.1 x.1.2.2.1.2.2.1 x.1.2.2.1.2.2.2.1 x.1.2.2.1.2.2.2.2.1 x.1.2.2.1.2.2.2.2.2.1 x.1.2.2.2.1 x.1.2.2.2.2.1 x.1.2.2.2.2.2.1, fun (x : (Int × Int × (Nat × Nat × Nat × (Nat → Int) × (Nat → Int) × (Nat → Bool) × Unit) × Int × Int × Bool × Unit) × Unit) => (fun (ca : Int) (af : Int) (al nl ml : Nat) (tl : Nat → Int) (vl : Nat → Int) (gl : Nat → Bool) (ov : Int) (re : Int) (fz : Bool) => (N20 ca af al nl ml tl vl gl ov re fz) (S.vB ca af nl (fun j => tl (j + al)) (fun j => vl (j + al)) ov re fz)) x.1.1 x.1.2.1 x.1.2.2.1.1 x.1.2.2.1.2.1 x.1.2.2.1.2.2.1 x.1.2.2.1.2.2.2.1 x.1.2.2.1.2.2.2.2.1 x.1.2.2.1.2.2.2.2.2.1 x.1.2.2.2.1 x.1.2.2.2.2.1 x.1.2.2.2.2.2.1, fun _ _ => .dead⟩
theorem s20 (ca : Int) (af : Int) (al nl ml : Nat) (tl : Nat → Int) (vl : Nat → Int) (gl : Nat → Bool) (ov : Int) (re : Int) (fz : Bool) (hp : al + nl ≤ ml ∧ nl ≤ 1000000) : Goes ((q20 ca af al nl ml tl vl gl ov re fz)) ((p20 ca af al nl ml tl vl gl ov re fz)) (S.vB ca af nl (fun j => tl (j + al)) (fun j => vl (j + al)) ov re fz) := by
  obtain ⟨hp1, hp2⟩ := hp
  generalize he : S.errS (fun j => tl (j + al)) (fun j => vl (j + al)) 0 nl = e
  cases fz <;> (
  show Goes _ _ _
  unfold p20; rw [he]
  repeat' first
    | with_reducible refine goes_if (fun h => ?_) (fun h => ?_) <;> (try simp only [lim64, decide_eq_true_eq, decide_eq_false_iff_not, Int.toNat_natCast, toNat_pred, toNat_succ, Option.getD_some, Option.getD_none, Bool.not_eq_true', Bool.not_eq_false', Bool.and_eq_true, Bool.or_eq_true, Bool.and_eq_false_iff, Bool.or_eq_false_iff, bne_iff_ne, beq_iff_eq, bne_eq_false_iff_eq, beq_eq_false_iff_ne, ne_eq, not_and, Int.not_le, Int.not_lt, ge_iff_le, gt_iff_lt, Nat.not_lt, Nat.not_le, Bool.not_eq_true, Bool.not_eq_false, Bool.true_eq_false, Bool.false_eq_true, not_false_eq_true, not_true_eq_false] at h)
    | exact goes_none.mpr (by omega)
  all_goals first | (exfalso; omega) | (refine goes_inr.mpr ?_; simp only [S.vB, he, eq_self, true_imp_iff, Bool.false_eq_true, false_imp_iff, imp_false, true_and, and_true, implies_true]; (repeat' split) <;> first | rfl | omega))

theorem k20_ok : k20.ok Try.prog := by
  intro x hx
  obtain ⟨⟨ca, af, ⟨al, nl, ml, tl, vl, gl, _⟩, ov, re, fz, _⟩, _⟩ := x
  obtain ⟨h1, h2⟩ := a20 ca af al nl ml tl vl gl ov re fz (s20 ca af al nl ml tl vl gl ov re fz (of_dec hx rfl))
  exact ⟨⟨400, (by decide : 1 + 1 + 0 ≤ 400), h1⟩, h2⟩

end Go.Ev
