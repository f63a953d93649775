/-
  Common.
-/
import Derived.Test.YtffldkecndnbiaaTC2
namespace Go.Ev
open Go.Proofs
set_option linter.unusedVariables false
set_option linter.unusedSimpArgs false
set_option maxRecDepth 100000
abbrev St32 := Empty
abbrev Rt32 := Int × Int
noncomputable def V32 (ap np mp : Nat) (tp : Nat → Int) (vp : Nat → Int) (gp : Nat → Int) (wp : Nat → Int) (na : Int) (nb : Int) (r : Rt32) : PV := PV.tup [PV.int IntKind.i64 r.1, PV.int IntKind.i64 r.2]
noncomputable def N32 (ap np mp : Nat) (tp : Nat → Int) (vp : Nat → Int) (gp : Nat → Int) (wp : Nat → Int) (na : Int) (nb : Int) (r : Rt32) : List Blk := []
noncomputable def I32 (ap np mp : Nat) (tp : Nat → Int) (vp : Nat → Int) (gp : Nat → Int) (wp : Nat → Int) (na : Int) (nb : Int) : St32 → Hd := fun s => s.elim
noncomputable def q32 (ap np mp : Nat) (tp : Nat → Int) (vp : Nat → Int) (gp : Nat → Int) (wp : Nat → Int) (na : Int) (nb : Int) : St32 → Option (St32 ⊕ Rt32) := fun s => s.elim
noncomputable def p32 (ap np mp : Nat) (tp : Nat → Int) (vp : Nat → Int) (gp : Nat → Int) (wp : Nat → Int) (na : Int) (nb : Int) : Option (St32 ⊕ Rt32) := bif (decide (ap + np ≤ mp ∧ np ≤ 1000000))
 then (bif ((S.treE np (fun (q : Nat) => tp (q + ap)) (fun (q : Nat) => vp (q + ap)) (fun (q : Nat) => gp (q + ap))
 fun (q : Nat) => wp (q + ap)) !=
 (0 : Int))
 then (some (.inr ((0 : Int), S.treE np (fun (q : Nat) => tp (q + ap)) (fun (q : Nat) => vp (q + ap)) (fun (q : Nat) => gp (q + ap))
 fun (q : Nat) => wp (q + ap))))
 else (bif (lim IntKind.i64 ((↑np : Int) - (1 : Int)))
 then (bif (decide (na ≥ (0 : Int)))
 then (bif (decide (na ≤ (↑np : Int) - (1 : Int)))
 then (bif (decide (nb ≥ (0 : Int)))
 then (bif (decide (nb ≤ (↑np : Int) - (1 : Int)))
 then (bif (decide
 (ap + np ≤ mp ∧
 np ≤ 1000000 ∧
 (S.treE np (fun (q : Nat) => tp (q + ap)) (fun (q : Nat) => vp (q + ap)) (fun (q : Nat) => gp (q + ap))
 fun (q : Nat) => wp (q + ap)) =
 (0 : Int) ∧
 ((0 : Int) ≤ na ∧ na < (↑np : Int)) ∧ (0 : Int) ≤ nb ∧ nb < (↑np : Int)))
 then (some (.inr ((↑(S.com (fun (q : Nat) => tp (q + ap)) (Int.toNat na) (Int.toNat nb)) : Int), (0 : Int))))
 else (none))
 else (some (.inr ((0 : Int), (6 : Int)))))
 else (some (.inr ((0 : Int), (6 : Int)))))
 else (some (.inr ((0 : Int), (6 : Int)))))
 else (some (.inr ((0 : Int), (6 : Int)))))
 else (none)))
 else (none)
noncomputable def Te32 (test : Bool → Prop → Prop → Prop) (Kst : KS) (Kret : KR) (ap np mp : Nat) (tp : Nat → Int) (vp : Nat → Int) (gp : Nat → Int) (wp : Nat → Int) (na : Int) (nb : Int) : Prop :=
  test (decide (ap + np ≤ mp ∧ np ≤ 1000000))
 (test ((S.treE np (fun (q : Nat) => tp (q + ap)) (fun (q : Nat) => vp (q + ap)) (fun (q : Nat) => gp (q + ap))
 fun (q : Nat) => wp (q + ap)) !=
 (0 : Int))
 (Kret (PV.tup
 [PV.int IntKind.i64 (0 : Int),
 PV.int IntKind.i64
 (S.treE np (fun (q : Nat) => tp (q + ap)) (fun (q : Nat) => vp (q + ap)) (fun (q : Nat) => gp (q + ap))
 fun (q : Nat) => wp (q + ap))]) ([[(0, false,
 Blk.cols mp
 [Col.int IntKind.i64 tp, Col.int IntKind.i64 vp, Col.int IntKind.i64 gp,
 Col.int IntKind.i64 wp])]]) (3))
 (test (lim IntKind.i64 ((↑np : Int) - (1 : Int)))
 (test (decide (na ≥ (0 : Int)))
 (test (decide (na ≤ (↑np : Int) - (1 : Int)))
 (test (lim IntKind.i64 ((↑np : Int) - (1 : Int)))
 (test (decide (nb ≥ (0 : Int)))
 (test (decide (nb ≤ (↑np : Int) - (1 : Int)))
 (test (decide
 (ap + np ≤ mp ∧
 np ≤ 1000000 ∧
 (S.treE np (fun (q : Nat) => tp (q + ap)) (fun (q : Nat) => vp (q + ap)) (fun (q : Nat) => gp (q + ap))
 fun (q : Nat) => wp (q + ap)) =
 (0 : Int) ∧
 ((0 : Int) ≤ na ∧ na < (↑np : Int)) ∧ (0 : Int) ≤ nb ∧ nb < (↑np : Int)))
 (Kret (PV.tup
 [PV.int IntKind.i64 (↑(S.com (fun (q : Nat) => tp (q + ap)) (Int.toNat na) (Int.toNat nb)) : Int),
 PV.int IntKind.i64 (0 : Int)]) ([[(0, false,
 Blk.cols mp
 [Col.int IntKind.i64 tp, Col.int IntKind.i64 vp, Col.int IntKind.i64 gp,
 Col.int IntKind.i64 wp])]]) (4))
 (False))
 (Kret (PV.tup [PV.int IntKind.i64 (0 : Int), PV.int IntKind.i64 (6 : Int)]) ([[(0, false,
 Blk.cols mp
 [Col.int IntKind.i64 tp, Col.int IntKind.i64 vp, Col.int IntKind.i64 gp,
 Col.int IntKind.i64 wp])]]) (3)))
 (Kret (PV.tup [PV.int IntKind.i64 (0 : Int), PV.int IntKind.i64 (6 : Int)]) ([[(0, false,
 Blk.cols mp
 [Col.int IntKind.i64 tp, Col.int IntKind.i64 vp, Col.int IntKind.i64 gp,
 Col.int IntKind.i64 wp])]]) (3)))
 (False))
 (Kret (PV.tup [PV.int IntKind.i64 (0 : Int), PV.int IntKind.i64 (6 : Int)]) ([[(0, false,
 Blk.cols mp
 [Col.int IntKind.i64 tp, Col.int IntKind.i64 vp, Col.int IntKind.i64 gp,
 Col.int IntKind.i64 wp])]]) (3)))
 (Kret (PV.tup [PV.int IntKind.i64 (0 : Int), PV.int IntKind.i64 (6 : Int)]) ([[(0, false,
 Blk.cols mp
 [Col.int IntKind.i64 tp, Col.int IntKind.i64 vp, Col.int IntKind.i64 gp,
 Col.int IntKind.i64 wp])]]) (3)))
 (False)))
 (False)
set_option maxRecDepth 100000 in
theorem te32 (test : Bool → Prop → Prop → Prop) (Kst : KS) (Kret : KR) (ap np mp : Nat) (tp : Nat → Int) (vp : Nat → Int) (gp : Nat → Int) (wp : Nat → Int) (na : Int) (nb : Int) : run test Try.env true (xH test) true 400 ⟨32, [.cd (mkFn Try.f32).body], argT 0 [.agg [.loose ⟨0, 4, ap, 0⟩ np], .int .i64 na, .int .i64 nb], [[], [(0, (false, .cols mp [.int .i64 tp, .int .i64 vp, .int .i64 gp, .int .i64 wp]))]], 1⟩ (proj 1 [] Kst Kret) =
  Te32 test Kst Kret ap np mp tp vp gp wp na nb := by kernel_rfl
set_option maxRecDepth 100000 in
theorem be32 (ap np mp : Nat) (tp : Nat → Int) (vp : Nat → Int) (gp : Nat → Int) (wp : Nat → Int) (na : Int) (nb : Int) (Kst : KS) (Kret : KR) (x : St32 ⊕ Rt32) (hS : HS 1 400 ((I32 ap np mp tp vp gp wp na nb)) Kst x) (hR : HR 1 400 ((V32 ap np mp tp vp gp wp na nb)) (fun r => [newL (1 + 1) ((N32 ap np mp tp vp gp wp na nb) r) ++ [(0, (false, .cols mp [.int .i64 tp, .int .i64 vp, .int .i64 gp, .int .i64 wp]))]]) Kret x) (h : (bif (decide (ap + np ≤ mp ∧ np ≤ 1000000))
 then (bif ((S.treE np (fun (q : Nat) => tp (q + ap)) (fun (q : Nat) => vp (q + ap)) (fun (q : Nat) => gp (q + ap))
 fun (q : Nat) => wp (q + ap)) !=
 (0 : Int))
 then (some (.inr ((0 : Int), S.treE np (fun (q : Nat) => tp (q + ap)) (fun (q : Nat) => vp (q + ap)) (fun (q : Nat) => gp (q + ap))
 fun (q : Nat) => wp (q + ap))))
 else (bif (lim IntKind.i64 ((↑np : Int) - (1 : Int)))
 then (bif (decide (na ≥ (0 : Int)))
 then (bif (decide (na ≤ (↑np : Int) - (1 : Int)))
 then (bif (decide (nb ≥ (0 : Int)))
 then (bif (decide (nb ≤ (↑np : Int) - (1 : Int)))
 then (bif (decide
 (ap + np ≤ mp ∧
 np ≤ 1000000 ∧
 (S.treE np (fun (q : Nat) => tp (q + ap)) (fun (q : Nat) => vp (q + ap)) (fun (q : Nat) => gp (q + ap))
 fun (q : Nat) => wp (q + ap)) =
 (0 : Int) ∧
 ((0 : Int) ≤ na ∧ na < (↑np : Int)) ∧ (0 : Int) ≤ nb ∧ nb < (↑np : Int)))
 then (some (.inr ((↑(S.com (fun (q : Nat) => tp (q + ap)) (Int.toNat na) (Int.toNat nb)) : Int), (0 : Int))))
 else (none))
 else (some (.inr ((0 : Int), (6 : Int)))))
 else (some (.inr ((0 : Int), (6 : Int)))))
 else (some (.inr ((0 : Int), (6 : Int)))))
 else (some (.inr ((0 : Int), (6 : Int)))))
 else (none)))
 else (none) : Option (St32 ⊕ Rt32)) = some x) : Te32 cond Kst Kret ap np mp tp vp gp wp na nb := by
  unfold Te32
  exact bif_split h
   (fun c0 h => bif_split h
   (fun c1 h => ret_at hR _ h (fun n => n) rfl rfl rfl (rn_tup ⟨(rn_int rfl), (rn_int rfl), trivial⟩) rfl (entl_bor (use_lo rfl) rfl rfl entl_nil))
   (fun c1 h => bif_split h
   (fun c2 h => bif_split h
   (fun c3 h => bif_split h
   (fun c4 h => cond_yes c2 (bif_split h
   (fun c5 h => bif_split h
   (fun c6 h => bif_split h
   (fun c7 h => ret_at hR _ h (fun n => n) rfl rfl rfl (rn_tup ⟨(rn_int rfl), (rn_int rfl), trivial⟩) rfl (entl_bor (use_lo rfl) rfl rfl entl_nil))
   (fun c7 h => no_some h))
   (fun c6 h => ret_at hR _ h (fun n => n) rfl rfl rfl (rn_tup ⟨(rn_int rfl), (rn_int rfl), trivial⟩) rfl (entl_bor (use_lo rfl) rfl rfl entl_nil)))
   (fun c5 h => ret_at hR _ h (fun n => n) rfl rfl rfl (rn_tup ⟨(rn_int rfl), (rn_int rfl), trivial⟩) rfl (entl_bor (use_lo rfl) rfl rfl entl_nil))))
   (fun c4 h => ret_at hR _ h (fun n => n) rfl rfl rfl (rn_tup ⟨(rn_int rfl), (rn_int rfl), trivial⟩) rfl (entl_bor (use_lo rfl) rfl rfl entl_nil)))
   (fun c3 h => ret_at hR _ h (fun n => n) rfl rfl rfl (rn_tup ⟨(rn_int rfl), (rn_int rfl), trivial⟩) rfl (entl_bor (use_lo rfl) rfl rfl entl_nil)))
   (fun c2 h => no_some h)))
   (fun c0 h => no_some h)
theorem a32 (ap np mp : Nat) (tp : Nat → Int) (vp : Nat → Int) (gp : Nat → Int) (wp : Nat → Int) (na : Int) (nb : Int) {r : Rt32} (h : Goes ((q32 ap np mp tp vp gp wp na nb)) ((p32 ap np mp tp vp gp wp na nb)) r) : CallR Try.prog 32 [.agg [.loose ⟨0, 4, ap, 0⟩ np], .int .i64 na, .int .i64 nb] [[(0, (false, .cols mp [.int .i64 tp, .int .i64 vp, .int .i64 gp, .int .i64 wp]))]] 1 ((V32 ap np mp tp vp gp wp na nb) r) ((fun r => [newL (1 + 1) ((N32 ap np mp tp vp gp wp na nb) r) ++ [(0, (false, .cols mp [.int .i64 tp, .int .i64 vp, .int .i64 gp, .int .i64 wp]))]]) r) 400 ∧ ∃ F, Try.prog.funcs[32]? = some F ∧ F.body.isSome = true ∧ (F.name == "runtime.NumGoroutine") = false := by
  refine dec_calls (f := 32) (lo := 1) (hi := 400) (H := [[(0, (false, .cols mp [.int .i64 tp, .int .i64 vp, .int .i64 gp, .int .i64 wp]))]]) (args := [.agg [.loose ⟨0, 4, ap, 0⟩ np], .int .i64 na, .int .i64 nb]) Try.envOk Try.mixed xH_ok ((I32 ap np mp tp vp gp wp na nb)) ((V32 ap np mp tp vp gp wp na nb)) (fun r => [newL (1 + 1) ((N32 ap np mp tp vp gp wp na nb) r) ++ [(0, (false, .cols mp [.int .i64 tp, .int .i64 vp, .int .i64 gp, .int .i64 wp]))]]) (fn := mkFn Try.f32) (ts := []) (n := 400) rfl (by decide) (by simp) (names_of rfl) ?_ ?_ ?_ h
  · intro s; exact s.elim
  · intro Kst Kret x hS hR h
    exact Holds.eq (te32 cond Kst Kret ap np mp tp vp gp wp na nb) (be32 ap np mp tp vp gp wp na nb Kst Kret x hS hR h)
  · intro Kst Kret x hS hR s h; exact s.elim
noncomputable def k32 : Con := ⟨32, [.agg [.list [.int .i64, .int .i64, .int .i64, .int .i64]], .one (.plain (.int .i64)), .one (.plain (.int .i64))], fun (x : ((Nat × Nat × Nat × (Nat → Int) × (Nat → Int) × (Nat → Int) × (Nat → Int) × Unit) × Unit) × Int × Int × Unit) => (fun (ap np mp : Nat) (tp : Nat → Int) (vp : Nat → Int) (gp : Nat → Int) (wp : Nat → Int) (na : Int) (nb : Int) => decide (ap + np ≤ mp ∧ np ≤ 1000000)) x.1.1.1 x.1.1.2.1 x.1.1.2.2.1 x.1.1.2.2.2.1 x.1.1.2.2.2.2.1 x.1.1.2.2.2.2.2.1 x.1.1.2.2.2.2.2.2.1 x.2.1 x.2.2.1, fun (x : ((Nat × Nat × Nat × (Nat → Int) × (Nat → Int) × (Nat → Int) × (Nat → Int) × Unit) × Unit) × Int × Int × Unit) => (fun (ap np mp : Nat) (tp : Nat → Int) (vp : Nat → Int) (gp : Nat → Int) (wp : Nat → Int) (na : Int) (nb : Int) => (V32 ap np mp tp vp gp wp na nb) (S.comS np (fun q => tp (q + ap)) (fun q => vp (q + ap)) (fun q => gp (q + ap)) (fun q => wp (q + ap)) na nb)) x.1.1.1 x.1.1.2.1 x.1.1.2.2.1 x.1.1.2.2.2.1 x.1.1.2.2.2.2.1 x.1.1.2.2.2.2.2.1 x.1.1.2.2.2.2.2.2.1 x.2.1 x.2.2.1, fun (x : ((Nat × Nat × Nat × (Nat → Int) × (Nat → Int) × (Nat → Int) × (Nat → Int) × Unit) × Unit) × Int × Int × Unit) => (fun (ap np mp : Nat) (tp : Nat → Int) (vp : Nat → Int) (gp : Nat → Int) (wp : Nat → Int) (na : Int) (nb : Int) => (N32 ap np mp tp vp gp wp na nb) (S.comS np (fun q => tp (q + ap)) (fun q => vp (q + ap)) (fun q => gp (q + ap)) (fun q => wp (q + ap)) na nb)) x.1.1.1 x.1.1.2.1 x.1.1.2.2.1 x.1.1.2.2.2.1 x.1.1.2.2.2.2.1 x.1.1.2.2.2.2.2.1 x.1.1.2.2.2.2.2.2.1 x.2.1 x.2.2.1, fun _ _ => .dead⟩
theorem s32 (ap np mp : Nat) (tp : Nat → Int) (vp : Nat → Int) (gp : Nat → Int) (wp : Nat → Int) (na : Int) (nb : Int) (hp : ap + np ≤ mp ∧ np ≤ 1000000) : Goes ((q32 ap np mp tp vp gp wp na nb)) ((p32 ap np mp tp vp gp wp na nb)) (S.comS np (fun q => tp (q + ap)) (fun q => vp (q + ap)) (fun q => gp (q + ap)) (fun q => wp (q + ap)) na nb) := by
  unfold S.comS
  by_cases h0 : S.treE np (fun q => tp (q + ap)) (fun q => vp (q + ap)) (fun q => gp (q + ap)) (fun q => wp (q + ap)) = 0
  · rw [if_pos h0]
    by_cases h1 : (0 ≤ na ∧ na < np) ∧ 0 ≤ nb ∧ nb < np
    · rw [if_pos h1]
      show Goes _ _ _
      unfold p32
      repeat' first
        | with_reducible refine goes_if (fun h => ?_) (fun h => ?_) <;> (try simp only [lim64, decide_eq_true_eq, decide_eq_false_iff_not, Int.toNat_natCast, toNat_pred, toNat_succ, Option.getD_some, Option.getD_none, Bool.not_eq_true', Bool.not_eq_false', Bool.and_eq_true, Bool.or_eq_true, Bool.and_eq_false_iff, Bool.or_eq_false_iff, bne_iff_ne, beq_iff_eq, bne_eq_false_iff_eq, beq_eq_false_iff_ne, ne_eq, not_and, Int.not_le, Int.not_lt, ge_iff_le, gt_iff_lt, Nat.not_lt, Nat.not_le, Bool.not_eq_true, Bool.not_eq_false, Bool.true_eq_false, Bool.false_eq_true, not_false_eq_true, not_true_eq_false] at h)
        | exact goes_none.mpr (by omega)
      all_goals first | (exfalso; omega) | rfl
    · rw [if_neg h1]
      show Goes _ _ _
      unfold p32
      repeat' first
        | with_reducible refine goes_if (fun h => ?_) (fun h => ?_) <;> (try simp only [lim64, decide_eq_true_eq, decide_eq_false_iff_not, Int.toNat_natCast, toNat_pred, toNat_succ, Option.getD_some, Option.getD_none, Bool.not_eq_true', Bool.not_eq_false', Bool.and_eq_true, Bool.or_eq_true, Bool.and_eq_false_iff, Bool.or_eq_false_iff, bne_iff_ne, beq_iff_eq, bne_eq_false_iff_eq, beq_eq_false_iff_ne, ne_eq, not_and, Int.not_le, Int.not_lt, ge_iff_le, gt_iff_lt, Nat.not_lt, Nat.not_le, Bool.not_eq_true, Bool.not_eq_false, Bool.true_eq_false, Bool.false_eq_true, not_false_eq_true, not_true_eq_false] at h)
        | exact goes_none.mpr (by omega)
      all_goals first | (exfalso; omega) | rfl
  · rw [if_neg h0]
    show Goes _ _ _
    unfold p32
    repeat' first
      | with_reducible refine goes_if (fun h => ?_) (fun h => ?_) <;> (try simp only [lim64, decide_eq_true_eq, decide_eq_false_iff_not, Int.toNat_natCast, toNat_pred, toNat_succ, Option.getD_some, Option.getD_none, Bool.not_eq_true', Bool.not_eq_false', Bool.and_eq_true, Bool.or_eq_true, Bool.and_eq_false_iff, Bool.or_eq_false_iff, bne_iff_ne, beq_iff_eq, bne_eq_false_iff_eq, beq_eq_false_iff_ne, ne_eq, not_and, Int.not_le, Int.not_lt, ge_iff_le, gt_iff_lt, Nat.not_lt, Nat.not_le, Bool.not_eq_true, Bool.not_eq_false, Bool.true_eq_false, Bool.false_eq_true, not_false_eq_true, not_true_eq_false] at h)
      | exact goes_none.mpr (by omega)
    all_goals first | (exfalso; omega) | rfl

theorem k32_ok : k32.ok Try.prog := by
  intro x hx
  obtain ⟨⟨⟨ap, np, mp, tp, vp, gp, wp, _⟩, _⟩, na, nb, _⟩ := x
  obtain ⟨h1, h2⟩ := a32 ap np mp tp vp gp wp na nb (s32 ap np mp tp vp gp wp na nb (of_dec hx rfl))
  exact ⟨⟨400, (by decide : 1 + 1 + 0 ≤ 400), h1⟩, h2⟩
end Go.Ev
