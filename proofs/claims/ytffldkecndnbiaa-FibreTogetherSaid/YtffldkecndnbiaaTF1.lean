/-
  Two leaves.
-/
import Derived.Test.YtffldkecndnbiaaTF1x
namespace Go.Ev
open Go.Proofs
set_option linter.unusedVariables false
set_option linter.unusedSimpArgs false
set_option maxRecDepth 100000
abbrev St48 := Empty
abbrev Rt48 := Unit
noncomputable def V48 (ap np mp : Nat) (tp : Nat → Int) (vp : Nat → Int) (gp : Nat → Int) (wp : Nat → Int) (na : Int) (nb : Int) (r : Rt48) : PV := PV.int IntKind.i64
 (S.dl (fun (q : Nat) => tp (q + ap)) (fun (q : Nat) => wp (q + ap)) (Int.toNat na) +
 S.dl (fun (q : Nat) => tp (q + ap)) (fun (q : Nat) => wp (q + ap)) (Int.toNat nb) -
 (2 : Int) *
 S.dl (fun (q : Nat) => tp (q + ap)) (fun (q : Nat) => wp (q + ap))
 (S.com (fun (q : Nat) => tp (q + ap)) (Int.toNat na) (Int.toNat nb)))
noncomputable def N48 (ap np mp : Nat) (tp : Nat → Int) (vp : Nat → Int) (gp : Nat → Int) (wp : Nat → Int) (na : Int) (nb : Int) (r : Rt48) : List Blk := []
noncomputable def I48 (ap np mp : Nat) (tp : Nat → Int) (vp : Nat → Int) (gp : Nat → Int) (wp : Nat → Int) (na : Int) (nb : Int) : St48 → Hd := fun s => s.elim
noncomputable def q48 (ap np mp : Nat) (tp : Nat → Int) (vp : Nat → Int) (gp : Nat → Int) (wp : Nat → Int) (na : Int) (nb : Int) : St48 → Option (St48 ⊕ Rt48) := fun s => s.elim
noncomputable def p48 (ap np mp : Nat) (tp : Nat → Int) (vp : Nat → Int) (gp : Nat → Int) (wp : Nat → Int) (na : Int) (nb : Int) : Option (St48 ⊕ Rt48) := bif (decide
 (ap + np ≤ mp ∧
 np ≤ 1000000 ∧
 (S.treE np (fun (q : Nat) => tp (q + ap)) (fun (q : Nat) => vp (q + ap)) (fun (q : Nat) => gp (q + ap))
 fun (q : Nat) => wp (q + ap)) =
 (0 : Int) ∧
 (0 : Int) ≤ na ∧ na < (↑np : Int)))
 then (bif (decide
 (ap + np ≤ mp ∧
 np ≤ 1000000 ∧
 (S.treE np (fun (q : Nat) => tp (q + ap)) (fun (q : Nat) => vp (q + ap)) (fun (q : Nat) => gp (q + ap))
 fun (q : Nat) => wp (q + ap)) =
 (0 : Int) ∧
 (0 : Int) ≤ nb ∧ nb < (↑np : Int)))
 then (bif (decide
 (ap + np ≤ mp ∧
 np ≤ 1000000 ∧
 (S.treE np (fun (q : Nat) => tp (q + ap)) (fun (q : Nat) => vp (q + ap)) (fun (q : Nat) => gp (q + ap))
 fun (q : Nat) => wp (q + ap)) =
 (0 : Int) ∧
 ((0 : Int) ≤ na ∧ na < (↑np : Int)) ∧ (0 : Int) ≤ nb ∧ nb < (↑np : Int)))
 then (bif (decide
 (ap + np ≤ mp ∧
 np ≤ 1000000 ∧
 (S.treE np (fun (q : Nat) => tp (q + ap)) (fun (q : Nat) => vp (q + ap)) (fun (q : Nat) => gp (q + ap))
 fun (q : Nat) => wp (q + ap)) =
 (0 : Int) ∧
 (0 : Int) ≤ (↑(S.com (fun (q : Nat) => tp (q + ap)) (Int.toNat na) (Int.toNat nb)) : Int) ∧
 (↑(S.com (fun (q : Nat) => tp (q + ap)) (Int.toNat na) (Int.toNat nb)) : Int) < (↑np : Int)))
 then (bif (lim IntKind.i64
 (S.dl (fun (q : Nat) => tp (q + ap)) (fun (q : Nat) => wp (q + ap)) (Int.toNat na) +
 S.dl (fun (q : Nat) => tp (q + ap)) (fun (q : Nat) => wp (q + ap)) (Int.toNat nb)))
 then (bif (lim IntKind.i64
 ((2 : Int) *
 S.dl (fun (q : Nat) => tp (q + ap)) (fun (q : Nat) => wp (q + ap))
 (S.com (fun (q : Nat) => tp (q + ap)) (Int.toNat na) (Int.toNat nb))))
 then (bif (lim IntKind.i64
 (S.dl (fun (q : Nat) => tp (q + ap)) (fun (q : Nat) => wp (q + ap)) (Int.toNat na) +
 S.dl (fun (q : Nat) => tp (q + ap)) (fun (q : Nat) => wp (q + ap)) (Int.toNat nb) -
 (2 : Int) *
 S.dl (fun (q : Nat) => tp (q + ap)) (fun (q : Nat) => wp (q + ap))
 (S.com (fun (q : Nat) => tp (q + ap)) (Int.toNat na) (Int.toNat nb))))
 then (some (.inr ()))
 else (none))
 else (none))
 else (none))
 else (none))
 else (none))
 else (none))
 else (none)
noncomputable def Te48 (test : Bool → Prop → Prop → Prop) (Kst : KS) (Kret : KR) (ap np mp : Nat) (tp : Nat → Int) (vp : Nat → Int) (gp : Nat → Int) (wp : Nat → Int) (na : Int) (nb : Int) : Prop :=
  test (decide
 (ap + np ≤ mp ∧
 np ≤ 1000000 ∧
 (S.treE np (fun (q : Nat) => tp (q + ap)) (fun (q : Nat) => vp (q + ap)) (fun (q : Nat) => gp (q + ap))
 fun (q : Nat) => wp (q + ap)) =
 (0 : Int) ∧
 (0 : Int) ≤ na ∧ na < (↑np : Int)))
 (test (decide
 (ap + np ≤ mp ∧
 np ≤ 1000000 ∧
 (S.treE np (fun (q : Nat) => tp (q + ap)) (fun (q : Nat) => vp (q + ap)) (fun (q : Nat) => gp (q + ap))
 fun (q : Nat) => wp (q + ap)) =
 (0 : Int) ∧
 (0 : Int) ≤ nb ∧ nb < (↑np : Int)))
 (test (decide
 (ap + np ≤ mp ∧
 np ≤ 1000000 ∧
 (S.treE np (fun (q : Nat) => tp (q + ap)) (fun (q : Nat) => vp (q + ap)) (fun (q : Nat) => gp (q + ap))
 fun (q : Nat) => wp (q + ap)) =
 (0 : Int) ∧
 ((0 : Int) ≤ na ∧ na < (↑np : Int)) ∧ (0 : Int) ≤ nb ∧ nb < (↑np : Int)))
 (test (decide
 (ap + np ≤ mp ∧
 np ≤ 1000000 ∧
 (S.treE np (fun (q : Nat) => tp (q + ap)) (fun (q : Nat) => vp (q + ap)) (fun (q : Nat) => gp (q + ap))
 fun (q : Nat) => wp (q + ap)) =
 (0 : Int) ∧
 (0 : Int) ≤ (↑(S.com (fun (q : Nat) => tp (q + ap)) (Int.toNat na) (Int.toNat nb)) : Int) ∧
 (↑(S.com (fun (q : Nat) => tp (q + ap)) (Int.toNat na) (Int.toNat nb)) : Int) < (↑np : Int)))
 (test (lim IntKind.i64
 (S.dl (fun (q : Nat) => tp (q + ap)) (fun (q : Nat) => wp (q + ap)) (Int.toNat na) +
 S.dl (fun (q : Nat) => tp (q + ap)) (fun (q : Nat) => wp (q + ap)) (Int.toNat nb)))
 (test (lim IntKind.i64
 ((2 : Int) *
 S.dl (fun (q : Nat) => tp (q + ap)) (fun (q : Nat) => wp (q + ap))
 (S.com (fun (q : Nat) => tp (q + ap)) (Int.toNat na) (Int.toNat nb))))
 (test (lim IntKind.i64
 (S.dl (fun (q : Nat) => tp (q + ap)) (fun (q : Nat) => wp (q + ap)) (Int.toNat na) +
 S.dl (fun (q : Nat) => tp (q + ap)) (fun (q : Nat) => wp (q + ap)) (Int.toNat nb) -
 (2 : Int) *
 S.dl (fun (q : Nat) => tp (q + ap)) (fun (q : Nat) => wp (q + ap))
 (S.com (fun (q : Nat) => tp (q + ap)) (Int.toNat na) (Int.toNat nb))))
 (Kret (PV.int IntKind.i64
 (S.dl (fun (q : Nat) => tp (q + ap)) (fun (q : Nat) => wp (q + ap)) (Int.toNat na) +
 S.dl (fun (q : Nat) => tp (q + ap)) (fun (q : Nat) => wp (q + ap)) (Int.toNat nb) -
 (2 : Int) *
 S.dl (fun (q : Nat) => tp (q + ap)) (fun (q : Nat) => wp (q + ap))
 (S.com (fun (q : Nat) => tp (q + ap)) (Int.toNat na) (Int.toNat nb)))) ([[(0, false,
 Blk.cols mp
 [Col.int IntKind.i64 tp, Col.int IntKind.i64 vp, Col.int IntKind.i64 gp,
 Col.int IntKind.i64 wp])]]) (6))
 (False))
 (False))
 (False))
 (False))
 (False))
 (False))
 (False)
set_option maxRecDepth 100000 in
theorem te48 (test : Bool → Prop → Prop → Prop) (Kst : KS) (Kret : KR) (ap np mp : Nat) (tp : Nat → Int) (vp : Nat → Int) (gp : Nat → Int) (wp : Nat → Int) (na : Int) (nb : Int) : run test Try.env true (xO0 test) true 400 ⟨48, [.cd (mkFn Try.f48).body], argT 0 [.agg [.loose ⟨0, 4, ap, 0⟩ np], .int .i64 na, .int .i64 nb], [[], [(0, (false, .cols mp [.int .i64 tp, .int .i64 vp, .int .i64 gp, .int .i64 wp]))]], 1⟩ (proj 1 [] Kst Kret) =
  Te48 test Kst Kret ap np mp tp vp gp wp na nb := by kernel_rfl
set_option maxRecDepth 100000 in
theorem be48 (ap np mp : Nat) (tp : Nat → Int) (vp : Nat → Int) (gp : Nat → Int) (wp : Nat → Int) (na : Int) (nb : Int) (Kst : KS) (Kret : KR) (x : St48 ⊕ Rt48) (hS : HS 1 400 ((I48 ap np mp tp vp gp wp na nb)) Kst x) (hR : HR 1 400 ((V48 ap np mp tp vp gp wp na nb)) (fun r => [newL (1 + 1) ((N48 ap np mp tp vp gp wp na nb) r) ++ [(0, (false, .cols mp [.int .i64 tp, .int .i64 vp, .int .i64 gp, .int .i64 wp]))]]) Kret x) (h : (bif (decide
 (ap + np ≤ mp ∧
 np ≤ 1000000 ∧
 (S.treE np (fun (q : Nat) => tp (q + ap)) (fun (q : Nat) => vp (q + ap)) (fun (q : Nat) => gp (q + ap))
 fun (q : Nat) => wp (q + ap)) =
 (0 : Int) ∧
 (0 : Int) ≤ na ∧ na < (↑np : Int)))
 then (bif (decide
 (ap + np ≤ mp ∧
 np ≤ 1000000 ∧
 (S.treE np (fun (q : Nat) => tp (q + ap)) (fun (q : Nat) => vp (q + ap)) (fun (q : Nat) => gp (q + ap))
 fun (q : Nat) => wp (q + ap)) =
 (0 : Int) ∧
 (0 : Int) ≤ nb ∧ nb < (↑np : Int)))
 then (bif (decide
 (ap + np ≤ mp ∧
 np ≤ 1000000 ∧
 (S.treE np (fun (q : Nat) => tp (q + ap)) (fun (q : Nat) => vp (q + ap)) (fun (q : Nat) => gp (q + ap))
 fun (q : Nat) => wp (q + ap)) =
 (0 : Int) ∧
 ((0 : Int) ≤ na ∧ na < (↑np : Int)) ∧ (0 : Int) ≤ nb ∧ nb < (↑np : Int)))
 then (bif (decide
 (ap + np ≤ mp ∧
 np ≤ 1000000 ∧
 (S.treE np (fun (q : Nat) => tp (q + ap)) (fun (q : Nat) => vp (q + ap)) (fun (q : Nat) => gp (q + ap))
 fun (q : Nat) => wp (q + ap)) =
 (0 : Int) ∧
 (0 : Int) ≤ (↑(S.com (fun (q : Nat) => tp (q + ap)) (Int.toNat na) (Int.toNat nb)) : Int) ∧
 (↑(S.com (fun (q : Nat) => tp (q + ap)) (Int.toNat na) (Int.toNat nb)) : Int) < (↑np : Int)))
 then (bif (lim IntKind.i64
 (S.dl (fun (q : Nat) => tp (q + ap)) (fun (q : Nat) => wp (q + ap)) (Int.toNat na) +
 S.dl (fun (q : Nat) => tp (q + ap)) (fun (q : Nat) => wp (q + ap)) (Int.toNat nb)))
 then (bif (lim IntKind.i64
 ((2 : Int) *
 S.dl (fun (q : Nat) => tp (q + ap)) (fun (q : Nat) => wp (q + ap))
 (S.com (fun (q : Nat) => tp (q + ap)) (Int.toNat na) (Int.toNat nb))))
 then (bif (lim IntKind.i64
 (S.dl (fun (q : Nat) => tp (q + ap)) (fun (q : Nat) => wp (q + ap)) (Int.toNat na) +
 S.dl (fun (q : Nat) => tp (q + ap)) (fun (q : Nat) => wp (q + ap)) (Int.toNat nb) -
 (2 : Int) *
 S.dl (fun (q : Nat) => tp (q + ap)) (fun (q : Nat) => wp (q + ap))
 (S.com (fun (q : Nat) => tp (q + ap)) (Int.toNat na) (Int.toNat nb))))
 then (some (.inr ()))
 else (none))
 else (none))
 else (none))
 else (none))
 else (none))
 else (none))
 else (none) : Option (St48 ⊕ Rt48)) = some x) : Te48 cond Kst Kret ap np mp tp vp gp wp na nb := by
  unfold Te48
  exact bif_split h
   (fun c0 h => bif_split h
   (fun c1 h => bif_split h
   (fun c2 h => bif_split h
   (fun c3 h => bif_split h
   (fun c4 h => bif_split h
   (fun c5 h => bif_split h
   (fun c6 h => ret_at hR _ h (fun n => n) rfl rfl rfl (rn_int rfl) rfl (entl_bor (use_lo rfl) rfl rfl entl_nil))
   (fun c6 h => no_some h))
   (fun c5 h => no_some h))
   (fun c4 h => no_some h))
   (fun c3 h => no_some h))
   (fun c2 h => no_some h))
   (fun c1 h => no_some h))
   (fun c0 h => no_some h)
theorem a48 (ap np mp : Nat) (tp : Nat → Int) (vp : Nat → Int) (gp : Nat → Int) (wp : Nat → Int) (na : Int) (nb : Int) {r : Rt48} (h : Goes ((q48 ap np mp tp vp gp wp na nb)) ((p48 ap np mp tp vp gp wp na nb)) r) : CallR Try.prog 48 [.agg [.loose ⟨0, 4, ap, 0⟩ np], .int .i64 na, .int .i64 nb] [[(0, (false, .cols mp [.int .i64 tp, .int .i64 vp, .int .i64 gp, .int .i64 wp]))]] 1 ((V48 ap np mp tp vp gp wp na nb) r) ((fun r => [newL (1 + 1) ((N48 ap np mp tp vp gp wp na nb) r) ++ [(0, (false, .cols mp [.int .i64 tp, .int .i64 vp, .int .i64 gp, .int .i64 wp]))]]) r) 400 ∧ ∃ F, Try.prog.funcs[48]? = some F ∧ F.body.isSome = true ∧ (F.name == "runtime.NumGoroutine") = false := by
  refine dec_calls (f := 48) (lo := 1) (hi := 400) (H := [[(0, (false, .cols mp [.int .i64 tp, .int .i64 vp, .int .i64 gp, .int .i64 wp]))]]) (args := [.agg [.loose ⟨0, 4, ap, 0⟩ np], .int .i64 na, .int .i64 nb]) Try.envOk Try.mixed xO0_ok ((I48 ap np mp tp vp gp wp na nb)) ((V48 ap np mp tp vp gp wp na nb)) (fun r => [newL (1 + 1) ((N48 ap np mp tp vp gp wp na nb) r) ++ [(0, (false, .cols mp [.int .i64 tp, .int .i64 vp, .int .i64 gp, .int .i64 wp]))]]) (fn := mkFn Try.f48) (ts := []) (n := 400) rfl (by decide) (by simp) (names_of rfl) ?_ ?_ ?_ h
  · intro s; exact s.elim
  · intro Kst Kret x hS hR h
    exact Holds.eq (te48 cond Kst Kret ap np mp tp vp gp wp na nb) (be48 ap np mp tp vp gp wp na nb Kst Kret x hS hR h)
  · intro Kst Kret x hS hR s h; exact s.elim
noncomputable def k48 : Con := ⟨48, [.agg [.list [.int .i64, .int .i64, .int .i64, .int .i64]], .one (.plain (.int .i64)), .one (.plain (.int .i64))], fun (x : ((Nat × Nat × Nat × (Nat → Int) × (Nat → Int) × (Nat → Int) × (Nat → Int) × Unit) × Unit) × Int × Int × Unit) => (fun (ap np mp : Nat) (tp : Nat → Int) (vp : Nat → Int) (gp : Nat → Int) (wp : Nat → Int) (na : Int) (nb : Int) => decide (ap + np ≤ mp ∧ np ≤ 1000000 ∧ S.treE np (fun q => tp (q + ap)) (fun q => vp (q + ap)) (fun q => gp (q + ap)) (fun q => wp (q + ap)) = 0 ∧ (0 ≤ na ∧ na < np) ∧ 0 ≤ nb ∧ nb < np)) x.1.1.1 x.1.1.2.1 x.1.1.2.2.1 x.1.1.2.2.2.1 x.1.1.2.2.2.2.1 x.1.1.2.2.2.2.2.1 x.1.1.2.2.2.2.2.2.1 x.2.1 x.2.2.1, fun (x : ((Nat × Nat × Nat × (Nat → Int) × (Nat → Int) × (Nat → Int) × (Nat → Int) × Unit) × Unit) × Int × Int × Unit) => (fun (ap np mp : Nat) (tp : Nat → Int) (vp : Nat → Int) (gp : Nat → Int) (wp : Nat → Int) (na : Int) (nb : Int) => (V48 ap np mp tp vp gp wp na nb) (())) x.1.1.1 x.1.1.2.1 x.1.1.2.2.1 x.1.1.2.2.2.1 x.1.1.2.2.2.2.1 x.1.1.2.2.2.2.2.1 x.1.1.2.2.2.2.2.2.1 x.2.1 x.2.2.1, fun (x : ((Nat × Nat × Nat × (Nat → Int) × (Nat → Int) × (Nat → Int) × (Nat → Int) × Unit) × Unit) × Int × Int × Unit) => (fun (ap np mp : Nat) (tp : Nat → Int) (vp : Nat → Int) (gp : Nat → Int) (wp : Nat → Int) (na : Int) (nb : Int) => (N48 ap np mp tp vp gp wp na nb) (())) x.1.1.1 x.1.1.2.1 x.1.1.2.2.1 x.1.1.2.2.2.1 x.1.1.2.2.2.2.1 x.1.1.2.2.2.2.2.1 x.1.1.2.2.2.2.2.2.1 x.2.1 x.2.2.1, fun _ _ => .dead⟩
theorem s48 (ap np mp : Nat) (tp : Nat → Int) (vp : Nat → Int) (gp : Nat → Int) (wp : Nat → Int) (na : Int) (nb : Int) (hp : ap + np ≤ mp ∧ np ≤ 1000000 ∧ S.treE np (fun q => tp (q + ap)) (fun q => vp (q + ap)) (fun q => gp (q + ap)) (fun q => wp (q + ap)) = 0 ∧ (0 ≤ na ∧ na < np) ∧ 0 ≤ nb ∧ nb < np) : Goes ((q48 ap np mp tp vp gp wp na nb)) ((p48 ap np mp tp vp gp wp na nb)) (()) := by
  obtain ⟨hp1, hp2, hp3, hp4, hp5⟩ := hp
  obtain ⟨v1, v2, v3, v4, v5, v6⟩ := tre_ok hp3
  have hc := (com_le (p := (fun q => tp (q + ap))) (x := nb.toNat) na.toNat).1
  have d1 := (dl_bd hp3 (x := na.toNat) (by omega)).2
  have d2 := (dl_bd hp3 (x := nb.toNat) (by omega)).2
  have d3 := (dl_bd hp3 (x := S.com (fun q => tp (q + ap)) na.toNat nb.toNat) (by omega)).2
  show Goes _ _ _
  unfold p48
  repeat' first
    | with_reducible refine goes_if (fun h => ?_) (fun h => ?_) <;> (try simp only [lim64, decide_eq_true_eq, decide_eq_false_iff_not, Int.toNat_natCast, toNat_pred, toNat_succ, Option.getD_some, Option.getD_none, Bool.not_eq_true', Bool.not_eq_false', Bool.and_eq_true, Bool.or_eq_true, Bool.and_eq_false_iff, Bool.or_eq_false_iff, bne_iff_ne, beq_iff_eq, bne_eq_false_iff_eq, beq_eq_false_iff_ne, ne_eq, not_and, Int.not_le, Int.not_lt, ge_iff_le, gt_iff_lt, Nat.not_lt, Nat.not_le, Bool.not_eq_true, Bool.not_eq_false, Bool.true_eq_false, Bool.false_eq_true, not_false_eq_true, not_true_eq_false] at h)
    | exact goes_none.mpr (by omega)
  all_goals first | (exfalso; omega) | rfl

theorem k48_ok : k48.ok Try.prog := by
  intro x hx
  obtain ⟨⟨⟨ap, np, mp, tp, vp, gp, wp, _⟩, _⟩, na, nb, _⟩ := x
  obtain ⟨h1, h2⟩ := a48 ap np mp tp vp gp wp na nb (s48 ap np mp tp vp gp wp na nb (of_dec hx rfl))
  exact ⟨⟨400, (by decide : 1 + 1 + 0 ≤ 400), h1⟩, h2⟩
noncomputable def xO (test : Bool → Prop → Prop → Prop) : Ext := consX test [k19, k40, k43, k48, k37]
theorem xO_ok : ExtOk Try.prog (xO cond) := consX_ok ⟨k19_ok, k40_ok, k43_ok, k48_ok, k37_ok, trivial⟩

end Go.Ev
