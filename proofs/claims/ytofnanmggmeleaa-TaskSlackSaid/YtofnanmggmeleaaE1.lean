/-
  Response, Misses and Check on both sides.
-/
import Derived.Test.YtofnanmggmeleaaD3
namespace Go.Ev
open Go.Proofs
set_option linter.unusedVariables false
set_option linter.unusedSimpArgs false
set_option maxRecDepth 100000

namespace S
def ierr (e : Int) (n : Nat) (i : Int) : Int := if e = 0 then (if 0 ≤ i ∧ i < n then 0 else 6) else e
def rspS (e : Int) (n : Nat) (i : Int) (r : Int × Bool) : Int × Int := if e = 0 then (if 0 ≤ i ∧ i < n then (if r.2 = true then (r.1, 0) else (0, 18)) else (0, 6)) else (0, e)
def misS (e m : Int) : Int × Int := if e = 0 then (if m < 0 then (0, 10) else (m, 0)) else (0, e)
def chkS (e : Int) (n : Nat) (i b w dm : Int) : Bool := decide (e = 0 ∧ 0 ≤ i ∧ i < n ∧ 1 ≤ b ∧ b ≤ w ∧ dm ≤ b)
end S
abbrev St42 := Empty
abbrev Rt42 := Int
noncomputable def V42 (al nl ml : Nat) (tl : Nat → ByteArray) (vl : Nat → Int) (gl : Nat → Int) (wl : Nat → Int) (ci : Int) (r : Rt42) : PV := PV.int IntKind.i64 r
noncomputable def N42 (al nl ml : Nat) (tl : Nat → ByteArray) (vl : Nat → Int) (gl : Nat → Int) (wl : Nat → Int) (ci : Int) (r : Rt42) : List Blk := []
noncomputable def I42 (al nl ml : Nat) (tl : Nat → ByteArray) (vl : Nat → Int) (gl : Nat → Int) (wl : Nat → Int) (ci : Int) : St42 → Hd := fun s => s.elim
noncomputable def q42 (al nl ml : Nat) (tl : Nat → ByteArray) (vl : Nat → Int) (gl : Nat → Int) (wl : Nat → Int) (ci : Int) : St42 → Option (St42 ⊕ Rt42) := fun s => s.elim
noncomputable def p42 (al nl ml : Nat) (tl : Nat → ByteArray) (vl : Nat → Int) (gl : Nat → Int) (wl : Nat → Int) (ci : Int) : Option (St42 ⊕ Rt42) := bif (decide (al + nl ≤ ml))
 then (bif ((S.tskS nl (fun (j : Nat) => tl (j + al)) (fun (j : Nat) => vl (j + al)) (fun (j : Nat) => gl (j + al))
 fun (j : Nat) => wl (j + al)) !=
 (0 : Int))
 then (some (.inr (S.tskS nl (fun (j : Nat) => tl (j + al)) (fun (j : Nat) => vl (j + al)) (fun (j : Nat) => gl (j + al))
 fun (j : Nat) => wl (j + al))))
 else (bif (lim IntKind.i64 ((↑nl : Int) - (1 : Int)))
 then (bif (decide (ci ≥ (0 : Int)))
 then (bif (decide (ci ≤ (↑nl : Int) - (1 : Int)))
 then (some (.inr ((0 : Int))))
 else (some (.inr ((6 : Int)))))
 else (some (.inr ((6 : Int)))))
 else (none)))
 else (none)
noncomputable def Te42 (test : Bool → Prop → Prop → Prop) (Kst : KS) (Kret : KR) (al nl ml : Nat) (tl : Nat → ByteArray) (vl : Nat → Int) (gl : Nat → Int) (wl : Nat → Int) (ci : Int) : Prop :=
  test (decide (al + nl ≤ ml))
 (test ((S.tskS nl (fun (j : Nat) => tl (j + al)) (fun (j : Nat) => vl (j + al)) (fun (j : Nat) => gl (j + al))
 fun (j : Nat) => wl (j + al)) !=
 (0 : Int))
 (Kret (PV.int IntKind.i64
 (S.tskS nl (fun (j : Nat) => tl (j + al)) (fun (j : Nat) => vl (j + al)) (fun (j : Nat) => gl (j + al))
 fun (j : Nat) => wl (j + al))) ([[(0, false,
 Blk.cols ml
 [Col.str tl, Col.int IntKind.i64 vl, Col.int IntKind.i64 gl,
 Col.int IntKind.i64 wl])]]) (2))
 (test (lim IntKind.i64 ((↑nl : Int) - (1 : Int)))
 (test (decide (ci ≥ (0 : Int)))
 (test (decide (ci ≤ (↑nl : Int) - (1 : Int)))
 (Kret (PV.int IntKind.i64 (0 : Int)) ([[(0, false,
 Blk.cols ml
 [Col.str tl, Col.int IntKind.i64 vl, Col.int IntKind.i64 gl,
 Col.int IntKind.i64 wl])]]) (2))
 (Kret (PV.int IntKind.i64 (6 : Int)) ([[(0, false,
 Blk.cols ml
 [Col.str tl, Col.int IntKind.i64 vl, Col.int IntKind.i64 gl,
 Col.int IntKind.i64 wl])]]) (2)))
 (Kret (PV.int IntKind.i64 (6 : Int)) ([[(0, false,
 Blk.cols ml
 [Col.str tl, Col.int IntKind.i64 vl, Col.int IntKind.i64 gl,
 Col.int IntKind.i64 wl])]]) (2)))
 (False)))
 (False)
set_option maxRecDepth 100000 in
theorem te42 (test : Bool → Prop → Prop → Prop) (Kst : KS) (Kret : KR) (al nl ml : Nat) (tl : Nat → ByteArray) (vl : Nat → Int) (gl : Nat → Int) (wl : Nat → Int) (ci : Int) : run test Try.env true (xM test) true 400 ⟨42, [.cd (mkFn Try.f42).body], argT 0 [.loose ⟨0, 4, al, 0⟩ nl, .int .i64 ci], [[], [(0, (false, .cols ml [.str tl, .int .i64 vl, .int .i64 gl, .int .i64 wl]))]], 1⟩ (proj 1 [] Kst Kret) =
  Te42 test Kst Kret al nl ml tl vl gl wl ci := by kernel_rfl
attribute [local irreducible] Int.subNatNat in
set_option maxRecDepth 100000 in
theorem be42 (al nl ml : Nat) (tl : Nat → ByteArray) (vl : Nat → Int) (gl : Nat → Int) (wl : Nat → Int) (ci : Int) (Kst : KS) (Kret : KR) (x : St42 ⊕ Rt42) (hS : HS 1 400 ((I42 al nl ml tl vl gl wl ci)) Kst x) (hR : HR 1 400 ((V42 al nl ml tl vl gl wl ci)) (fun r => [newL (1 + 1) ((N42 al nl ml tl vl gl wl ci) r) ++ [(0, (false, .cols ml [.str tl, .int .i64 vl, .int .i64 gl, .int .i64 wl]))]]) Kret x) (h : (bif (decide (al + nl ≤ ml))
 then (bif ((S.tskS nl (fun (j : Nat) => tl (j + al)) (fun (j : Nat) => vl (j + al)) (fun (j : Nat) => gl (j + al))
 fun (j : Nat) => wl (j + al)) !=
 (0 : Int))
 then (some (.inr (S.tskS nl (fun (j : Nat) => tl (j + al)) (fun (j : Nat) => vl (j + al)) (fun (j : Nat) => gl (j + al))
 fun (j : Nat) => wl (j + al))))
 else (bif (lim IntKind.i64 ((↑nl : Int) - (1 : Int)))
 then (bif (decide (ci ≥ (0 : Int)))
 then (bif (decide (ci ≤ (↑nl : Int) - (1 : Int)))
 then (some (.inr ((0 : Int))))
 else (some (.inr ((6 : Int)))))
 else (some (.inr ((6 : Int)))))
 else (none)))
 else (none) : Option (St42 ⊕ Rt42)) = some x) : Te42 cond Kst Kret al nl ml tl vl gl wl ci := by
  unfold Te42
  exact bif_split h
   (fun c0 h => bif_split h
   (fun c1 h => ret_at hR _ h (fun n => n) rfl rfl rfl (rn_int rfl) rfl (entl_bor (use_lo rfl) rfl rfl entl_nil))
   (fun c1 h => bif_split h
   (fun c2 h => bif_split h
   (fun c3 h => bif_split h
   (fun c4 h => ret_at hR _ h (fun n => n) rfl rfl rfl (rn_int rfl) rfl (entl_bor (use_lo rfl) rfl rfl entl_nil))
   (fun c4 h => ret_at hR _ h (fun n => n) rfl rfl rfl (rn_int rfl) rfl (entl_bor (use_lo rfl) rfl rfl entl_nil)))
   (fun c3 h => ret_at hR _ h (fun n => n) rfl rfl rfl (rn_int rfl) rfl (entl_bor (use_lo rfl) rfl rfl entl_nil)))
   (fun c2 h => no_some h)))
   (fun c0 h => no_some h)
theorem a42 (al nl ml : Nat) (tl : Nat → ByteArray) (vl : Nat → Int) (gl : Nat → Int) (wl : Nat → Int) (ci : Int) {r : Rt42} (h : Goes ((q42 al nl ml tl vl gl wl ci)) ((p42 al nl ml tl vl gl wl ci)) r) : CallR Try.prog 42 [.loose ⟨0, 4, al, 0⟩ nl, .int .i64 ci] [[(0, (false, .cols ml [.str tl, .int .i64 vl, .int .i64 gl, .int .i64 wl]))]] 1 ((V42 al nl ml tl vl gl wl ci) r) ((fun r => [newL (1 + 1) ((N42 al nl ml tl vl gl wl ci) r) ++ [(0, (false, .cols ml [.str tl, .int .i64 vl, .int .i64 gl, .int .i64 wl]))]]) r) 400 ∧ ∃ F, Try.prog.funcs[42]? = some F ∧ F.body.isSome = true ∧ (F.name == "runtime.NumGoroutine") = false := by
  refine dec_calls (sy := true) (f := 42) (lo := 1) (hi := 400) (H := [[(0, (false, .cols ml [.str tl, .int .i64 vl, .int .i64 gl, .int .i64 wl]))]]) (args := [.loose ⟨0, 4, al, 0⟩ nl, .int .i64 ci]) Try.envOk Try.mixed xM_ok ((I42 al nl ml tl vl gl wl ci)) ((V42 al nl ml tl vl gl wl ci)) (fun r => [newL (1 + 1) ((N42 al nl ml tl vl gl wl ci) r) ++ [(0, (false, .cols ml [.str tl, .int .i64 vl, .int .i64 gl, .int .i64 wl]))]]) (fn := mkFn Try.f42) (ts := []) (n := 400) rfl (by decide) (by simp) (names_of rfl) ?_ ?_ ?_ h
  · intro s; exact s.elim
  · intro Kst Kret x hS hR h
    exact Holds.eq (te42 cond Kst Kret al nl ml tl vl gl wl ci) (be42 al nl ml tl vl gl wl ci Kst Kret x hS hR h)
  · intro Kst Kret x hS hR s h; exact s.elim
noncomputable def k42 : Con := ⟨42, [.one (.list [.str, .int .i64, .int .i64, .int .i64]), .one (.plain (.int .i64))], fun (x : (Nat × Nat × Nat × (Nat → ByteArray) × (Nat → Int) × (Nat → Int) × (Nat → Int) × Unit) × Int × Unit) => (fun (al nl ml : Nat) (tl : Nat → ByteArray) (vl : Nat → Int) (gl : Nat → Int) (wl : Nat → Int) (ci : Int) => decide (al + nl ≤ ml)) x.1.1 x.1.2.1 x.1.2.2.1 x.1.2.2.2.1 x.1.2.2.2.2.1 x.1.2.2.2.2.2.1 x.1.2.2.2.2.2.2.1 x.2.1, fun (x : (Nat × Nat × Nat × (Nat → ByteArray) × (Nat → Int) × (Nat → Int) × (Nat → Int) × Unit) × Int × Unit) => (fun (al nl ml : Nat) (tl : Nat → ByteArray) (vl : Nat → Int) (gl : Nat → Int) (wl : Nat → Int) (ci : Int) => (V42 al nl ml tl vl gl wl ci) (S.ierr (S.tskS nl (fun j => tl (j + al)) (fun j => vl (j + al)) (fun j => gl (j + al)) (fun j => wl (j + al))) nl ci)) x.1.1 x.1.2.1 x.1.2.2.1 x.1.2.2.2.1 x.1.2.2.2.2.1 x.1.2.2.2.2.2.1 x.1.2.2.2.2.2.2.1 x.2.1, fun (x : (Nat × Nat × Nat × (Nat → ByteArray) × (Nat → Int) × (Nat → Int) × (Nat → Int) × Unit) × Int × Unit) => (fun (al nl ml : Nat) (tl : Nat → ByteArray) (vl : Nat → Int) (gl : Nat → Int) (wl : Nat → Int) (ci : Int) => (N42 al nl ml tl vl gl wl ci) (S.ierr (S.tskS nl (fun j => tl (j + al)) (fun j => vl (j + al)) (fun j => gl (j + al)) (fun j => wl (j + al))) nl ci)) x.1.1 x.1.2.1 x.1.2.2.1 x.1.2.2.2.1 x.1.2.2.2.2.1 x.1.2.2.2.2.2.1 x.1.2.2.2.2.2.2.1 x.2.1, fun _ _ => .dead⟩
theorem s42 (al nl ml : Nat) (tl : Nat → ByteArray) (vl : Nat → Int) (gl : Nat → Int) (wl : Nat → Int) (ci : Int) (hp : al + nl ≤ ml) : Goes ((q42 al nl ml tl vl gl wl ci)) ((p42 al nl ml tl vl gl wl ci)) (S.ierr (S.tskS nl (fun j => tl (j + al)) (fun j => vl (j + al)) (fun j => gl (j + al)) (fun j => wl (j + al))) nl ci) := by
  have hk : S.tskS nl (fun j => tl (j + al)) (fun j => vl (j + al)) (fun j => gl (j + al)) (fun j => wl (j + al)) = 0 → 1 ≤ nl ∧ S.okT nl (fun j => vl (j + al)) (fun j => gl (j + al)) (fun j => wl (j + al)) = true := tskS_ok
  have hd : S.okT nl (fun j => vl (j + al)) (fun j => gl (j + al)) (fun j => wl (j + al)) = true → ∀ j, j < nl → wl (j + al) ≤ 1000000 := fun h j hj => by
    have hh : 1 ≤ vl (j + al) ∧ vl (j + al) ≤ 1000000 ∧ 1 ≤ gl (j + al) ∧ gl (j + al) ≤ vl (j + al) ∧ gl (j + al) ≤ wl (j + al) ∧ wl (j + al) ≤ vl (j + al) := (okT_at h).2 j hj
    omega
  have h8 : S.okT nl (fun j => vl (j + al)) (fun j => gl (j + al)) (fun j => wl (j + al)) = true → nl ≤ 8 := fun h => (okT_at h).1
  unfold p42
  unfold S.ierr
  generalize S.tskS nl (fun j => tl (j + al)) (fun j => vl (j + al)) (fun j => gl (j + al)) (fun j => wl (j + al)) = e at *
  generalize S.okT nl (fun j => vl (j + al)) (fun j => gl (j + al)) (fun j => wl (j + al)) = o at *
  by_cases he : e = 0
  · obtain ⟨hn, ho⟩ := hk he
    have h9 := h8 ho
    have hd2 := hd ho
    clear h8 hd
    subst he
    subst ho
    by_cases hi : 0 ≤ ci ∧ ci < nl
    · have hd3 := hd2 ci.toNat (by omega)
      clear hk
      repeat' first
        | with_reducible refine goes_if (fun h => ?_) (fun h => ?_) <;> (try simp only [lim64, imp_false, decide_eq_true_eq, decide_eq_false_iff_not, Int.toNat_natCast, toNat_pred, toNat_succ, Option.getD_some, Option.getD_none, Bool.not_eq_true', Bool.not_eq_false', Bool.and_eq_true, Bool.or_eq_true, Bool.and_eq_false_iff, Bool.or_eq_false_iff, bne_iff_ne, beq_iff_eq, bne_eq_false_iff_eq, beq_eq_false_iff_ne, ne_eq, not_and, Int.not_le, Int.not_lt, ge_iff_le, gt_iff_lt, Nat.not_lt, Nat.not_le, Bool.not_eq_true, Bool.not_eq_false, Bool.true_eq_false, Bool.false_eq_true, not_false_eq_true, not_true_eq_false, true_and, and_true, and_self] at h)
        | exact goes_none.mpr (by omega)
      all_goals first | (exfalso; omega) | (refine goes_inr.mpr ?_; (repeat' split) <;> first | rfl | (exfalso; omega) | (exact (decide_eq_true (by omega)).symm) | (exact (decide_eq_false (by omega)).symm) | simp_all)
    · clear hd2 hk
      repeat' first
        | with_reducible refine goes_if (fun h => ?_) (fun h => ?_) <;> (try simp only [lim64, imp_false, decide_eq_true_eq, decide_eq_false_iff_not, Int.toNat_natCast, toNat_pred, toNat_succ, Option.getD_some, Option.getD_none, Bool.not_eq_true', Bool.not_eq_false', Bool.and_eq_true, Bool.or_eq_true, Bool.and_eq_false_iff, Bool.or_eq_false_iff, bne_iff_ne, beq_iff_eq, bne_eq_false_iff_eq, beq_eq_false_iff_ne, ne_eq, not_and, Int.not_le, Int.not_lt, ge_iff_le, gt_iff_lt, Nat.not_lt, Nat.not_le, Bool.not_eq_true, Bool.not_eq_false, Bool.true_eq_false, Bool.false_eq_true, not_false_eq_true, not_true_eq_false, true_and, and_true, and_self] at h)
        | exact goes_none.mpr (by omega)
      all_goals first | (exfalso; omega) | (refine goes_inr.mpr ?_; (repeat' split) <;> first | rfl | (exfalso; omega) | (exact (decide_eq_true (by omega)).symm) | (exact (decide_eq_false (by omega)).symm) | simp_all)
  · clear hk hd h8
    repeat' first
      | with_reducible refine goes_if (fun h => ?_) (fun h => ?_) <;> (try simp only [lim64, imp_false, decide_eq_true_eq, decide_eq_false_iff_not, Int.toNat_natCast, toNat_pred, toNat_succ, Option.getD_some, Option.getD_none, Bool.not_eq_true', Bool.not_eq_false', Bool.and_eq_true, Bool.or_eq_true, Bool.and_eq_false_iff, Bool.or_eq_false_iff, bne_iff_ne, beq_iff_eq, bne_eq_false_iff_eq, beq_eq_false_iff_ne, ne_eq, not_and, Int.not_le, Int.not_lt, ge_iff_le, gt_iff_lt, Nat.not_lt, Nat.not_le, Bool.not_eq_true, Bool.not_eq_false, Bool.true_eq_false, Bool.false_eq_true, not_false_eq_true, not_true_eq_false] at h)
      | exact goes_none.mpr (by omega)
    all_goals first | (exfalso; omega) | (refine goes_inr.mpr ?_; (repeat' split) <;> first | rfl | (exfalso; omega) | (exact (decide_eq_true (by omega)).symm) | (exact (decide_eq_false (by omega)).symm) | simp_all)

theorem k42_ok : k42.ok Try.prog := by
  intro x hx
  obtain ⟨⟨al, nl, ml, tl, vl, gl, wl, _⟩, ci, _⟩ := x
  obtain ⟨h1, h2⟩ := a42 al nl ml tl vl gl wl ci (s42 al nl ml tl vl gl wl ci (of_dec hx rfl))
  exact ⟨⟨400, (by decide : 1 + 1 + 0 ≤ 400), h1⟩, h2⟩
abbrev St14 := Empty
abbrev Rt14 := Int × Int
noncomputable def V14 (al nl ml : Nat) (tl : Nat → ByteArray) (vl : Nat → Int) (gl : Nat → Int) (wl : Nat → Int) (ci : Int) (r : Rt14) : PV := PV.tup [PV.int IntKind.i64 r.1, PV.int IntKind.i64 r.2]
noncomputable def N14 (al nl ml : Nat) (tl : Nat → ByteArray) (vl : Nat → Int) (gl : Nat → Int) (wl : Nat → Int) (ci : Int) (r : Rt14) : List Blk := []
noncomputable def I14 (al nl ml : Nat) (tl : Nat → ByteArray) (vl : Nat → Int) (gl : Nat → Int) (wl : Nat → Int) (ci : Int) : St14 → Hd := fun s => s.elim
noncomputable def q14 (al nl ml : Nat) (tl : Nat → ByteArray) (vl : Nat → Int) (gl : Nat → Int) (wl : Nat → Int) (ci : Int) : St14 → Option (St14 ⊕ Rt14) := fun s => s.elim
noncomputable def p14 (al nl ml : Nat) (tl : Nat → ByteArray) (vl : Nat → Int) (gl : Nat → Int) (wl : Nat → Int) (ci : Int) : Option (St14 ⊕ Rt14) := bif (decide (al + nl ≤ ml))
 then (bif ((S.tskS nl (fun (j : Nat) => tl (j + al)) (fun (j : Nat) => vl (j + al)) (fun (j : Nat) => gl (j + al))
 fun (j : Nat) => wl (j + al)) !=
 (0 : Int))
 then (some (.inr ((0 : Int), S.tskS nl (fun (j : Nat) => tl (j + al)) (fun (j : Nat) => vl (j + al)) (fun (j : Nat) => gl (j + al))
 fun (j : Nat) => wl (j + al))))
 else (bif (lim IntKind.i64 ((↑nl : Int) - (1 : Int)))
 then (bif (decide (ci ≥ (0 : Int)))
 then (bif (decide (ci ≤ (↑nl : Int) - (1 : Int)))
 then (bif (decide
 (al + nl ≤ ml ∧
 ((0 : Int) ≤ ci ∧ ci < (↑nl : Int)) ∧
 (S.okT nl (fun (j : Nat) => vl (j + al)) (fun (j : Nat) => gl (j + al)) fun (j : Nat) => wl (j + al)) =
 true))
 then (bif (Prod.snd
 (S.resT (fun (j : Nat) => vl (j + al)) (fun (j : Nat) => gl (j + al)) (fun (j : Nat) => wl (j + al))
 (Int.toNat ci)))
 then (some (.inr (Prod.fst
 (S.resT (fun (j : Nat) => vl (j + al)) (fun (j : Nat) => gl (j + al)) (fun (j : Nat) => wl (j + al))
 (Int.toNat ci)), (0 : Int))))
 else (some (.inr ((0 : Int), (18 : Int)))))
 else (none))
 else (some (.inr ((0 : Int), (6 : Int)))))
 else (some (.inr ((0 : Int), (6 : Int)))))
 else (none)))
 else (none)
noncomputable def Te14 (test : Bool → Prop → Prop → Prop) (Kst : KS) (Kret : KR) (al nl ml : Nat) (tl : Nat → ByteArray) (vl : Nat → Int) (gl : Nat → Int) (wl : Nat → Int) (ci : Int) : Prop :=
  test (decide (al + nl ≤ ml))
 (test ((S.tskS nl (fun (j : Nat) => tl (j + al)) (fun (j : Nat) => vl (j + al)) (fun (j : Nat) => gl (j + al))
 fun (j : Nat) => wl (j + al)) !=
 (0 : Int))
 (test ((S.tskS nl (fun (j : Nat) => tl (j + al)) (fun (j : Nat) => vl (j + al)) (fun (j : Nat) => gl (j + al))
 fun (j : Nat) => wl (j + al)) !=
 (0 : Int))
 (Kret (PV.tup
 [PV.int IntKind.i64 (0 : Int),
 PV.int IntKind.i64
 (S.tskS nl (fun (j : Nat) => tl (j + al)) (fun (j : Nat) => vl (j + al)) (fun (j : Nat) => gl (j + al))
 fun (j : Nat) => wl (j + al))]) ([[(0, false,
 Blk.cols ml
 [Col.str tl, Col.int IntKind.i64 vl, Col.int IntKind.i64 gl,
 Col.int IntKind.i64 wl])]]) (2))
 (test (decide
 (al + nl ≤ ml ∧
 ((0 : Int) ≤ ci ∧ ci < (↑nl : Int)) ∧
 (S.okT nl (fun (j : Nat) => vl (j + al)) (fun (j : Nat) => gl (j + al)) fun (j : Nat) => wl (j + al)) =
 true))
 (test (Prod.snd
 (S.resT (fun (j : Nat) => vl (j + al)) (fun (j : Nat) => gl (j + al)) (fun (j : Nat) => wl (j + al))
 (Int.toNat ci)))
 (Kret (PV.tup
 [PV.int IntKind.i64
 (Prod.fst
 (S.resT (fun (j : Nat) => vl (j + al)) (fun (j : Nat) => gl (j + al)) (fun (j : Nat) => wl (j + al))
 (Int.toNat ci))),
 PV.int IntKind.i64 (0 : Int)]) ([[(0, false,
 Blk.cols ml
 [Col.str tl, Col.int IntKind.i64 vl, Col.int IntKind.i64 gl,
 Col.int IntKind.i64 wl])]]) (3))
 (Kret (PV.tup [PV.int IntKind.i64 (0 : Int), PV.int IntKind.i64 (18 : Int)]) ([[(0, false,
 Blk.cols ml
 [Col.str tl, Col.int IntKind.i64 vl, Col.int IntKind.i64 gl,
 Col.int IntKind.i64 wl])]]) (3)))
 (False)))
 (test (lim IntKind.i64 ((↑nl : Int) - (1 : Int)))
 (test (decide (ci ≥ (0 : Int)))
 (test (decide (ci ≤ (↑nl : Int) - (1 : Int)))
 (test (false)
 (Kret (PV.tup [PV.int IntKind.i64 (0 : Int), PV.int IntKind.i64 (0 : Int)]) ([[(0, false,
 Blk.cols ml
 [Col.str tl, Col.int IntKind.i64 vl, Col.int IntKind.i64 gl,
 Col.int IntKind.i64 wl])]]) (2))
 (test (decide
 (al + nl ≤ ml ∧
 ((0 : Int) ≤ ci ∧ ci < (↑nl : Int)) ∧
 (S.okT nl (fun (j : Nat) => vl (j + al)) (fun (j : Nat) => gl (j + al)) fun (j : Nat) => wl (j + al)) =
 true))
 (test (Prod.snd
 (S.resT (fun (j : Nat) => vl (j + al)) (fun (j : Nat) => gl (j + al)) (fun (j : Nat) => wl (j + al))
 (Int.toNat ci)))
 (Kret (PV.tup
 [PV.int IntKind.i64
 (Prod.fst
 (S.resT (fun (j : Nat) => vl (j + al)) (fun (j : Nat) => gl (j + al)) (fun (j : Nat) => wl (j + al))
 (Int.toNat ci))),
 PV.int IntKind.i64 (0 : Int)]) ([[(0, false,
 Blk.cols ml
 [Col.str tl, Col.int IntKind.i64 vl, Col.int IntKind.i64 gl,
 Col.int IntKind.i64 wl])]]) (3))
 (Kret (PV.tup [PV.int IntKind.i64 (0 : Int), PV.int IntKind.i64 (18 : Int)]) ([[(0, false,
 Blk.cols ml
 [Col.str tl, Col.int IntKind.i64 vl, Col.int IntKind.i64 gl,
 Col.int IntKind.i64 wl])]]) (3)))
 (False)))
 (test (true)
 (Kret (PV.tup [PV.int IntKind.i64 (0 : Int), PV.int IntKind.i64 (6 : Int)]) ([[(0, false,
 Blk.cols ml
 [Col.str tl, Col.int IntKind.i64 vl, Col.int IntKind.i64 gl,
 Col.int IntKind.i64 wl])]]) (2))
 (test (decide
 (al + nl ≤ ml ∧
 ((0 : Int) ≤ ci ∧ ci < (↑nl : Int)) ∧
 (S.okT nl (fun (j : Nat) => vl (j + al)) (fun (j : Nat) => gl (j + al)) fun (j : Nat) => wl (j + al)) =
 true))
 (test (Prod.snd
 (S.resT (fun (j : Nat) => vl (j + al)) (fun (j : Nat) => gl (j + al)) (fun (j : Nat) => wl (j + al))
 (Int.toNat ci)))
 (Kret (PV.tup
 [PV.int IntKind.i64
 (Prod.fst
 (S.resT (fun (j : Nat) => vl (j + al)) (fun (j : Nat) => gl (j + al)) (fun (j : Nat) => wl (j + al))
 (Int.toNat ci))),
 PV.int IntKind.i64 (0 : Int)]) ([[(0, false,
 Blk.cols ml
 [Col.str tl, Col.int IntKind.i64 vl, Col.int IntKind.i64 gl,
 Col.int IntKind.i64 wl])]]) (3))
 (Kret (PV.tup [PV.int IntKind.i64 (0 : Int), PV.int IntKind.i64 (18 : Int)]) ([[(0, false,
 Blk.cols ml
 [Col.str tl, Col.int IntKind.i64 vl, Col.int IntKind.i64 gl,
 Col.int IntKind.i64 wl])]]) (3)))
 (False))))
 (test (true)
 (Kret (PV.tup [PV.int IntKind.i64 (0 : Int), PV.int IntKind.i64 (6 : Int)]) ([[(0, false,
 Blk.cols ml
 [Col.str tl, Col.int IntKind.i64 vl, Col.int IntKind.i64 gl,
 Col.int IntKind.i64 wl])]]) (2))
 (test (decide
 (al + nl ≤ ml ∧
 ((0 : Int) ≤ ci ∧ ci < (↑nl : Int)) ∧
 (S.okT nl (fun (j : Nat) => vl (j + al)) (fun (j : Nat) => gl (j + al)) fun (j : Nat) => wl (j + al)) =
 true))
 (test (Prod.snd
 (S.resT (fun (j : Nat) => vl (j + al)) (fun (j : Nat) => gl (j + al)) (fun (j : Nat) => wl (j + al))
 (Int.toNat ci)))
 (Kret (PV.tup
 [PV.int IntKind.i64
 (Prod.fst
 (S.resT (fun (j : Nat) => vl (j + al)) (fun (j : Nat) => gl (j + al)) (fun (j : Nat) => wl (j + al))
 (Int.toNat ci))),
 PV.int IntKind.i64 (0 : Int)]) ([[(0, false,
 Blk.cols ml
 [Col.str tl, Col.int IntKind.i64 vl, Col.int IntKind.i64 gl,
 Col.int IntKind.i64 wl])]]) (3))
 (Kret (PV.tup [PV.int IntKind.i64 (0 : Int), PV.int IntKind.i64 (18 : Int)]) ([[(0, false,
 Blk.cols ml
 [Col.str tl, Col.int IntKind.i64 vl, Col.int IntKind.i64 gl,
 Col.int IntKind.i64 wl])]]) (3)))
 (False))))
 (False)))
 (False)
set_option maxRecDepth 100000 in
theorem te14 (test : Bool → Prop → Prop → Prop) (Kst : KS) (Kret : KR) (al nl ml : Nat) (tl : Nat → ByteArray) (vl : Nat → Int) (gl : Nat → Int) (wl : Nat → Int) (ci : Int) : run test Try.env true (xM test) true 400 ⟨14, [.cd (mkFn Try.f14).body], argT 0 [.loose ⟨0, 4, al, 0⟩ nl, .int .i64 ci], [[], [(0, (false, .cols ml [.str tl, .int .i64 vl, .int .i64 gl, .int .i64 wl]))]], 1⟩ (proj 1 [] Kst Kret) =
  Te14 test Kst Kret al nl ml tl vl gl wl ci := by kernel_rfl
attribute [local irreducible] Int.subNatNat in
set_option maxRecDepth 100000 in
theorem be14 (al nl ml : Nat) (tl : Nat → ByteArray) (vl : Nat → Int) (gl : Nat → Int) (wl : Nat → Int) (ci : Int) (Kst : KS) (Kret : KR) (x : St14 ⊕ Rt14) (hS : HS 1 400 ((I14 al nl ml tl vl gl wl ci)) Kst x) (hR : HR 1 400 ((V14 al nl ml tl vl gl wl ci)) (fun r => [newL (1 + 1) ((N14 al nl ml tl vl gl wl ci) r) ++ [(0, (false, .cols ml [.str tl, .int .i64 vl, .int .i64 gl, .int .i64 wl]))]]) Kret x) (h : (bif (decide (al + nl ≤ ml))
 then (bif ((S.tskS nl (fun (j : Nat) => tl (j + al)) (fun (j : Nat) => vl (j + al)) (fun (j : Nat) => gl (j + al))
 fun (j : Nat) => wl (j + al)) !=
 (0 : Int))
 then (some (.inr ((0 : Int), S.tskS nl (fun (j : Nat) => tl (j + al)) (fun (j : Nat) => vl (j + al)) (fun (j : Nat) => gl (j + al))
 fun (j : Nat) => wl (j + al))))
 else (bif (lim IntKind.i64 ((↑nl : Int) - (1 : Int)))
 then (bif (decide (ci ≥ (0 : Int)))
 then (bif (decide (ci ≤ (↑nl : Int) - (1 : Int)))
 then (bif (decide
 (al + nl ≤ ml ∧
 ((0 : Int) ≤ ci ∧ ci < (↑nl : Int)) ∧
 (S.okT nl (fun (j : Nat) => vl (j + al)) (fun (j : Nat) => gl (j + al)) fun (j : Nat) => wl (j + al)) =
 true))
 then (bif (Prod.snd
 (S.resT (fun (j : Nat) => vl (j + al)) (fun (j : Nat) => gl (j + al)) (fun (j : Nat) => wl (j + al))
 (Int.toNat ci)))
 then (some (.inr (Prod.fst
 (S.resT (fun (j : Nat) => vl (j + al)) (fun (j : Nat) => gl (j + al)) (fun (j : Nat) => wl (j + al))
 (Int.toNat ci)), (0 : Int))))
 else (some (.inr ((0 : Int), (18 : Int)))))
 else (none))
 else (some (.inr ((0 : Int), (6 : Int)))))
 else (some (.inr ((0 : Int), (6 : Int)))))
 else (none)))
 else (none) : Option (St14 ⊕ Rt14)) = some x) : Te14 cond Kst Kret al nl ml tl vl gl wl ci := by
  unfold Te14
  exact bif_split h
   (fun c0 h => bif_split h
   (fun c1 h => cond_yes c1 (ret_at hR _ h (fun n => n) rfl rfl rfl (rn_tup ⟨(rn_int rfl), (rn_int rfl), trivial⟩) rfl (entl_bor (use_lo rfl) rfl rfl entl_nil)))
   (fun c1 h => bif_split h
   (fun c2 h => bif_split h
   (fun c3 h => bif_split h
   (fun c4 h => cond_no rfl (bif_split h
   (fun c5 h => bif_split h
   (fun c6 h => ret_at hR _ h (fun n => n) rfl rfl rfl (rn_tup ⟨(rn_int rfl), (rn_int rfl), trivial⟩) rfl (entl_bor (use_lo rfl) rfl rfl entl_nil))
   (fun c6 h => ret_at hR _ h (fun n => n) rfl rfl rfl (rn_tup ⟨(rn_int rfl), (rn_int rfl), trivial⟩) rfl (entl_bor (use_lo rfl) rfl rfl entl_nil)))
   (fun c5 h => no_some h)))
   (fun c4 h => cond_yes rfl (ret_at hR _ h (fun n => n) rfl rfl rfl (rn_tup ⟨(rn_int rfl), (rn_int rfl), trivial⟩) rfl (entl_bor (use_lo rfl) rfl rfl entl_nil))))
   (fun c3 h => cond_yes rfl (ret_at hR _ h (fun n => n) rfl rfl rfl (rn_tup ⟨(rn_int rfl), (rn_int rfl), trivial⟩) rfl (entl_bor (use_lo rfl) rfl rfl entl_nil))))
   (fun c2 h => no_some h)))
   (fun c0 h => no_some h)
theorem a14 (al nl ml : Nat) (tl : Nat → ByteArray) (vl : Nat → Int) (gl : Nat → Int) (wl : Nat → Int) (ci : Int) {r : Rt14} (h : Goes ((q14 al nl ml tl vl gl wl ci)) ((p14 al nl ml tl vl gl wl ci)) r) : CallR Try.prog 14 [.loose ⟨0, 4, al, 0⟩ nl, .int .i64 ci] [[(0, (false, .cols ml [.str tl, .int .i64 vl, .int .i64 gl, .int .i64 wl]))]] 1 ((V14 al nl ml tl vl gl wl ci) r) ((fun r => [newL (1 + 1) ((N14 al nl ml tl vl gl wl ci) r) ++ [(0, (false, .cols ml [.str tl, .int .i64 vl, .int .i64 gl, .int .i64 wl]))]]) r) 400 ∧ ∃ F, Try.prog.funcs[14]? = some F ∧ F.body.isSome = true ∧ (F.name == "runtime.NumGoroutine") = false := by
  refine dec_calls (sy := true) (f := 14) (lo := 1) (hi := 400) (H := [[(0, (false, .cols ml [.str tl, .int .i64 vl, .int .i64 gl, .int .i64 wl]))]]) (args := [.loose ⟨0, 4, al, 0⟩ nl, .int .i64 ci]) Try.envOk Try.mixed xM_ok ((I14 al nl ml tl vl gl wl ci)) ((V14 al nl ml tl vl gl wl ci)) (fun r => [newL (1 + 1) ((N14 al nl ml tl vl gl wl ci) r) ++ [(0, (false, .cols ml [.str tl, .int .i64 vl, .int .i64 gl, .int .i64 wl]))]]) (fn := mkFn Try.f14) (ts := []) (n := 400) rfl (by decide) (by simp) (names_of rfl) ?_ ?_ ?_ h
  · intro s; exact s.elim
  · intro Kst Kret x hS hR h
    exact Holds.eq (te14 cond Kst Kret al nl ml tl vl gl wl ci) (be14 al nl ml tl vl gl wl ci Kst Kret x hS hR h)
  · intro Kst Kret x hS hR s h; exact s.elim
noncomputable def k14 : Con := ⟨14, [.one (.list [.str, .int .i64, .int .i64, .int .i64]), .one (.plain (.int .i64))], fun (x : (Nat × Nat × Nat × (Nat → ByteArray) × (Nat → Int) × (Nat → Int) × (Nat → Int) × Unit) × Int × Unit) => (fun (al nl ml : Nat) (tl : Nat → ByteArray) (vl : Nat → Int) (gl : Nat → Int) (wl : Nat → Int) (ci : Int) => decide (al + nl ≤ ml)) x.1.1 x.1.2.1 x.1.2.2.1 x.1.2.2.2.1 x.1.2.2.2.2.1 x.1.2.2.2.2.2.1 x.1.2.2.2.2.2.2.1 x.2.1, fun (x : (Nat × Nat × Nat × (Nat → ByteArray) × (Nat → Int) × (Nat → Int) × (Nat → Int) × Unit) × Int × Unit) => (fun (al nl ml : Nat) (tl : Nat → ByteArray) (vl : Nat → Int) (gl : Nat → Int) (wl : Nat → Int) (ci : Int) => (V14 al nl ml tl vl gl wl ci) (S.rspS (S.tskS nl (fun j => tl (j + al)) (fun j => vl (j + al)) (fun j => gl (j + al)) (fun j => wl (j + al))) nl ci (S.resT (fun j => vl (j + al)) (fun j => gl (j + al)) (fun j => wl (j + al)) ci.toNat))) x.1.1 x.1.2.1 x.1.2.2.1 x.1.2.2.2.1 x.1.2.2.2.2.1 x.1.2.2.2.2.2.1 x.1.2.2.2.2.2.2.1 x.2.1, fun (x : (Nat × Nat × Nat × (Nat → ByteArray) × (Nat → Int) × (Nat → Int) × (Nat → Int) × Unit) × Int × Unit) => (fun (al nl ml : Nat) (tl : Nat → ByteArray) (vl : Nat → Int) (gl : Nat → Int) (wl : Nat → Int) (ci : Int) => (N14 al nl ml tl vl gl wl ci) (S.rspS (S.tskS nl (fun j => tl (j + al)) (fun j => vl (j + al)) (fun j => gl (j + al)) (fun j => wl (j + al))) nl ci (S.resT (fun j => vl (j + al)) (fun j => gl (j + al)) (fun j => wl (j + al)) ci.toNat))) x.1.1 x.1.2.1 x.1.2.2.1 x.1.2.2.2.1 x.1.2.2.2.2.1 x.1.2.2.2.2.2.1 x.1.2.2.2.2.2.2.1 x.2.1, fun _ _ => .dead⟩
theorem s14 (al nl ml : Nat) (tl : Nat → ByteArray) (vl : Nat → Int) (gl : Nat → Int) (wl : Nat → Int) (ci : Int) (hp : al + nl ≤ ml) : Goes ((q14 al nl ml tl vl gl wl ci)) ((p14 al nl ml tl vl gl wl ci)) (S.rspS (S.tskS nl (fun j => tl (j + al)) (fun j => vl (j + al)) (fun j => gl (j + al)) (fun j => wl (j + al))) nl ci (S.resT (fun j => vl (j + al)) (fun j => gl (j + al)) (fun j => wl (j + al)) ci.toNat)) := by
  have hk : S.tskS nl (fun j => tl (j + al)) (fun j => vl (j + al)) (fun j => gl (j + al)) (fun j => wl (j + al)) = 0 → 1 ≤ nl ∧ S.okT nl (fun j => vl (j + al)) (fun j => gl (j + al)) (fun j => wl (j + al)) = true := tskS_ok
  have hd : S.okT nl (fun j => vl (j + al)) (fun j => gl (j + al)) (fun j => wl (j + al)) = true → ∀ j, j < nl → wl (j + al) ≤ 1000000 := fun h j hj => by
    have hh : 1 ≤ vl (j + al) ∧ vl (j + al) ≤ 1000000 ∧ 1 ≤ gl (j + al) ∧ gl (j + al) ≤ vl (j + al) ∧ gl (j + al) ≤ wl (j + al) ∧ wl (j + al) ≤ vl (j + al) := (okT_at h).2 j hj
    omega
  have h8 : S.okT nl (fun j => vl (j + al)) (fun j => gl (j + al)) (fun j => wl (j + al)) = true → nl ≤ 8 := fun h => (okT_at h).1
  unfold p14
  unfold S.rspS
  generalize S.tskS nl (fun j => tl (j + al)) (fun j => vl (j + al)) (fun j => gl (j + al)) (fun j => wl (j + al)) = e at *
  generalize S.okT nl (fun j => vl (j + al)) (fun j => gl (j + al)) (fun j => wl (j + al)) = o at *
  generalize S.resT (fun j => vl (j + al)) (fun j => gl (j + al)) (fun j => wl (j + al)) ci.toNat = r at *
  by_cases he : e = 0
  · obtain ⟨hn, ho⟩ := hk he
    have h9 := h8 ho
    have hd2 := hd ho
    clear h8 hd
    subst he
    subst ho
    by_cases hi : 0 ≤ ci ∧ ci < nl
    · have hd3 := hd2 ci.toNat (by omega)
      clear hk
      repeat' first
        | with_reducible refine goes_if (fun h => ?_) (fun h => ?_) <;> (try simp only [lim64, imp_false, decide_eq_true_eq, decide_eq_false_iff_not, Int.toNat_natCast, toNat_pred, toNat_succ, Option.getD_some, Option.getD_none, Bool.not_eq_true', Bool.not_eq_false', Bool.and_eq_true, Bool.or_eq_true, Bool.and_eq_false_iff, Bool.or_eq_false_iff, bne_iff_ne, beq_iff_eq, bne_eq_false_iff_eq, beq_eq_false_iff_ne, ne_eq, not_and, Int.not_le, Int.not_lt, ge_iff_le, gt_iff_lt, Nat.not_lt, Nat.not_le, Bool.not_eq_true, Bool.not_eq_false, Bool.true_eq_false, Bool.false_eq_true, not_false_eq_true, not_true_eq_false, true_and, and_true, and_self] at h)
        | exact goes_none.mpr (by omega)
      all_goals first | (exfalso; omega) | (refine goes_inr.mpr ?_; (repeat' split) <;> first | rfl | (exfalso; omega) | (exact (decide_eq_true (by omega)).symm) | (exact (decide_eq_false (by omega)).symm) | simp_all)
    · clear hd2 hk
      repeat' first
        | with_reducible refine goes_if (fun h => ?_) (fun h => ?_) <;> (try simp only [lim64, imp_false, decide_eq_true_eq, decide_eq_false_iff_not, Int.toNat_natCast, toNat_pred, toNat_succ, Option.getD_some, Option.getD_none, Bool.not_eq_true', Bool.not_eq_false', Bool.and_eq_true, Bool.or_eq_true, Bool.and_eq_false_iff, Bool.or_eq_false_iff, bne_iff_ne, beq_iff_eq, bne_eq_false_iff_eq, beq_eq_false_iff_ne, ne_eq, not_and, Int.not_le, Int.not_lt, ge_iff_le, gt_iff_lt, Nat.not_lt, Nat.not_le, Bool.not_eq_true, Bool.not_eq_false, Bool.true_eq_false, Bool.false_eq_true, not_false_eq_true, not_true_eq_false, true_and, and_true, and_self] at h)
        | exact goes_none.mpr (by omega)
      all_goals first | (exfalso; omega) | (refine goes_inr.mpr ?_; (repeat' split) <;> first | rfl | (exfalso; omega) | (exact (decide_eq_true (by omega)).symm) | (exact (decide_eq_false (by omega)).symm) | simp_all)
  · clear hk hd h8
    repeat' first
      | with_reducible refine goes_if (fun h => ?_) (fun h => ?_) <;> (try simp only [lim64, imp_false, decide_eq_true_eq, decide_eq_false_iff_not, Int.toNat_natCast, toNat_pred, toNat_succ, Option.getD_some, Option.getD_none, Bool.not_eq_true', Bool.not_eq_false', Bool.and_eq_true, Bool.or_eq_true, Bool.and_eq_false_iff, Bool.or_eq_false_iff, bne_iff_ne, beq_iff_eq, bne_eq_false_iff_eq, beq_eq_false_iff_ne, ne_eq, not_and, Int.not_le, Int.not_lt, ge_iff_le, gt_iff_lt, Nat.not_lt, Nat.not_le, Bool.not_eq_true, Bool.not_eq_false, Bool.true_eq_false, Bool.false_eq_true, not_false_eq_true, not_true_eq_false] at h)
      | exact goes_none.mpr (by omega)
    all_goals first | (exfalso; omega) | (refine goes_inr.mpr ?_; (repeat' split) <;> first | rfl | (exfalso; omega) | (exact (decide_eq_true (by omega)).symm) | (exact (decide_eq_false (by omega)).symm) | simp_all)

theorem k14_ok : k14.ok Try.prog := by
  intro x hx
  obtain ⟨⟨al, nl, ml, tl, vl, gl, wl, _⟩, ci, _⟩ := x
  obtain ⟨h1, h2⟩ := a14 al nl ml tl vl gl wl ci (s14 al nl ml tl vl gl wl ci (of_dec hx rfl))
  exact ⟨⟨400, (by decide : 1 + 1 + 0 ≤ 400), h1⟩, h2⟩
abbrev St16 := Empty
abbrev Rt16 := Int × Int
noncomputable def V16 (al nl ml : Nat) (tl : Nat → ByteArray) (vl : Nat → Int) (gl : Nat → Int) (wl : Nat → Int) (ci : Int) (r : Rt16) : PV := PV.tup [PV.int IntKind.i64 r.1, PV.int IntKind.i64 r.2]
noncomputable def N16 (al nl ml : Nat) (tl : Nat → ByteArray) (vl : Nat → Int) (gl : Nat → Int) (wl : Nat → Int) (ci : Int) (r : Rt16) : List Blk := []
noncomputable def I16 (al nl ml : Nat) (tl : Nat → ByteArray) (vl : Nat → Int) (gl : Nat → Int) (wl : Nat → Int) (ci : Int) : St16 → Hd := fun s => s.elim
noncomputable def q16 (al nl ml : Nat) (tl : Nat → ByteArray) (vl : Nat → Int) (gl : Nat → Int) (wl : Nat → Int) (ci : Int) : St16 → Option (St16 ⊕ Rt16) := fun s => s.elim
noncomputable def p16 (al nl ml : Nat) (tl : Nat → ByteArray) (vl : Nat → Int) (gl : Nat → Int) (wl : Nat → Int) (ci : Int) : Option (St16 ⊕ Rt16) := bif (decide (al + nl ≤ ml))
 then (bif ((S.tskS nl (fun (j : Nat) => tl (j + al)) (fun (j : Nat) => vl (j + al)) (fun (j : Nat) => gl (j + al))
 fun (j : Nat) => wl (j + al)) !=
 (0 : Int))
 then (some (.inr ((0 : Int), S.tskS nl (fun (j : Nat) => tl (j + al)) (fun (j : Nat) => vl (j + al)) (fun (j : Nat) => gl (j + al))
 fun (j : Nat) => wl (j + al))))
 else (bif (decide (ci < (0 : Int)))
 then (some (.inr ((0 : Int), (6 : Int))))
 else (bif (decide (ci ≥ (↑nl : Int)))
 then (some (.inr ((0 : Int), (6 : Int))))
 else (bif (decide
 (al + nl ≤ ml ∧
 ((0 : Int) ≤ ci ∧ ci < (↑nl : Int)) ∧
 (S.okT nl (fun (j : Nat) => vl (j + al)) (fun (j : Nat) => gl (j + al)) fun (j : Nat) => wl (j + al)) =
 true))
 then (bif (Prod.snd
 (S.resT (fun (j : Nat) => vl (j + al)) (fun (j : Nat) => gl (j + al)) (fun (j : Nat) => wl (j + al))
 (Int.toNat ci)))
 then (some (.inr (Prod.fst
 (S.resT (fun (j : Nat) => vl (j + al)) (fun (j : Nat) => gl (j + al)) (fun (j : Nat) => wl (j + al))
 (Int.toNat ci)), (0 : Int))))
 else (some (.inr ((0 : Int), (18 : Int)))))
 else (none)))))
 else (none)
noncomputable def Te16 (test : Bool → Prop → Prop → Prop) (Kst : KS) (Kret : KR) (al nl ml : Nat) (tl : Nat → ByteArray) (vl : Nat → Int) (gl : Nat → Int) (wl : Nat → Int) (ci : Int) : Prop :=
  test (decide (al + nl ≤ ml))
 (test ((S.tskS nl (fun (j : Nat) => tl (j + al)) (fun (j : Nat) => vl (j + al)) (fun (j : Nat) => gl (j + al))
 fun (j : Nat) => wl (j + al)) !=
 (0 : Int))
 (Kret (PV.tup
 [PV.int IntKind.i64 (0 : Int),
 PV.int IntKind.i64
 (S.tskS nl (fun (j : Nat) => tl (j + al)) (fun (j : Nat) => vl (j + al)) (fun (j : Nat) => gl (j + al))
 fun (j : Nat) => wl (j + al))]) ([[(0, false,
 Blk.cols ml
 [Col.str tl, Col.int IntKind.i64 vl, Col.int IntKind.i64 gl,
 Col.int IntKind.i64 wl])]]) (2))
 (test (decide (ci < (0 : Int)))
 (Kret (PV.tup [PV.int IntKind.i64 (0 : Int), PV.int IntKind.i64 (6 : Int)]) ([[(0, false,
 Blk.cols ml
 [Col.str tl, Col.int IntKind.i64 vl, Col.int IntKind.i64 gl,
 Col.int IntKind.i64 wl])]]) (2))
 (test (decide (ci ≥ (↑nl : Int)))
 (Kret (PV.tup [PV.int IntKind.i64 (0 : Int), PV.int IntKind.i64 (6 : Int)]) ([[(0, false,
 Blk.cols ml
 [Col.str tl, Col.int IntKind.i64 vl, Col.int IntKind.i64 gl,
 Col.int IntKind.i64 wl])]]) (2))
 (test (decide
 (al + nl ≤ ml ∧
 ((0 : Int) ≤ ci ∧ ci < (↑nl : Int)) ∧
 (S.okT nl (fun (j : Nat) => vl (j + al)) (fun (j : Nat) => gl (j + al)) fun (j : Nat) => wl (j + al)) =
 true))
 (test (Prod.snd
 (S.resT (fun (j : Nat) => vl (j + al)) (fun (j : Nat) => gl (j + al)) (fun (j : Nat) => wl (j + al))
 (Int.toNat ci)))
 (Kret (PV.tup
 [PV.int IntKind.i64
 (Prod.fst
 (S.resT (fun (j : Nat) => vl (j + al)) (fun (j : Nat) => gl (j + al)) (fun (j : Nat) => wl (j + al))
 (Int.toNat ci))),
 PV.int IntKind.i64 (0 : Int)]) ([[(0, false,
 Blk.cols ml
 [Col.str tl, Col.int IntKind.i64 vl, Col.int IntKind.i64 gl,
 Col.int IntKind.i64 wl])]]) (3))
 (Kret (PV.tup [PV.int IntKind.i64 (0 : Int), PV.int IntKind.i64 (18 : Int)]) ([[(0, false,
 Blk.cols ml
 [Col.str tl, Col.int IntKind.i64 vl, Col.int IntKind.i64 gl,
 Col.int IntKind.i64 wl])]]) (3)))
 (False)))))
 (False)
set_option maxRecDepth 100000 in
theorem te16 (test : Bool → Prop → Prop → Prop) (Kst : KS) (Kret : KR) (al nl ml : Nat) (tl : Nat → ByteArray) (vl : Nat → Int) (gl : Nat → Int) (wl : Nat → Int) (ci : Int) : run test Try.env true (xM test) true 400 ⟨16, [.cd (mkFn Try.f16).body], argT 0 [.loose ⟨0, 4, al, 0⟩ nl, .int .i64 ci], [[], [(0, (false, .cols ml [.str tl, .int .i64 vl, .int .i64 gl, .int .i64 wl]))]], 1⟩ (proj 1 [] Kst Kret) =
  Te16 test Kst Kret al nl ml tl vl gl wl ci := by kernel_rfl
attribute [local irreducible] Int.subNatNat in
set_option maxRecDepth 100000 in
theorem be16 (al nl ml : Nat) (tl : Nat → ByteArray) (vl : Nat → Int) (gl : Nat → Int) (wl : Nat → Int) (ci : Int) (Kst : KS) (Kret : KR) (x : St16 ⊕ Rt16) (hS : HS 1 400 ((I16 al nl ml tl vl gl wl ci)) Kst x) (hR : HR 1 400 ((V16 al nl ml tl vl gl wl ci)) (fun r => [newL (1 + 1) ((N16 al nl ml tl vl gl wl ci) r) ++ [(0, (false, .cols ml [.str tl, .int .i64 vl, .int .i64 gl, .int .i64 wl]))]]) Kret x) (h : (bif (decide (al + nl ≤ ml))
 then (bif ((S.tskS nl (fun (j : Nat) => tl (j + al)) (fun (j : Nat) => vl (j + al)) (fun (j : Nat) => gl (j + al))
 fun (j : Nat) => wl (j + al)) !=
 (0 : Int))
 then (some (.inr ((0 : Int), S.tskS nl (fun (j : Nat) => tl (j + al)) (fun (j : Nat) => vl (j + al)) (fun (j : Nat) => gl (j + al))
 fun (j : Nat) => wl (j + al))))
 else (bif (decide (ci < (0 : Int)))
 then (some (.inr ((0 : Int), (6 : Int))))
 else (bif (decide (ci ≥ (↑nl : Int)))
 then (some (.inr ((0 : Int), (6 : Int))))
 else (bif (decide
 (al + nl ≤ ml ∧
 ((0 : Int) ≤ ci ∧ ci < (↑nl : Int)) ∧
 (S.okT nl (fun (j : Nat) => vl (j + al)) (fun (j : Nat) => gl (j + al)) fun (j : Nat) => wl (j + al)) =
 true))
 then (bif (Prod.snd
 (S.resT (fun (j : Nat) => vl (j + al)) (fun (j : Nat) => gl (j + al)) (fun (j : Nat) => wl (j + al))
 (Int.toNat ci)))
 then (some (.inr (Prod.fst
 (S.resT (fun (j : Nat) => vl (j + al)) (fun (j : Nat) => gl (j + al)) (fun (j : Nat) => wl (j + al))
 (Int.toNat ci)), (0 : Int))))
 else (some (.inr ((0 : Int), (18 : Int)))))
 else (none)))))
 else (none) : Option (St16 ⊕ Rt16)) = some x) : Te16 cond Kst Kret al nl ml tl vl gl wl ci := by
  unfold Te16
  exact bif_split h
   (fun c0 h => bif_split h
   (fun c1 h => ret_at hR _ h (fun n => n) rfl rfl rfl (rn_tup ⟨(rn_int rfl), (rn_int rfl), trivial⟩) rfl (entl_bor (use_lo rfl) rfl rfl entl_nil))
   (fun c1 h => bif_split h
   (fun c2 h => ret_at hR _ h (fun n => n) rfl rfl rfl (rn_tup ⟨(rn_int rfl), (rn_int rfl), trivial⟩) rfl (entl_bor (use_lo rfl) rfl rfl entl_nil))
   (fun c2 h => bif_split h
   (fun c3 h => ret_at hR _ h (fun n => n) rfl rfl rfl (rn_tup ⟨(rn_int rfl), (rn_int rfl), trivial⟩) rfl (entl_bor (use_lo rfl) rfl rfl entl_nil))
   (fun c3 h => bif_split h
   (fun c4 h => bif_split h
   (fun c5 h => ret_at hR _ h (fun n => n) rfl rfl rfl (rn_tup ⟨(rn_int rfl), (rn_int rfl), trivial⟩) rfl (entl_bor (use_lo rfl) rfl rfl entl_nil))
   (fun c5 h => ret_at hR _ h (fun n => n) rfl rfl rfl (rn_tup ⟨(rn_int rfl), (rn_int rfl), trivial⟩) rfl (entl_bor (use_lo rfl) rfl rfl entl_nil)))
   (fun c4 h => no_some h)))))
   (fun c0 h => no_some h)
theorem a16 (al nl ml : Nat) (tl : Nat → ByteArray) (vl : Nat → Int) (gl : Nat → Int) (wl : Nat → Int) (ci : Int) {r : Rt16} (h : Goes ((q16 al nl ml tl vl gl wl ci)) ((p16 al nl ml tl vl gl wl ci)) r) : CallR Try.prog 16 [.loose ⟨0, 4, al, 0⟩ nl, .int .i64 ci] [[(0, (false, .cols ml [.str tl, .int .i64 vl, .int .i64 gl, .int .i64 wl]))]] 1 ((V16 al nl ml tl vl gl wl ci) r) ((fun r => [newL (1 + 1) ((N16 al nl ml tl vl gl wl ci) r) ++ [(0, (false, .cols ml [.str tl, .int .i64 vl, .int .i64 gl, .int .i64 wl]))]]) r) 400 ∧ ∃ F, Try.prog.funcs[16]? = some F ∧ F.body.isSome = true ∧ (F.name == "runtime.NumGoroutine") = false := by
  refine dec_calls (sy := true) (f := 16) (lo := 1) (hi := 400) (H := [[(0, (false, .cols ml [.str tl, .int .i64 vl, .int .i64 gl, .int .i64 wl]))]]) (args := [.loose ⟨0, 4, al, 0⟩ nl, .int .i64 ci]) Try.envOk Try.mixed xM_ok ((I16 al nl ml tl vl gl wl ci)) ((V16 al nl ml tl vl gl wl ci)) (fun r => [newL (1 + 1) ((N16 al nl ml tl vl gl wl ci) r) ++ [(0, (false, .cols ml [.str tl, .int .i64 vl, .int .i64 gl, .int .i64 wl]))]]) (fn := mkFn Try.f16) (ts := []) (n := 400) rfl (by decide) (by simp) (names_of rfl) ?_ ?_ ?_ h
  · intro s; exact s.elim
  · intro Kst Kret x hS hR h
    exact Holds.eq (te16 cond Kst Kret al nl ml tl vl gl wl ci) (be16 al nl ml tl vl gl wl ci Kst Kret x hS hR h)
  · intro Kst Kret x hS hR s h; exact s.elim
noncomputable def k16 : Con := ⟨16, [.one (.list [.str, .int .i64, .int .i64, .int .i64]), .one (.plain (.int .i64))], fun (x : (Nat × Nat × Nat × (Nat → ByteArray) × (Nat → Int) × (Nat → Int) × (Nat → Int) × Unit) × Int × Unit) => (fun (al nl ml : Nat) (tl : Nat → ByteArray) (vl : Nat → Int) (gl : Nat → Int) (wl : Nat → Int) (ci : Int) => decide (al + nl ≤ ml)) x.1.1 x.1.2.1 x.1.2.2.1 x.1.2.2.2.1 x.1.2.2.2.2.1 x.1.2.2.2.2.2.1 x.1.2.2.2.2.2.2.1 x.2.1, fun (x : (Nat × Nat × Nat × (Nat → ByteArray) × (Nat → Int) × (Nat → Int) × (Nat → Int) × Unit) × Int × Unit) => (fun (al nl ml : Nat) (tl : Nat → ByteArray) (vl : Nat → Int) (gl : Nat → Int) (wl : Nat → Int) (ci : Int) => (V16 al nl ml tl vl gl wl ci) (S.rspS (S.tskS nl (fun j => tl (j + al)) (fun j => vl (j + al)) (fun j => gl (j + al)) (fun j => wl (j + al))) nl ci (S.resT (fun j => vl (j + al)) (fun j => gl (j + al)) (fun j => wl (j + al)) ci.toNat))) x.1.1 x.1.2.1 x.1.2.2.1 x.1.2.2.2.1 x.1.2.2.2.2.1 x.1.2.2.2.2.2.1 x.1.2.2.2.2.2.2.1 x.2.1, fun (x : (Nat × Nat × Nat × (Nat → ByteArray) × (Nat → Int) × (Nat → Int) × (Nat → Int) × Unit) × Int × Unit) => (fun (al nl ml : Nat) (tl : Nat → ByteArray) (vl : Nat → Int) (gl : Nat → Int) (wl : Nat → Int) (ci : Int) => (N16 al nl ml tl vl gl wl ci) (S.rspS (S.tskS nl (fun j => tl (j + al)) (fun j => vl (j + al)) (fun j => gl (j + al)) (fun j => wl (j + al))) nl ci (S.resT (fun j => vl (j + al)) (fun j => gl (j + al)) (fun j => wl (j + al)) ci.toNat))) x.1.1 x.1.2.1 x.1.2.2.1 x.1.2.2.2.1 x.1.2.2.2.2.1 x.1.2.2.2.2.2.1 x.1.2.2.2.2.2.2.1 x.2.1, fun _ _ => .dead⟩
theorem s16 (al nl ml : Nat) (tl : Nat → ByteArray) (vl : Nat → Int) (gl : Nat → Int) (wl : Nat → Int) (ci : Int) (hp : al + nl ≤ ml) : Goes ((q16 al nl ml tl vl gl wl ci)) ((p16 al nl ml tl vl gl wl ci)) (S.rspS (S.tskS nl (fun j => tl (j + al)) (fun j => vl (j + al)) (fun j => gl (j + al)) (fun j => wl (j + al))) nl ci (S.resT (fun j => vl (j + al)) (fun j => gl (j + al)) (fun j => wl (j + al)) ci.toNat)) := by
  have hk : S.tskS nl (fun j => tl (j + al)) (fun j => vl (j + al)) (fun j => gl (j + al)) (fun j => wl (j + al)) = 0 → 1 ≤ nl ∧ S.okT nl (fun j => vl (j + al)) (fun j => gl (j + al)) (fun j => wl (j + al)) = true := tskS_ok
  have hd : S.okT nl (fun j => vl (j + al)) (fun j => gl (j + al)) (fun j => wl (j + al)) = true → ∀ j, j < nl → wl (j + al) ≤ 1000000 := fun h j hj => by
    have hh : 1 ≤ vl (j + al) ∧ vl (j + al) ≤ 1000000 ∧ 1 ≤ gl (j + al) ∧ gl (j + al) ≤ vl (j + al) ∧ gl (j + al) ≤ wl (j + al) ∧ wl (j + al) ≤ vl (j + al) := (okT_at h).2 j hj
    omega
  have h8 : S.okT nl (fun j => vl (j + al)) (fun j => gl (j + al)) (fun j => wl (j + al)) = true → nl ≤ 8 := fun h => (okT_at h).1
  unfold p16
  unfold S.rspS
  generalize S.tskS nl (fun j => tl (j + al)) (fun j => vl (j + al)) (fun j => gl (j + al)) (fun j => wl (j + al)) = e at *
  generalize S.okT nl (fun j => vl (j + al)) (fun j => gl (j + al)) (fun j => wl (j + al)) = o at *
  generalize S.resT (fun j => vl (j + al)) (fun j => gl (j + al)) (fun j => wl (j + al)) ci.toNat = r at *
  by_cases he : e = 0
  · obtain ⟨hn, ho⟩ := hk he
    have h9 := h8 ho
    have hd2 := hd ho
    clear h8 hd
    subst he
    subst ho
    by_cases hi : 0 ≤ ci ∧ ci < nl
    · have hd3 := hd2 ci.toNat (by omega)
      clear hk
      repeat' first
        | with_reducible refine goes_if (fun h => ?_) (fun h => ?_) <;> (try simp only [lim64, imp_false, decide_eq_true_eq, decide_eq_false_iff_not, Int.toNat_natCast, toNat_pred, toNat_succ, Option.getD_some, Option.getD_none, Bool.not_eq_true', Bool.not_eq_false', Bool.and_eq_true, Bool.or_eq_true, Bool.and_eq_false_iff, Bool.or_eq_false_iff, bne_iff_ne, beq_iff_eq, bne_eq_false_iff_eq, beq_eq_false_iff_ne, ne_eq, not_and, Int.not_le, Int.not_lt, ge_iff_le, gt_iff_lt, Nat.not_lt, Nat.not_le, Bool.not_eq_true, Bool.not_eq_false, Bool.true_eq_false, Bool.false_eq_true, not_false_eq_true, not_true_eq_false, true_and, and_true, and_self] at h)
        | exact goes_none.mpr (by omega)
      all_goals first | (exfalso; omega) | (refine goes_inr.mpr ?_; (repeat' split) <;> first | rfl | (exfalso; omega) | (exact (decide_eq_true (by omega)).symm) | (exact (decide_eq_false (by omega)).symm) | simp_all)
    · clear hd2 hk
      repeat' first
        | with_reducible refine goes_if (fun h => ?_) (fun h => ?_) <;> (try simp only [lim64, imp_false, decide_eq_true_eq, decide_eq_false_iff_not, Int.toNat_natCast, toNat_pred, toNat_succ, Option.getD_some, Option.getD_none, Bool.not_eq_true', Bool.not_eq_false', Bool.and_eq_true, Bool.or_eq_true, Bool.and_eq_false_iff, Bool.or_eq_false_iff, bne_iff_ne, beq_iff_eq, bne_eq_false_iff_eq, beq_eq_false_iff_ne, ne_eq, not_and, Int.not_le, Int.not_lt, ge_iff_le, gt_iff_lt, Nat.not_lt, Nat.not_le, Bool.not_eq_true, Bool.not_eq_false, Bool.true_eq_false, Bool.false_eq_true, not_false_eq_true, not_true_eq_false, true_and, and_true, and_self] at h)
        | exact goes_none.mpr (by omega)
      all_goals first | (exfalso; omega) | (refine goes_inr.mpr ?_; (repeat' split) <;> first | rfl | (exfalso; omega) | (exact (decide_eq_true (by omega)).symm) | (exact (decide_eq_false (by omega)).symm) | simp_all)
  · clear hk hd h8
    repeat' first
      | with_reducible refine goes_if (fun h => ?_) (fun h => ?_) <;> (try simp only [lim64, imp_false, decide_eq_true_eq, decide_eq_false_iff_not, Int.toNat_natCast, toNat_pred, toNat_succ, Option.getD_some, Option.getD_none, Bool.not_eq_true', Bool.not_eq_false', Bool.and_eq_true, Bool.or_eq_true, Bool.and_eq_false_iff, Bool.or_eq_false_iff, bne_iff_ne, beq_iff_eq, bne_eq_false_iff_eq, beq_eq_false_iff_ne, ne_eq, not_and, Int.not_le, Int.not_lt, ge_iff_le, gt_iff_lt, Nat.not_lt, Nat.not_le, Bool.not_eq_true, Bool.not_eq_false, Bool.true_eq_false, Bool.false_eq_true, not_false_eq_true, not_true_eq_false] at h)
      | exact goes_none.mpr (by omega)
    all_goals first | (exfalso; omega) | (refine goes_inr.mpr ?_; (repeat' split) <;> first | rfl | (exfalso; omega) | (exact (decide_eq_true (by omega)).symm) | (exact (decide_eq_false (by omega)).symm) | simp_all)

theorem k16_ok : k16.ok Try.prog := by
  intro x hx
  obtain ⟨⟨al, nl, ml, tl, vl, gl, wl, _⟩, ci, _⟩ := x
  obtain ⟨h1, h2⟩ := a16 al nl ml tl vl gl wl ci (s16 al nl ml tl vl gl wl ci (of_dec hx rfl))
  exact ⟨⟨400, (by decide : 1 + 1 + 0 ≤ 400), h1⟩, h2⟩
abbrev St20 := Empty
abbrev Rt20 := Int × Int
noncomputable def V20 (al nl ml : Nat) (tl : Nat → ByteArray) (vl : Nat → Int) (gl : Nat → Int) (wl : Nat → Int) (r : Rt20) : PV := PV.tup [PV.int IntKind.i64 r.1, PV.int IntKind.i64 r.2]
noncomputable def N20 (al nl ml : Nat) (tl : Nat → ByteArray) (vl : Nat → Int) (gl : Nat → Int) (wl : Nat → Int) (r : Rt20) : List Blk := []
noncomputable def I20 (al nl ml : Nat) (tl : Nat → ByteArray) (vl : Nat → Int) (gl : Nat → Int) (wl : Nat → Int) : St20 → Hd := fun s => s.elim
noncomputable def q20 (al nl ml : Nat) (tl : Nat → ByteArray) (vl : Nat → Int) (gl : Nat → Int) (wl : Nat → Int) : St20 → Option (St20 ⊕ Rt20) := fun s => s.elim
noncomputable def p20 (al nl ml : Nat) (tl : Nat → ByteArray) (vl : Nat → Int) (gl : Nat → Int) (wl : Nat → Int) : Option (St20 ⊕ Rt20) := bif (decide (al + nl ≤ ml))
 then (bif ((S.tskS nl (fun (j : Nat) => tl (j + al)) (fun (j : Nat) => vl (j + al)) (fun (j : Nat) => gl (j + al))
 fun (j : Nat) => wl (j + al)) !=
 (0 : Int))
 then (some (.inr ((0 : Int), S.tskS nl (fun (j : Nat) => tl (j + al)) (fun (j : Nat) => vl (j + al)) (fun (j : Nat) => gl (j + al))
 fun (j : Nat) => wl (j + al))))
 else (bif (decide
 (al + nl ≤ ml ∧
 (S.okT nl (fun (j : Nat) => vl (j + al)) (fun (j : Nat) => gl (j + al)) fun (j : Nat) => wl (j + al)) =
 true))
 then (bif (decide
 ((S.misT nl (fun (j : Nat) => vl (j + al)) (fun (j : Nat) => gl (j + al)) fun (j : Nat) => wl (j + al)) <
 (0 : Int)))
 then (some (.inr ((0 : Int), (10 : Int))))
 else (some (.inr (S.misT nl (fun (j : Nat) => vl (j + al)) (fun (j : Nat) => gl (j + al)) fun (j : Nat) => wl (j + al), (0 : Int)))))
 else (none)))
 else (none)
noncomputable def Te20 (test : Bool → Prop → Prop → Prop) (Kst : KS) (Kret : KR) (al nl ml : Nat) (tl : Nat → ByteArray) (vl : Nat → Int) (gl : Nat → Int) (wl : Nat → Int) : Prop :=
  test (decide (al + nl ≤ ml))
 (test ((S.tskS nl (fun (j : Nat) => tl (j + al)) (fun (j : Nat) => vl (j + al)) (fun (j : Nat) => gl (j + al))
 fun (j : Nat) => wl (j + al)) !=
 (0 : Int))
 (Kret (PV.tup
 [PV.int IntKind.i64 (0 : Int),
 PV.int IntKind.i64
 (S.tskS nl (fun (j : Nat) => tl (j + al)) (fun (j : Nat) => vl (j + al)) (fun (j : Nat) => gl (j + al))
 fun (j : Nat) => wl (j + al))]) ([[(0, false,
 Blk.cols ml
 [Col.str tl, Col.int IntKind.i64 vl, Col.int IntKind.i64 gl,
 Col.int IntKind.i64 wl])]]) (2))
 (test (decide
 (al + nl ≤ ml ∧
 (S.okT nl (fun (j : Nat) => vl (j + al)) (fun (j : Nat) => gl (j + al)) fun (j : Nat) => wl (j + al)) =
 true))
 (test (decide
 ((S.misT nl (fun (j : Nat) => vl (j + al)) (fun (j : Nat) => gl (j + al)) fun (j : Nat) => wl (j + al)) <
 (0 : Int)))
 (Kret (PV.tup [PV.int IntKind.i64 (0 : Int), PV.int IntKind.i64 (10 : Int)]) ([[(0, false,
 Blk.cols ml
 [Col.str tl, Col.int IntKind.i64 vl, Col.int IntKind.i64 gl,
 Col.int IntKind.i64 wl])]]) (3))
 (Kret (PV.tup
 [PV.int IntKind.i64
 (S.misT nl (fun (j : Nat) => vl (j + al)) (fun (j : Nat) => gl (j + al)) fun (j : Nat) => wl (j + al)),
 PV.int IntKind.i64 (0 : Int)]) ([[(0, false,
 Blk.cols ml
 [Col.str tl, Col.int IntKind.i64 vl, Col.int IntKind.i64 gl,
 Col.int IntKind.i64 wl])]]) (3)))
 (False)))
 (False)
set_option maxRecDepth 100000 in
theorem te20 (test : Bool → Prop → Prop → Prop) (Kst : KS) (Kret : KR) (al nl ml : Nat) (tl : Nat → ByteArray) (vl : Nat → Int) (gl : Nat → Int) (wl : Nat → Int) : run test Try.env true (xM test) true 400 ⟨20, [.cd (mkFn Try.f20).body], argT 0 [.loose ⟨0, 4, al, 0⟩ nl], [[], [(0, (false, .cols ml [.str tl, .int .i64 vl, .int .i64 gl, .int .i64 wl]))]], 1⟩ (proj 1 [] Kst Kret) =
  Te20 test Kst Kret al nl ml tl vl gl wl := by kernel_rfl
attribute [local irreducible] Int.subNatNat in
set_option maxRecDepth 100000 in
theorem be20 (al nl ml : Nat) (tl : Nat → ByteArray) (vl : Nat → Int) (gl : Nat → Int) (wl : Nat → Int) (Kst : KS) (Kret : KR) (x : St20 ⊕ Rt20) (hS : HS 1 400 ((I20 al nl ml tl vl gl wl)) Kst x) (hR : HR 1 400 ((V20 al nl ml tl vl gl wl)) (fun r => [newL (1 + 1) ((N20 al nl ml tl vl gl wl) r) ++ [(0, (false, .cols ml [.str tl, .int .i64 vl, .int .i64 gl, .int .i64 wl]))]]) Kret x) (h : (bif (decide (al + nl ≤ ml))
 then (bif ((S.tskS nl (fun (j : Nat) => tl (j + al)) (fun (j : Nat) => vl (j + al)) (fun (j : Nat) => gl (j + al))
 fun (j : Nat) => wl (j + al)) !=
 (0 : Int))
 then (some (.inr ((0 : Int), S.tskS nl (fun (j : Nat) => tl (j + al)) (fun (j : Nat) => vl (j + al)) (fun (j : Nat) => gl (j + al))
 fun (j : Nat) => wl (j + al))))
 else (bif (decide
 (al + nl ≤ ml ∧
 (S.okT nl (fun (j : Nat) => vl (j + al)) (fun (j : Nat) => gl (j + al)) fun (j : Nat) => wl (j + al)) =
 true))
 then (bif (decide
 ((S.misT nl (fun (j : Nat) => vl (j + al)) (fun (j : Nat) => gl (j + al)) fun (j : Nat) => wl (j + al)) <
 (0 : Int)))
 then (some (.inr ((0 : Int), (10 : Int))))
 else (some (.inr (S.misT nl (fun (j : Nat) => vl (j + al)) (fun (j : Nat) => gl (j + al)) fun (j : Nat) => wl (j + al), (0 : Int)))))
 else (none)))
 else (none) : Option (St20 ⊕ Rt20)) = some x) : Te20 cond Kst Kret al nl ml tl vl gl wl := by
  unfold Te20
  exact bif_split h
   (fun c0 h => bif_split h
   (fun c1 h => ret_at hR _ h (fun n => n) rfl rfl rfl (rn_tup ⟨(rn_int rfl), (rn_int rfl), trivial⟩) rfl (entl_bor (use_lo rfl) rfl rfl entl_nil))
   (fun c1 h => bif_split h
   (fun c2 h => bif_split h
   (fun c3 h => ret_at hR _ h (fun n => n) rfl rfl rfl (rn_tup ⟨(rn_int rfl), (rn_int rfl), trivial⟩) rfl (entl_bor (use_lo rfl) rfl rfl entl_nil))
   (fun c3 h => ret_at hR _ h (fun n => n) rfl rfl rfl (rn_tup ⟨(rn_int rfl), (rn_int rfl), trivial⟩) rfl (entl_bor (use_lo rfl) rfl rfl entl_nil)))
   (fun c2 h => no_some h)))
   (fun c0 h => no_some h)
theorem a20 (al nl ml : Nat) (tl : Nat → ByteArray) (vl : Nat → Int) (gl : Nat → Int) (wl : Nat → Int) {r : Rt20} (h : Goes ((q20 al nl ml tl vl gl wl)) ((p20 al nl ml tl vl gl wl)) r) : CallR Try.prog 20 [.loose ⟨0, 4, al, 0⟩ nl] [[(0, (false, .cols ml [.str tl, .int .i64 vl, .int .i64 gl, .int .i64 wl]))]] 1 ((V20 al nl ml tl vl gl wl) r) ((fun r => [newL (1 + 1) ((N20 al nl ml tl vl gl wl) r) ++ [(0, (false, .cols ml [.str tl, .int .i64 vl, .int .i64 gl, .int .i64 wl]))]]) r) 400 ∧ ∃ F, Try.prog.funcs[20]? = some F ∧ F.body.isSome = true ∧ (F.name == "runtime.NumGoroutine") = false := by
  refine dec_calls (sy := true) (f := 20) (lo := 1) (hi := 400) (H := [[(0, (false, .cols ml [.str tl, .int .i64 vl, .int .i64 gl, .int .i64 wl]))]]) (args := [.loose ⟨0, 4, al, 0⟩ nl]) Try.envOk Try.mixed xM_ok ((I20 al nl ml tl vl gl wl)) ((V20 al nl ml tl vl gl wl)) (fun r => [newL (1 + 1) ((N20 al nl ml tl vl gl wl) r) ++ [(0, (false, .cols ml [.str tl, .int .i64 vl, .int .i64 gl, .int .i64 wl]))]]) (fn := mkFn Try.f20) (ts := []) (n := 400) rfl (by decide) (by simp) (names_of rfl) ?_ ?_ ?_ h
  · intro s; exact s.elim
  · intro Kst Kret x hS hR h
    exact Holds.eq (te20 cond Kst Kret al nl ml tl vl gl wl) (be20 al nl ml tl vl gl wl Kst Kret x hS hR h)
  · intro Kst Kret x hS hR s h; exact s.elim
noncomputable def k20 : Con := ⟨20, [.one (.list [.str, .int .i64, .int .i64, .int .i64])], fun (x : (Nat × Nat × Nat × (Nat → ByteArray) × (Nat → Int) × (Nat → Int) × (Nat → Int) × Unit) × Unit) => (fun (al nl ml : Nat) (tl : Nat → ByteArray) (vl : Nat → Int) (gl : Nat → Int) (wl : Nat → Int) => decide (al + nl ≤ ml)) x.1.1 x.1.2.1 x.1.2.2.1 x.1.2.2.2.1 x.1.2.2.2.2.1 x.1.2.2.2.2.2.1 x.1.2.2.2.2.2.2.1, fun (x : (Nat × Nat × Nat × (Nat → ByteArray) × (Nat → Int) × (Nat → Int) × (Nat → Int) × Unit) × Unit) => (fun (al nl ml : Nat) (tl : Nat → ByteArray) (vl : Nat → Int) (gl : Nat → Int) (wl : Nat → Int) => (V20 al nl ml tl vl gl wl) (S.misS (S.tskS nl (fun j => tl (j + al)) (fun j => vl (j + al)) (fun j => gl (j + al)) (fun j => wl (j + al))) (S.misT nl (fun j => vl (j + al)) (fun j => gl (j + al)) (fun j => wl (j + al))))) x.1.1 x.1.2.1 x.1.2.2.1 x.1.2.2.2.1 x.1.2.2.2.2.1 x.1.2.2.2.2.2.1 x.1.2.2.2.2.2.2.1, fun (x : (Nat × Nat × Nat × (Nat → ByteArray) × (Nat → Int) × (Nat → Int) × (Nat → Int) × Unit) × Unit) => (fun (al nl ml : Nat) (tl : Nat → ByteArray) (vl : Nat → Int) (gl : Nat → Int) (wl : Nat → Int) => (N20 al nl ml tl vl gl wl) (S.misS (S.tskS nl (fun j => tl (j + al)) (fun j => vl (j + al)) (fun j => gl (j + al)) (fun j => wl (j + al))) (S.misT nl (fun j => vl (j + al)) (fun j => gl (j + al)) (fun j => wl (j + al))))) x.1.1 x.1.2.1 x.1.2.2.1 x.1.2.2.2.1 x.1.2.2.2.2.1 x.1.2.2.2.2.2.1 x.1.2.2.2.2.2.2.1, fun _ _ => .dead⟩
theorem s20 (al nl ml : Nat) (tl : Nat → ByteArray) (vl : Nat → Int) (gl : Nat → Int) (wl : Nat → Int) (hp : al + nl ≤ ml) : Goes ((q20 al nl ml tl vl gl wl)) ((p20 al nl ml tl vl gl wl)) (S.misS (S.tskS nl (fun j => tl (j + al)) (fun j => vl (j + al)) (fun j => gl (j + al)) (fun j => wl (j + al))) (S.misT nl (fun j => vl (j + al)) (fun j => gl (j + al)) (fun j => wl (j + al)))) := by
  have hk : S.tskS nl (fun j => tl (j + al)) (fun j => vl (j + al)) (fun j => gl (j + al)) (fun j => wl (j + al)) = 0 → 1 ≤ nl ∧ S.okT nl (fun j => vl (j + al)) (fun j => gl (j + al)) (fun j => wl (j + al)) = true := tskS_ok
  have hd : S.okT nl (fun j => vl (j + al)) (fun j => gl (j + al)) (fun j => wl (j + al)) = true → ∀ j, j < nl → wl (j + al) ≤ 1000000 := fun h j hj => by
    have hh : 1 ≤ vl (j + al) ∧ vl (j + al) ≤ 1000000 ∧ 1 ≤ gl (j + al) ∧ gl (j + al) ≤ vl (j + al) ∧ gl (j + al) ≤ wl (j + al) ∧ wl (j + al) ≤ vl (j + al) := (okT_at h).2 j hj
    omega
  have h8 : S.okT nl (fun j => vl (j + al)) (fun j => gl (j + al)) (fun j => wl (j + al)) = true → nl ≤ 8 := fun h => (okT_at h).1
  unfold p20
  unfold S.misS
  generalize S.tskS nl (fun j => tl (j + al)) (fun j => vl (j + al)) (fun j => gl (j + al)) (fun j => wl (j + al)) = e at *
  generalize S.okT nl (fun j => vl (j + al)) (fun j => gl (j + al)) (fun j => wl (j + al)) = o at *
  generalize S.misT nl (fun j => vl (j + al)) (fun j => gl (j + al)) (fun j => wl (j + al)) = r at *
  by_cases he : e = 0
  · obtain ⟨hn, ho⟩ := hk he
    have h9 := h8 ho
    have hd2 := hd ho
    clear h8 hd
    subst he
    subst ho
    by_cases hi : 0 ≤ (0 : Int) ∧ (0 : Int) < nl
    · clear hd2
      clear hk
      repeat' first
        | with_reducible refine goes_if (fun h => ?_) (fun h => ?_) <;> (try simp only [lim64, imp_false, decide_eq_true_eq, decide_eq_false_iff_not, Int.toNat_natCast, toNat_pred, toNat_succ, Option.getD_some, Option.getD_none, Bool.not_eq_true', Bool.not_eq_false', Bool.and_eq_true, Bool.or_eq_true, Bool.and_eq_false_iff, Bool.or_eq_false_iff, bne_iff_ne, beq_iff_eq, bne_eq_false_iff_eq, beq_eq_false_iff_ne, ne_eq, not_and, Int.not_le, Int.not_lt, ge_iff_le, gt_iff_lt, Nat.not_lt, Nat.not_le, Bool.not_eq_true, Bool.not_eq_false, Bool.true_eq_false, Bool.false_eq_true, not_false_eq_true, not_true_eq_false, true_and, and_true, and_self] at h)
        | exact goes_none.mpr (by omega)
      all_goals first | (exfalso; omega) | (refine goes_inr.mpr ?_; (repeat' split) <;> first | rfl | (exfalso; omega) | (exact (decide_eq_true (by omega)).symm) | (exact (decide_eq_false (by omega)).symm) | simp_all)
    · clear hd2 hk
      repeat' first
        | with_reducible refine goes_if (fun h => ?_) (fun h => ?_) <;> (try simp only [lim64, imp_false, decide_eq_true_eq, decide_eq_false_iff_not, Int.toNat_natCast, toNat_pred, toNat_succ, Option.getD_some, Option.getD_none, Bool.not_eq_true', Bool.not_eq_false', Bool.and_eq_true, Bool.or_eq_true, Bool.and_eq_false_iff, Bool.or_eq_false_iff, bne_iff_ne, beq_iff_eq, bne_eq_false_iff_eq, beq_eq_false_iff_ne, ne_eq, not_and, Int.not_le, Int.not_lt, ge_iff_le, gt_iff_lt, Nat.not_lt, Nat.not_le, Bool.not_eq_true, Bool.not_eq_false, Bool.true_eq_false, Bool.false_eq_true, not_false_eq_true, not_true_eq_false, true_and, and_true, and_self] at h)
        | exact goes_none.mpr (by omega)
      all_goals first | (exfalso; omega) | (refine goes_inr.mpr ?_; (repeat' split) <;> first | rfl | (exfalso; omega) | (exact (decide_eq_true (by omega)).symm) | (exact (decide_eq_false (by omega)).symm) | simp_all)
  · clear hk hd h8
    repeat' first
      | with_reducible refine goes_if (fun h => ?_) (fun h => ?_) <;> (try simp only [lim64, imp_false, decide_eq_true_eq, decide_eq_false_iff_not, Int.toNat_natCast, toNat_pred, toNat_succ, Option.getD_some, Option.getD_none, Bool.not_eq_true', Bool.not_eq_false', Bool.and_eq_true, Bool.or_eq_true, Bool.and_eq_false_iff, Bool.or_eq_false_iff, bne_iff_ne, beq_iff_eq, bne_eq_false_iff_eq, beq_eq_false_iff_ne, ne_eq, not_and, Int.not_le, Int.not_lt, ge_iff_le, gt_iff_lt, Nat.not_lt, Nat.not_le, Bool.not_eq_true, Bool.not_eq_false, Bool.true_eq_false, Bool.false_eq_true, not_false_eq_true, not_true_eq_false] at h)
      | exact goes_none.mpr (by omega)
    all_goals first | (exfalso; omega) | (refine goes_inr.mpr ?_; (repeat' split) <;> first | rfl | (exfalso; omega) | (exact (decide_eq_true (by omega)).symm) | (exact (decide_eq_false (by omega)).symm) | simp_all)

theorem k20_ok : k20.ok Try.prog := by
  intro x hx
  obtain ⟨⟨al, nl, ml, tl, vl, gl, wl, _⟩, _⟩ := x
  obtain ⟨h1, h2⟩ := a20 al nl ml tl vl gl wl (s20 al nl ml tl vl gl wl (of_dec hx rfl))
  exact ⟨⟨400, (by decide : 1 + 1 + 0 ≤ 400), h1⟩, h2⟩
abbrev St21 := Empty
abbrev Rt21 := Int × Int
noncomputable def V21 (al nl ml : Nat) (tl : Nat → ByteArray) (vl : Nat → Int) (gl : Nat → Int) (wl : Nat → Int) (r : Rt21) : PV := PV.tup [PV.int IntKind.i64 r.1, PV.int IntKind.i64 r.2]
noncomputable def N21 (al nl ml : Nat) (tl : Nat → ByteArray) (vl : Nat → Int) (gl : Nat → Int) (wl : Nat → Int) (r : Rt21) : List Blk := []
noncomputable def I21 (al nl ml : Nat) (tl : Nat → ByteArray) (vl : Nat → Int) (gl : Nat → Int) (wl : Nat → Int) : St21 → Hd := fun s => s.elim
noncomputable def q21 (al nl ml : Nat) (tl : Nat → ByteArray) (vl : Nat → Int) (gl : Nat → Int) (wl : Nat → Int) : St21 → Option (St21 ⊕ Rt21) := fun s => s.elim
noncomputable def p21 (al nl ml : Nat) (tl : Nat → ByteArray) (vl : Nat → Int) (gl : Nat → Int) (wl : Nat → Int) : Option (St21 ⊕ Rt21) := bif (decide (al + nl ≤ ml))
 then (bif ((S.tskS nl (fun (j : Nat) => tl (j + al)) (fun (j : Nat) => vl (j + al)) (fun (j : Nat) => gl (j + al))
 fun (j : Nat) => wl (j + al)) !=
 (0 : Int))
 then (some (.inr ((0 : Int), S.tskS nl (fun (j : Nat) => tl (j + al)) (fun (j : Nat) => vl (j + al)) (fun (j : Nat) => gl (j + al))
 fun (j : Nat) => wl (j + al))))
 else (bif (decide
 (al + nl ≤ ml ∧
 (S.okT nl (fun (j : Nat) => vl (j + al)) (fun (j : Nat) => gl (j + al)) fun (j : Nat) => wl (j + al)) =
 true))
 then (bif (decide
 ((S.misT nl (fun (j : Nat) => vl (j + al)) (fun (j : Nat) => gl (j + al)) fun (j : Nat) => wl (j + al)) <
 (0 : Int)))
 then (some (.inr ((0 : Int), (10 : Int))))
 else (some (.inr (S.misT nl (fun (j : Nat) => vl (j + al)) (fun (j : Nat) => gl (j + al)) fun (j : Nat) => wl (j + al), (0 : Int)))))
 else (none)))
 else (none)
noncomputable def Te21 (test : Bool → Prop → Prop → Prop) (Kst : KS) (Kret : KR) (al nl ml : Nat) (tl : Nat → ByteArray) (vl : Nat → Int) (gl : Nat → Int) (wl : Nat → Int) : Prop :=
  test (decide (al + nl ≤ ml))
 (test ((S.tskS nl (fun (j : Nat) => tl (j + al)) (fun (j : Nat) => vl (j + al)) (fun (j : Nat) => gl (j + al))
 fun (j : Nat) => wl (j + al)) !=
 (0 : Int))
 (Kret (PV.tup
 [PV.int IntKind.i64 (0 : Int),
 PV.int IntKind.i64
 (S.tskS nl (fun (j : Nat) => tl (j + al)) (fun (j : Nat) => vl (j + al)) (fun (j : Nat) => gl (j + al))
 fun (j : Nat) => wl (j + al))]) ([[(0, false,
 Blk.cols ml
 [Col.str tl, Col.int IntKind.i64 vl, Col.int IntKind.i64 gl,
 Col.int IntKind.i64 wl])]]) (2))
 (test (decide
 (al + nl ≤ ml ∧
 (S.okT nl (fun (j : Nat) => vl (j + al)) (fun (j : Nat) => gl (j + al)) fun (j : Nat) => wl (j + al)) =
 true))
 (test (decide
 ((S.misT nl (fun (j : Nat) => vl (j + al)) (fun (j : Nat) => gl (j + al)) fun (j : Nat) => wl (j + al)) <
 (0 : Int)))
 (Kret (PV.tup [PV.int IntKind.i64 (0 : Int), PV.int IntKind.i64 (10 : Int)]) ([[(0, false,
 Blk.cols ml
 [Col.str tl, Col.int IntKind.i64 vl, Col.int IntKind.i64 gl,
 Col.int IntKind.i64 wl])]]) (3))
 (Kret (PV.tup
 [PV.int IntKind.i64
 (S.misT nl (fun (j : Nat) => vl (j + al)) (fun (j : Nat) => gl (j + al)) fun (j : Nat) => wl (j + al)),
 PV.int IntKind.i64 (0 : Int)]) ([[(0, false,
 Blk.cols ml
 [Col.str tl, Col.int IntKind.i64 vl, Col.int IntKind.i64 gl,
 Col.int IntKind.i64 wl])]]) (3)))
 (False)))
 (False)
set_option maxRecDepth 100000 in
theorem te21 (test : Bool → Prop → Prop → Prop) (Kst : KS) (Kret : KR) (al nl ml : Nat) (tl : Nat → ByteArray) (vl : Nat → Int) (gl : Nat → Int) (wl : Nat → Int) : run test Try.env true (xM test) true 400 ⟨21, [.cd (mkFn Try.f21).body], argT 0 [.loose ⟨0, 4, al, 0⟩ nl], [[], [(0, (false, .cols ml [.str tl, .int .i64 vl, .int .i64 gl, .int .i64 wl]))]], 1⟩ (proj 1 [] Kst Kret) =
  Te21 test Kst Kret al nl ml tl vl gl wl := by kernel_rfl
attribute [local irreducible] Int.subNatNat in
set_option maxRecDepth 100000 in
theorem be21 (al nl ml : Nat) (tl : Nat → ByteArray) (vl : Nat → Int) (gl : Nat → Int) (wl : Nat → Int) (Kst : KS) (Kret : KR) (x : St21 ⊕ Rt21) (hS : HS 1 400 ((I21 al nl ml tl vl gl wl)) Kst x) (hR : HR 1 400 ((V21 al nl ml tl vl gl wl)) (fun r => [newL (1 + 1) ((N21 al nl ml tl vl gl wl) r) ++ [(0, (false, .cols ml [.str tl, .int .i64 vl, .int .i64 gl, .int .i64 wl]))]]) Kret x) (h : (bif (decide (al + nl ≤ ml))
 then (bif ((S.tskS nl (fun (j : Nat) => tl (j + al)) (fun (j : Nat) => vl (j + al)) (fun (j : Nat) => gl (j + al))
 fun (j : Nat) => wl (j + al)) !=
 (0 : Int))
 then (some (.inr ((0 : Int), S.tskS nl (fun (j : Nat) => tl (j + al)) (fun (j : Nat) => vl (j + al)) (fun (j : Nat) => gl (j + al))
 fun (j : Nat) => wl (j + al))))
 else (bif (decide
 (al + nl ≤ ml ∧
 (S.okT nl (fun (j : Nat) => vl (j + al)) (fun (j : Nat) => gl (j + al)) fun (j : Nat) => wl (j + al)) =
 true))
 then (bif (decide
 ((S.misT nl (fun (j : Nat) => vl (j + al)) (fun (j : Nat) => gl (j + al)) fun (j : Nat) => wl (j + al)) <
 (0 : Int)))
 then (some (.inr ((0 : Int), (10 : Int))))
 else (some (.inr (S.misT nl (fun (j : Nat) => vl (j + al)) (fun (j : Nat) => gl (j + al)) fun (j : Nat) => wl (j + al), (0 : Int)))))
 else (none)))
 else (none) : Option (St21 ⊕ Rt21)) = some x) : Te21 cond Kst Kret al nl ml tl vl gl wl := by
  unfold Te21
  exact bif_split h
   (fun c0 h => bif_split h
   (fun c1 h => ret_at hR _ h (fun n => n) rfl rfl rfl (rn_tup ⟨(rn_int rfl), (rn_int rfl), trivial⟩) rfl (entl_bor (use_lo rfl) rfl rfl entl_nil))
   (fun c1 h => bif_split h
   (fun c2 h => bif_split h
   (fun c3 h => ret_at hR _ h (fun n => n) rfl rfl rfl (rn_tup ⟨(rn_int rfl), (rn_int rfl), trivial⟩) rfl (entl_bor (use_lo rfl) rfl rfl entl_nil))
   (fun c3 h => ret_at hR _ h (fun n => n) rfl rfl rfl (rn_tup ⟨(rn_int rfl), (rn_int rfl), trivial⟩) rfl (entl_bor (use_lo rfl) rfl rfl entl_nil)))
   (fun c2 h => no_some h)))
   (fun c0 h => no_some h)
theorem a21 (al nl ml : Nat) (tl : Nat → ByteArray) (vl : Nat → Int) (gl : Nat → Int) (wl : Nat → Int) {r : Rt21} (h : Goes ((q21 al nl ml tl vl gl wl)) ((p21 al nl ml tl vl gl wl)) r) : CallR Try.prog 21 [.loose ⟨0, 4, al, 0⟩ nl] [[(0, (false, .cols ml [.str tl, .int .i64 vl, .int .i64 gl, .int .i64 wl]))]] 1 ((V21 al nl ml tl vl gl wl) r) ((fun r => [newL (1 + 1) ((N21 al nl ml tl vl gl wl) r) ++ [(0, (false, .cols ml [.str tl, .int .i64 vl, .int .i64 gl, .int .i64 wl]))]]) r) 400 ∧ ∃ F, Try.prog.funcs[21]? = some F ∧ F.body.isSome = true ∧ (F.name == "runtime.NumGoroutine") = false := by
  refine dec_calls (sy := true) (f := 21) (lo := 1) (hi := 400) (H := [[(0, (false, .cols ml [.str tl, .int .i64 vl, .int .i64 gl, .int .i64 wl]))]]) (args := [.loose ⟨0, 4, al, 0⟩ nl]) Try.envOk Try.mixed xM_ok ((I21 al nl ml tl vl gl wl)) ((V21 al nl ml tl vl gl wl)) (fun r => [newL (1 + 1) ((N21 al nl ml tl vl gl wl) r) ++ [(0, (false, .cols ml [.str tl, .int .i64 vl, .int .i64 gl, .int .i64 wl]))]]) (fn := mkFn Try.f21) (ts := []) (n := 400) rfl (by decide) (by simp) (names_of rfl) ?_ ?_ ?_ h
  · intro s; exact s.elim
  · intro Kst Kret x hS hR h
    exact Holds.eq (te21 cond Kst Kret al nl ml tl vl gl wl) (be21 al nl ml tl vl gl wl Kst Kret x hS hR h)
  · intro Kst Kret x hS hR s h; exact s.elim
noncomputable def k21 : Con := ⟨21, [.one (.list [.str, .int .i64, .int .i64, .int .i64])], fun (x : (Nat × Nat × Nat × (Nat → ByteArray) × (Nat → Int) × (Nat → Int) × (Nat → Int) × Unit) × Unit) => (fun (al nl ml : Nat) (tl : Nat → ByteArray) (vl : Nat → Int) (gl : Nat → Int) (wl : Nat → Int) => decide (al + nl ≤ ml)) x.1.1 x.1.2.1 x.1.2.2.1 x.1.2.2.2.1 x.1.2.2.2.2.1 x.1.2.2.2.2.2.1 x.1.2.2.2.2.2.2.1, fun (x : (Nat × Nat × Nat × (Nat → ByteArray) × (Nat → Int) × (Nat → Int) × (Nat → Int) × Unit) × Unit) => (fun (al nl ml : Nat) (tl : Nat → ByteArray) (vl : Nat → Int) (gl : Nat → Int) (wl : Nat → Int) => (V21 al nl ml tl vl gl wl) (S.misS (S.tskS nl (fun j => tl (j + al)) (fun j => vl (j + al)) (fun j => gl (j + al)) (fun j => wl (j + al))) (S.misT nl (fun j => vl (j + al)) (fun j => gl (j + al)) (fun j => wl (j + al))))) x.1.1 x.1.2.1 x.1.2.2.1 x.1.2.2.2.1 x.1.2.2.2.2.1 x.1.2.2.2.2.2.1 x.1.2.2.2.2.2.2.1, fun (x : (Nat × Nat × Nat × (Nat → ByteArray) × (Nat → Int) × (Nat → Int) × (Nat → Int) × Unit) × Unit) => (fun (al nl ml : Nat) (tl : Nat → ByteArray) (vl : Nat → Int) (gl : Nat → Int) (wl : Nat → Int) => (N21 al nl ml tl vl gl wl) (S.misS (S.tskS nl (fun j => tl (j + al)) (fun j => vl (j + al)) (fun j => gl (j + al)) (fun j => wl (j + al))) (S.misT nl (fun j => vl (j + al)) (fun j => gl (j + al)) (fun j => wl (j + al))))) x.1.1 x.1.2.1 x.1.2.2.1 x.1.2.2.2.1 x.1.2.2.2.2.1 x.1.2.2.2.2.2.1 x.1.2.2.2.2.2.2.1, fun _ _ => .dead⟩
theorem s21 (al nl ml : Nat) (tl : Nat → ByteArray) (vl : Nat → Int) (gl : Nat → Int) (wl : Nat → Int) (hp : al + nl ≤ ml) : Goes ((q21 al nl ml tl vl gl wl)) ((p21 al nl ml tl vl gl wl)) (S.misS (S.tskS nl (fun j => tl (j + al)) (fun j => vl (j + al)) (fun j => gl (j + al)) (fun j => wl (j + al))) (S.misT nl (fun j => vl (j + al)) (fun j => gl (j + al)) (fun j => wl (j + al)))) := by
  have hk : S.tskS nl (fun j => tl (j + al)) (fun j => vl (j + al)) (fun j => gl (j + al)) (fun j => wl (j + al)) = 0 → 1 ≤ nl ∧ S.okT nl (fun j => vl (j + al)) (fun j => gl (j + al)) (fun j => wl (j + al)) = true := tskS_ok
  have hd : S.okT nl (fun j => vl (j + al)) (fun j => gl (j + al)) (fun j => wl (j + al)) = true → ∀ j, j < nl → wl (j + al) ≤ 1000000 := fun h j hj => by
    have hh : 1 ≤ vl (j + al) ∧ vl (j + al) ≤ 1000000 ∧ 1 ≤ gl (j + al) ∧ gl (j + al) ≤ vl (j + al) ∧ gl (j + al) ≤ wl (j + al) ∧ wl (j + al) ≤ vl (j + al) := (okT_at h).2 j hj
    omega
  have h8 : S.okT nl (fun j => vl (j + al)) (fun j => gl (j + al)) (fun j => wl (j + al)) = true → nl ≤ 8 := fun h => (okT_at h).1
  unfold p21
  unfold S.misS
  generalize S.tskS nl (fun j => tl (j + al)) (fun j => vl (j + al)) (fun j => gl (j + al)) (fun j => wl (j + al)) = e at *
  generalize S.okT nl (fun j => vl (j + al)) (fun j => gl (j + al)) (fun j => wl (j + al)) = o at *
  generalize S.misT nl (fun j => vl (j + al)) (fun j => gl (j + al)) (fun j => wl (j + al)) = r at *
  by_cases he : e = 0
  · obtain ⟨hn, ho⟩ := hk he
    have h9 := h8 ho
    have hd2 := hd ho
    clear h8 hd
    subst he
    subst ho
    by_cases hi : 0 ≤ (0 : Int) ∧ (0 : Int) < nl
    · clear hd2
      clear hk
      repeat' first
        | with_reducible refine goes_if (fun h => ?_) (fun h => ?_) <;> (try simp only [lim64, imp_false, decide_eq_true_eq, decide_eq_false_iff_not, Int.toNat_natCast, toNat_pred, toNat_succ, Option.getD_some, Option.getD_none, Bool.not_eq_true', Bool.not_eq_false', Bool.and_eq_true, Bool.or_eq_true, Bool.and_eq_false_iff, Bool.or_eq_false_iff, bne_iff_ne, beq_iff_eq, bne_eq_false_iff_eq, beq_eq_false_iff_ne, ne_eq, not_and, Int.not_le, Int.not_lt, ge_iff_le, gt_iff_lt, Nat.not_lt, Nat.not_le, Bool.not_eq_true, Bool.not_eq_false, Bool.true_eq_false, Bool.false_eq_true, not_false_eq_true, not_true_eq_false, true_and, and_true, and_self] at h)
        | exact goes_none.mpr (by omega)
      all_goals first | (exfalso; omega) | (refine goes_inr.mpr ?_; (repeat' split) <;> first | rfl | (exfalso; omega) | (exact (decide_eq_true (by omega)).symm) | (exact (decide_eq_false (by omega)).symm) | simp_all)
    · clear hd2 hk
      repeat' first
        | with_reducible refine goes_if (fun h => ?_) (fun h => ?_) <;> (try simp only [lim64, imp_false, decide_eq_true_eq, decide_eq_false_iff_not, Int.toNat_natCast, toNat_pred, toNat_succ, Option.getD_some, Option.getD_none, Bool.not_eq_true', Bool.not_eq_false', Bool.and_eq_true, Bool.or_eq_true, Bool.and_eq_false_iff, Bool.or_eq_false_iff, bne_iff_ne, beq_iff_eq, bne_eq_false_iff_eq, beq_eq_false_iff_ne, ne_eq, not_and, Int.not_le, Int.not_lt, ge_iff_le, gt_iff_lt, Nat.not_lt, Nat.not_le, Bool.not_eq_true, Bool.not_eq_false, Bool.true_eq_false, Bool.false_eq_true, not_false_eq_true, not_true_eq_false, true_and, and_true, and_self] at h)
        | exact goes_none.mpr (by omega)
      all_goals first | (exfalso; omega) | (refine goes_inr.mpr ?_; (repeat' split) <;> first | rfl | (exfalso; omega) | (exact (decide_eq_true (by omega)).symm) | (exact (decide_eq_false (by omega)).symm) | simp_all)
  · clear hk hd h8
    repeat' first
      | with_reducible refine goes_if (fun h => ?_) (fun h => ?_) <;> (try simp only [lim64, imp_false, decide_eq_true_eq, decide_eq_false_iff_not, Int.toNat_natCast, toNat_pred, toNat_succ, Option.getD_some, Option.getD_none, Bool.not_eq_true', Bool.not_eq_false', Bool.and_eq_true, Bool.or_eq_true, Bool.and_eq_false_iff, Bool.or_eq_false_iff, bne_iff_ne, beq_iff_eq, bne_eq_false_iff_eq, beq_eq_false_iff_ne, ne_eq, not_and, Int.not_le, Int.not_lt, ge_iff_le, gt_iff_lt, Nat.not_lt, Nat.not_le, Bool.not_eq_true, Bool.not_eq_false, Bool.true_eq_false, Bool.false_eq_true, not_false_eq_true, not_true_eq_false] at h)
      | exact goes_none.mpr (by omega)
    all_goals first | (exfalso; omega) | (refine goes_inr.mpr ?_; (repeat' split) <;> first | rfl | (exfalso; omega) | (exact (decide_eq_true (by omega)).symm) | (exact (decide_eq_false (by omega)).symm) | simp_all)

theorem k21_ok : k21.ok Try.prog := by
  intro x hx
  obtain ⟨⟨al, nl, ml, tl, vl, gl, wl, _⟩, _⟩ := x
  obtain ⟨h1, h2⟩ := a21 al nl ml tl vl gl wl (s21 al nl ml tl vl gl wl (of_dec hx rfl))
  exact ⟨⟨400, (by decide : 1 + 1 + 0 ≤ 400), h1⟩, h2⟩
abbrev St19 := Empty
abbrev Rt19 := Bool
noncomputable def V19 (al nl ml : Nat) (tl : Nat → ByteArray) (vl : Nat → Int) (gl : Nat → Int) (wl : Nat → Int) (ci : Int) (cb : Int) (r : Rt19) : PV := PV.bool r
noncomputable def N19 (al nl ml : Nat) (tl : Nat → ByteArray) (vl : Nat → Int) (gl : Nat → Int) (wl : Nat → Int) (ci : Int) (cb : Int) (r : Rt19) : List Blk := []
noncomputable def I19 (al nl ml : Nat) (tl : Nat → ByteArray) (vl : Nat → Int) (gl : Nat → Int) (wl : Nat → Int) (ci : Int) (cb : Int) : St19 → Hd := fun s => s.elim
noncomputable def q19 (al nl ml : Nat) (tl : Nat → ByteArray) (vl : Nat → Int) (gl : Nat → Int) (wl : Nat → Int) (ci : Int) (cb : Int) : St19 → Option (St19 ⊕ Rt19) := fun s => s.elim
noncomputable def p19 (al nl ml : Nat) (tl : Nat → ByteArray) (vl : Nat → Int) (gl : Nat → Int) (wl : Nat → Int) (ci : Int) (cb : Int) : Option (St19 ⊕ Rt19) := bif (decide (al + nl ≤ ml))
 then (bif ((S.tskS nl (fun (j : Nat) => tl (j + al)) (fun (j : Nat) => vl (j + al)) (fun (j : Nat) => gl (j + al))
 fun (j : Nat) => wl (j + al)) !=
 (0 : Int))
 then (bif ((S.tskS nl (fun (j : Nat) => tl (j + al)) (fun (j : Nat) => vl (j + al)) (fun (j : Nat) => gl (j + al))
 fun (j : Nat) => wl (j + al)) ==
 (0 : Int))
 then (bif (decide ((0 : Int) ≤ ci ∧ ci < (↑nl : Int)))
 then (bif (decide (Int.toNat ci + al < ml))
 then (bif (decide (cb ≥ (1 : Int)))
 then (bif (decide (cb ≤ wl (Int.toNat ci + al)))
 then (bif (decide
 (al + nl ≤ ml ∧
 ((0 : Int) ≤ ci ∧ ci < (↑nl : Int)) ∧
 ((0 : Int) ≤ cb ∧ cb ≤ (1000000 : Int)) ∧
 (S.okT nl (fun (j : Nat) => vl (j + al)) (fun (j : Nat) => gl (j + al)) fun (j : Nat) => wl (j + al)) =
 true))
 then (bif (decide (S.dem (fun (j : Nat) => vl (j + al)) (fun (j : Nat) => gl (j + al)) (Int.toNat ci) cb ≤ cb))
 then (some (.inr (true)))
 else (some (.inr (false))))
 else (none))
 else (some (.inr (false))))
 else (some (.inr (false))))
 else (none))
 else (none))
 else (some (.inr (false))))
 else (bif (lim IntKind.i64 ((↑nl : Int) - (1 : Int)))
 then (bif (decide (ci ≥ (0 : Int)))
 then (bif (decide (ci ≤ (↑nl : Int) - (1 : Int)))
 then (bif (decide ((0 : Int) ≤ ci ∧ ci < (↑nl : Int)))
 then (bif (decide (Int.toNat ci + al < ml))
 then (bif (decide (cb ≥ (1 : Int)))
 then (bif (decide (cb ≤ wl (Int.toNat ci + al)))
 then (bif (decide
 (al + nl ≤ ml ∧
 ((0 : Int) ≤ ci ∧ ci < (↑nl : Int)) ∧
 ((0 : Int) ≤ cb ∧ cb ≤ (1000000 : Int)) ∧
 (S.okT nl (fun (j : Nat) => vl (j + al)) (fun (j : Nat) => gl (j + al)) fun (j : Nat) => wl (j + al)) =
 true))
 then (bif (decide (S.dem (fun (j : Nat) => vl (j + al)) (fun (j : Nat) => gl (j + al)) (Int.toNat ci) cb ≤ cb))
 then (some (.inr (true)))
 else (some (.inr (false))))
 else (none))
 else (some (.inr (false))))
 else (some (.inr (false))))
 else (none))
 else (none))
 else (some (.inr (false))))
 else (some (.inr (false))))
 else (none)))
 else (none)
noncomputable def Te19 (test : Bool → Prop → Prop → Prop) (Kst : KS) (Kret : KR) (al nl ml : Nat) (tl : Nat → ByteArray) (vl : Nat → Int) (gl : Nat → Int) (wl : Nat → Int) (ci : Int) (cb : Int) : Prop :=
  test (decide (al + nl ≤ ml))
 (test ((S.tskS nl (fun (j : Nat) => tl (j + al)) (fun (j : Nat) => vl (j + al)) (fun (j : Nat) => gl (j + al))
 fun (j : Nat) => wl (j + al)) !=
 (0 : Int))
 (test ((S.tskS nl (fun (j : Nat) => tl (j + al)) (fun (j : Nat) => vl (j + al)) (fun (j : Nat) => gl (j + al))
 fun (j : Nat) => wl (j + al)) ==
 (0 : Int))
 (test (decide ((0 : Int) ≤ ci ∧ ci < (↑nl : Int)))
 (test (decide (Int.toNat ci + al < ml))
 (test (decide (cb ≥ (1 : Int)))
 (test (decide (cb ≤ wl (Int.toNat ci + al)))
 (test (decide
 (al + nl ≤ ml ∧
 ((0 : Int) ≤ ci ∧ ci < (↑nl : Int)) ∧
 ((0 : Int) ≤ cb ∧ cb ≤ (1000000 : Int)) ∧
 (S.okT nl (fun (j : Nat) => vl (j + al)) (fun (j : Nat) => gl (j + al)) fun (j : Nat) => wl (j + al)) =
 true))
 (test (decide (S.dem (fun (j : Nat) => vl (j + al)) (fun (j : Nat) => gl (j + al)) (Int.toNat ci) cb ≤ cb))
 (Kret (PV.tf true) ([[(0, false,
 Blk.cols ml
 [Col.str tl, Col.int IntKind.i64 vl, Col.int IntKind.i64 gl,
 Col.int IntKind.i64 wl])]]) (3))
 (Kret (PV.tf false) ([[(0, false,
 Blk.cols ml
 [Col.str tl, Col.int IntKind.i64 vl, Col.int IntKind.i64 gl,
 Col.int IntKind.i64 wl])]]) (3)))
 (False))
 (Kret (PV.tf false) ([[(0, false,
 Blk.cols ml
 [Col.str tl, Col.int IntKind.i64 vl, Col.int IntKind.i64 gl,
 Col.int IntKind.i64 wl])]]) (2)))
 (Kret (PV.tf false) ([[(0, false,
 Blk.cols ml
 [Col.str tl, Col.int IntKind.i64 vl, Col.int IntKind.i64 gl,
 Col.int IntKind.i64 wl])]]) (2)))
 (False))
 (False))
 (Kret (PV.tf false) ([[(0, false,
 Blk.cols ml
 [Col.str tl, Col.int IntKind.i64 vl, Col.int IntKind.i64 gl,
 Col.int IntKind.i64 wl])]]) (2)))
 (test (lim IntKind.i64 ((↑nl : Int) - (1 : Int)))
 (test (decide (ci ≥ (0 : Int)))
 (test (decide (ci ≤ (↑nl : Int) - (1 : Int)))
 (test (true)
 (test (decide ((0 : Int) ≤ ci ∧ ci < (↑nl : Int)))
 (test (decide (Int.toNat ci + al < ml))
 (test (decide (cb ≥ (1 : Int)))
 (test (decide (cb ≤ wl (Int.toNat ci + al)))
 (test (decide
 (al + nl ≤ ml ∧
 ((0 : Int) ≤ ci ∧ ci < (↑nl : Int)) ∧
 ((0 : Int) ≤ cb ∧ cb ≤ (1000000 : Int)) ∧
 (S.okT nl (fun (j : Nat) => vl (j + al)) (fun (j : Nat) => gl (j + al)) fun (j : Nat) => wl (j + al)) =
 true))
 (test (decide (S.dem (fun (j : Nat) => vl (j + al)) (fun (j : Nat) => gl (j + al)) (Int.toNat ci) cb ≤ cb))
 (Kret (PV.tf true) ([[(0, false,
 Blk.cols ml
 [Col.str tl, Col.int IntKind.i64 vl, Col.int IntKind.i64 gl,
 Col.int IntKind.i64 wl])]]) (3))
 (Kret (PV.tf false) ([[(0, false,
 Blk.cols ml
 [Col.str tl, Col.int IntKind.i64 vl, Col.int IntKind.i64 gl,
 Col.int IntKind.i64 wl])]]) (3)))
 (False))
 (Kret (PV.tf false) ([[(0, false,
 Blk.cols ml
 [Col.str tl, Col.int IntKind.i64 vl, Col.int IntKind.i64 gl,
 Col.int IntKind.i64 wl])]]) (2)))
 (Kret (PV.tf false) ([[(0, false,
 Blk.cols ml
 [Col.str tl, Col.int IntKind.i64 vl, Col.int IntKind.i64 gl,
 Col.int IntKind.i64 wl])]]) (2)))
 (False))
 (False))
 (Kret (PV.tf false) ([[(0, false,
 Blk.cols ml
 [Col.str tl, Col.int IntKind.i64 vl, Col.int IntKind.i64 gl,
 Col.int IntKind.i64 wl])]]) (2)))
 (test (false)
 (test (decide ((0 : Int) ≤ ci ∧ ci < (↑nl : Int)))
 (test (decide (Int.toNat ci + al < ml))
 (test (decide (cb ≥ (1 : Int)))
 (test (decide (cb ≤ wl (Int.toNat ci + al)))
 (test (decide
 (al + nl ≤ ml ∧
 ((0 : Int) ≤ ci ∧ ci < (↑nl : Int)) ∧
 ((0 : Int) ≤ cb ∧ cb ≤ (1000000 : Int)) ∧
 (S.okT nl (fun (j : Nat) => vl (j + al)) (fun (j : Nat) => gl (j + al)) fun (j : Nat) => wl (j + al)) =
 true))
 (test (decide (S.dem (fun (j : Nat) => vl (j + al)) (fun (j : Nat) => gl (j + al)) (Int.toNat ci) cb ≤ cb))
 (Kret (PV.tf true) ([[(0, false,
 Blk.cols ml
 [Col.str tl, Col.int IntKind.i64 vl, Col.int IntKind.i64 gl,
 Col.int IntKind.i64 wl])]]) (3))
 (Kret (PV.tf false) ([[(0, false,
 Blk.cols ml
 [Col.str tl, Col.int IntKind.i64 vl, Col.int IntKind.i64 gl,
 Col.int IntKind.i64 wl])]]) (3)))
 (False))
 (Kret (PV.tf false) ([[(0, false,
 Blk.cols ml
 [Col.str tl, Col.int IntKind.i64 vl, Col.int IntKind.i64 gl,
 Col.int IntKind.i64 wl])]]) (2)))
 (Kret (PV.tf false) ([[(0, false,
 Blk.cols ml
 [Col.str tl, Col.int IntKind.i64 vl, Col.int IntKind.i64 gl,
 Col.int IntKind.i64 wl])]]) (2)))
 (False))
 (False))
 (Kret (PV.tf false) ([[(0, false,
 Blk.cols ml
 [Col.str tl, Col.int IntKind.i64 vl, Col.int IntKind.i64 gl,
 Col.int IntKind.i64 wl])]]) (2))))
 (test (false)
 (test (decide ((0 : Int) ≤ ci ∧ ci < (↑nl : Int)))
 (test (decide (Int.toNat ci + al < ml))
 (test (decide (cb ≥ (1 : Int)))
 (test (decide (cb ≤ wl (Int.toNat ci + al)))
 (test (decide
 (al + nl ≤ ml ∧
 ((0 : Int) ≤ ci ∧ ci < (↑nl : Int)) ∧
 ((0 : Int) ≤ cb ∧ cb ≤ (1000000 : Int)) ∧
 (S.okT nl (fun (j : Nat) => vl (j + al)) (fun (j : Nat) => gl (j + al)) fun (j : Nat) => wl (j + al)) =
 true))
 (test (decide (S.dem (fun (j : Nat) => vl (j + al)) (fun (j : Nat) => gl (j + al)) (Int.toNat ci) cb ≤ cb))
 (Kret (PV.tf true) ([[(0, false,
 Blk.cols ml
 [Col.str tl, Col.int IntKind.i64 vl, Col.int IntKind.i64 gl,
 Col.int IntKind.i64 wl])]]) (3))
 (Kret (PV.tf false) ([[(0, false,
 Blk.cols ml
 [Col.str tl, Col.int IntKind.i64 vl, Col.int IntKind.i64 gl,
 Col.int IntKind.i64 wl])]]) (3)))
 (False))
 (Kret (PV.tf false) ([[(0, false,
 Blk.cols ml
 [Col.str tl, Col.int IntKind.i64 vl, Col.int IntKind.i64 gl,
 Col.int IntKind.i64 wl])]]) (2)))
 (Kret (PV.tf false) ([[(0, false,
 Blk.cols ml
 [Col.str tl, Col.int IntKind.i64 vl, Col.int IntKind.i64 gl,
 Col.int IntKind.i64 wl])]]) (2)))
 (False))
 (False))
 (Kret (PV.tf false) ([[(0, false,
 Blk.cols ml
 [Col.str tl, Col.int IntKind.i64 vl, Col.int IntKind.i64 gl,
 Col.int IntKind.i64 wl])]]) (2))))
 (False)))
 (False)
set_option maxRecDepth 100000 in
theorem te19 (test : Bool → Prop → Prop → Prop) (Kst : KS) (Kret : KR) (al nl ml : Nat) (tl : Nat → ByteArray) (vl : Nat → Int) (gl : Nat → Int) (wl : Nat → Int) (ci : Int) (cb : Int) : run test Try.env true (xM test) true 400 ⟨19, [.cd (mkFn Try.f19).body], argT 0 [.loose ⟨0, 4, al, 0⟩ nl, .int .i64 ci, .int .i64 cb], [[], [(0, (false, .cols ml [.str tl, .int .i64 vl, .int .i64 gl, .int .i64 wl]))]], 1⟩ (proj 1 [] Kst Kret) =
  Te19 test Kst Kret al nl ml tl vl gl wl ci cb := by kernel_rfl
attribute [local irreducible] Int.subNatNat in
set_option maxRecDepth 100000 in
theorem be19 (al nl ml : Nat) (tl : Nat → ByteArray) (vl : Nat → Int) (gl : Nat → Int) (wl : Nat → Int) (ci : Int) (cb : Int) (Kst : KS) (Kret : KR) (x : St19 ⊕ Rt19) (hS : HS 1 400 ((I19 al nl ml tl vl gl wl ci cb)) Kst x) (hR : HR 1 400 ((V19 al nl ml tl vl gl wl ci cb)) (fun r => [newL (1 + 1) ((N19 al nl ml tl vl gl wl ci cb) r) ++ [(0, (false, .cols ml [.str tl, .int .i64 vl, .int .i64 gl, .int .i64 wl]))]]) Kret x) (h : (bif (decide (al + nl ≤ ml))
 then (bif ((S.tskS nl (fun (j : Nat) => tl (j + al)) (fun (j : Nat) => vl (j + al)) (fun (j : Nat) => gl (j + al))
 fun (j : Nat) => wl (j + al)) !=
 (0 : Int))
 then (bif ((S.tskS nl (fun (j : Nat) => tl (j + al)) (fun (j : Nat) => vl (j + al)) (fun (j : Nat) => gl (j + al))
 fun (j : Nat) => wl (j + al)) ==
 (0 : Int))
 then (bif (decide ((0 : Int) ≤ ci ∧ ci < (↑nl : Int)))
 then (bif (decide (Int.toNat ci + al < ml))
 then (bif (decide (cb ≥ (1 : Int)))
 then (bif (decide (cb ≤ wl (Int.toNat ci + al)))
 then (bif (decide
 (al + nl ≤ ml ∧
 ((0 : Int) ≤ ci ∧ ci < (↑nl : Int)) ∧
 ((0 : Int) ≤ cb ∧ cb ≤ (1000000 : Int)) ∧
 (S.okT nl (fun (j : Nat) => vl (j + al)) (fun (j : Nat) => gl (j + al)) fun (j : Nat) => wl (j + al)) =
 true))
 then (bif (decide (S.dem (fun (j : Nat) => vl (j + al)) (fun (j : Nat) => gl (j + al)) (Int.toNat ci) cb ≤ cb))
 then (some (.inr (true)))
 else (some (.inr (false))))
 else (none))
 else (some (.inr (false))))
 else (some (.inr (false))))
 else (none))
 else (none))
 else (some (.inr (false))))
 else (bif (lim IntKind.i64 ((↑nl : Int) - (1 : Int)))
 then (bif (decide (ci ≥ (0 : Int)))
 then (bif (decide (ci ≤ (↑nl : Int) - (1 : Int)))
 then (bif (decide ((0 : Int) ≤ ci ∧ ci < (↑nl : Int)))
 then (bif (decide (Int.toNat ci + al < ml))
 then (bif (decide (cb ≥ (1 : Int)))
 then (bif (decide (cb ≤ wl (Int.toNat ci + al)))
 then (bif (decide
 (al + nl ≤ ml ∧
 ((0 : Int) ≤ ci ∧ ci < (↑nl : Int)) ∧
 ((0 : Int) ≤ cb ∧ cb ≤ (1000000 : Int)) ∧
 (S.okT nl (fun (j : Nat) => vl (j + al)) (fun (j : Nat) => gl (j + al)) fun (j : Nat) => wl (j + al)) =
 true))
 then (bif (decide (S.dem (fun (j : Nat) => vl (j + al)) (fun (j : Nat) => gl (j + al)) (Int.toNat ci) cb ≤ cb))
 then (some (.inr (true)))
 else (some (.inr (false))))
 else (none))
 else (some (.inr (false))))
 else (some (.inr (false))))
 else (none))
 else (none))
 else (some (.inr (false))))
 else (some (.inr (false))))
 else (none)))
 else (none) : Option (St19 ⊕ Rt19)) = some x) : Te19 cond Kst Kret al nl ml tl vl gl wl ci cb := by
  unfold Te19
  exact bif_split h
   (fun c0 h => bif_split h
   (fun c1 h => bif_split h
   (fun c2 h => bif_split h
   (fun c3 h => bif_split h
   (fun c4 h => bif_split h
   (fun c5 h => bif_split h
   (fun c6 h => bif_split h
   (fun c7 h => bif_split h
   (fun c8 h => ret_at hR _ h (fun n => n) rfl rfl rfl (rn_bool_tf rfl) rfl (entl_bor (use_lo rfl) rfl rfl entl_nil))
   (fun c8 h => ret_at hR _ h (fun n => n) rfl rfl rfl (rn_bool_tf rfl) rfl (entl_bor (use_lo rfl) rfl rfl entl_nil)))
   (fun c7 h => no_some h))
   (fun c6 h => ret_at hR _ h (fun n => n) rfl rfl rfl (rn_bool_tf rfl) rfl (entl_bor (use_lo rfl) rfl rfl entl_nil)))
   (fun c5 h => ret_at hR _ h (fun n => n) rfl rfl rfl (rn_bool_tf rfl) rfl (entl_bor (use_lo rfl) rfl rfl entl_nil)))
   (fun c4 h => no_some h))
   (fun c3 h => no_some h))
   (fun c2 h => ret_at hR _ h (fun n => n) rfl rfl rfl (rn_bool_tf rfl) rfl (entl_bor (use_lo rfl) rfl rfl entl_nil)))
   (fun c1 h => bif_split h
   (fun c2 h => bif_split h
   (fun c3 h => bif_split h
   (fun c4 h => cond_yes rfl (bif_split h
   (fun c5 h => bif_split h
   (fun c6 h => bif_split h
   (fun c7 h => bif_split h
   (fun c8 h => bif_split h
   (fun c9 h => bif_split h
   (fun c10 h => ret_at hR _ h (fun n => n) rfl rfl rfl (rn_bool_tf rfl) rfl (entl_bor (use_lo rfl) rfl rfl entl_nil))
   (fun c10 h => ret_at hR _ h (fun n => n) rfl rfl rfl (rn_bool_tf rfl) rfl (entl_bor (use_lo rfl) rfl rfl entl_nil)))
   (fun c9 h => no_some h))
   (fun c8 h => ret_at hR _ h (fun n => n) rfl rfl rfl (rn_bool_tf rfl) rfl (entl_bor (use_lo rfl) rfl rfl entl_nil)))
   (fun c7 h => ret_at hR _ h (fun n => n) rfl rfl rfl (rn_bool_tf rfl) rfl (entl_bor (use_lo rfl) rfl rfl entl_nil)))
   (fun c6 h => no_some h))
   (fun c5 h => no_some h)))
   (fun c4 h => cond_no rfl (ret_at hR _ h (fun n => n) rfl rfl rfl (rn_bool_tf rfl) rfl (entl_bor (use_lo rfl) rfl rfl entl_nil))))
   (fun c3 h => cond_no rfl (ret_at hR _ h (fun n => n) rfl rfl rfl (rn_bool_tf rfl) rfl (entl_bor (use_lo rfl) rfl rfl entl_nil))))
   (fun c2 h => no_some h)))
   (fun c0 h => no_some h)
theorem a19 (al nl ml : Nat) (tl : Nat → ByteArray) (vl : Nat → Int) (gl : Nat → Int) (wl : Nat → Int) (ci : Int) (cb : Int) {r : Rt19} (h : Goes ((q19 al nl ml tl vl gl wl ci cb)) ((p19 al nl ml tl vl gl wl ci cb)) r) : CallR Try.prog 19 [.loose ⟨0, 4, al, 0⟩ nl, .int .i64 ci, .int .i64 cb] [[(0, (false, .cols ml [.str tl, .int .i64 vl, .int .i64 gl, .int .i64 wl]))]] 1 ((V19 al nl ml tl vl gl wl ci cb) r) ((fun r => [newL (1 + 1) ((N19 al nl ml tl vl gl wl ci cb) r) ++ [(0, (false, .cols ml [.str tl, .int .i64 vl, .int .i64 gl, .int .i64 wl]))]]) r) 400 ∧ ∃ F, Try.prog.funcs[19]? = some F ∧ F.body.isSome = true ∧ (F.name == "runtime.NumGoroutine") = false := by
  refine dec_calls (sy := true) (f := 19) (lo := 1) (hi := 400) (H := [[(0, (false, .cols ml [.str tl, .int .i64 vl, .int .i64 gl, .int .i64 wl]))]]) (args := [.loose ⟨0, 4, al, 0⟩ nl, .int .i64 ci, .int .i64 cb]) Try.envOk Try.mixed xM_ok ((I19 al nl ml tl vl gl wl ci cb)) ((V19 al nl ml tl vl gl wl ci cb)) (fun r => [newL (1 + 1) ((N19 al nl ml tl vl gl wl ci cb) r) ++ [(0, (false, .cols ml [.str tl, .int .i64 vl, .int .i64 gl, .int .i64 wl]))]]) (fn := mkFn Try.f19) (ts := []) (n := 400) rfl (by decide) (by simp) (names_of rfl) ?_ ?_ ?_ h
  · intro s; exact s.elim
  · intro Kst Kret x hS hR h
    exact Holds.eq (te19 cond Kst Kret al nl ml tl vl gl wl ci cb) (be19 al nl ml tl vl gl wl ci cb Kst Kret x hS hR h)
  · intro Kst Kret x hS hR s h; exact s.elim
noncomputable def k19 : Con := ⟨19, [.one (.list [.str, .int .i64, .int .i64, .int .i64]), .one (.plain (.int .i64)), .one (.plain (.int .i64))], fun (x : (Nat × Nat × Nat × (Nat → ByteArray) × (Nat → Int) × (Nat → Int) × (Nat → Int) × Unit) × Int × Int × Unit) => (fun (al nl ml : Nat) (tl : Nat → ByteArray) (vl : Nat → Int) (gl : Nat → Int) (wl : Nat → Int) (ci : Int) (cb : Int) => decide (al + nl ≤ ml)) x.1.1 x.1.2.1 x.1.2.2.1 x.1.2.2.2.1 x.1.2.2.2.2.1 x.1.2.2.2.2.2.1 x.1.2.2.2.2.2.2.1 x.2.1 x.2.2.1, fun (x : (Nat × Nat × Nat × (Nat → ByteArray) × (Nat → Int) × (Nat → Int) × (Nat → Int) × Unit) × Int × Int × Unit) => (fun (al nl ml : Nat) (tl : Nat → ByteArray) (vl : Nat → Int) (gl : Nat → Int) (wl : Nat → Int) (ci : Int) (cb : Int) => (V19 al nl ml tl vl gl wl ci cb) (S.chkS (S.tskS nl (fun j => tl (j + al)) (fun j => vl (j + al)) (fun j => gl (j + al)) (fun j => wl (j + al))) nl ci cb (wl (ci.toNat + al)) (S.dem (fun j => vl (j + al)) (fun j => gl (j + al)) ci.toNat cb))) x.1.1 x.1.2.1 x.1.2.2.1 x.1.2.2.2.1 x.1.2.2.2.2.1 x.1.2.2.2.2.2.1 x.1.2.2.2.2.2.2.1 x.2.1 x.2.2.1, fun (x : (Nat × Nat × Nat × (Nat → ByteArray) × (Nat → Int) × (Nat → Int) × (Nat → Int) × Unit) × Int × Int × Unit) => (fun (al nl ml : Nat) (tl : Nat → ByteArray) (vl : Nat → Int) (gl : Nat → Int) (wl : Nat → Int) (ci : Int) (cb : Int) => (N19 al nl ml tl vl gl wl ci cb) (S.chkS (S.tskS nl (fun j => tl (j + al)) (fun j => vl (j + al)) (fun j => gl (j + al)) (fun j => wl (j + al))) nl ci cb (wl (ci.toNat + al)) (S.dem (fun j => vl (j + al)) (fun j => gl (j + al)) ci.toNat cb))) x.1.1 x.1.2.1 x.1.2.2.1 x.1.2.2.2.1 x.1.2.2.2.2.1 x.1.2.2.2.2.2.1 x.1.2.2.2.2.2.2.1 x.2.1 x.2.2.1, fun _ _ => .dead⟩
theorem s19 (al nl ml : Nat) (tl : Nat → ByteArray) (vl : Nat → Int) (gl : Nat → Int) (wl : Nat → Int) (ci : Int) (cb : Int) (hp : al + nl ≤ ml) : Goes ((q19 al nl ml tl vl gl wl ci cb)) ((p19 al nl ml tl vl gl wl ci cb)) (S.chkS (S.tskS nl (fun j => tl (j + al)) (fun j => vl (j + al)) (fun j => gl (j + al)) (fun j => wl (j + al))) nl ci cb (wl (ci.toNat + al)) (S.dem (fun j => vl (j + al)) (fun j => gl (j + al)) ci.toNat cb)) := by
  have hk : S.tskS nl (fun j => tl (j + al)) (fun j => vl (j + al)) (fun j => gl (j + al)) (fun j => wl (j + al)) = 0 → 1 ≤ nl ∧ S.okT nl (fun j => vl (j + al)) (fun j => gl (j + al)) (fun j => wl (j + al)) = true := tskS_ok
  have hd : S.okT nl (fun j => vl (j + al)) (fun j => gl (j + al)) (fun j => wl (j + al)) = true → ∀ j, j < nl → wl (j + al) ≤ 1000000 := fun h j hj => by
    have hh : 1 ≤ vl (j + al) ∧ vl (j + al) ≤ 1000000 ∧ 1 ≤ gl (j + al) ∧ gl (j + al) ≤ vl (j + al) ∧ gl (j + al) ≤ wl (j + al) ∧ wl (j + al) ≤ vl (j + al) := (okT_at h).2 j hj
    omega
  have h8 : S.okT nl (fun j => vl (j + al)) (fun j => gl (j + al)) (fun j => wl (j + al)) = true → nl ≤ 8 := fun h => (okT_at h).1
  unfold p19
  unfold S.chkS
  generalize S.tskS nl (fun j => tl (j + al)) (fun j => vl (j + al)) (fun j => gl (j + al)) (fun j => wl (j + al)) = e at *
  generalize S.okT nl (fun j => vl (j + al)) (fun j => gl (j + al)) (fun j => wl (j + al)) = o at *
  generalize S.dem (fun j => vl (j + al)) (fun j => gl (j + al)) ci.toNat cb = r at *
  by_cases he : e = 0
  · obtain ⟨hn, ho⟩ := hk he
    have h9 := h8 ho
    have hd2 := hd ho
    clear h8 hd
    subst he
    subst ho
    by_cases hi : 0 ≤ ci ∧ ci < nl
    · have hd3 := hd2 ci.toNat (by omega)
      clear hk
      repeat' first
        | with_reducible refine goes_if (fun h => ?_) (fun h => ?_) <;> (try simp only [lim64, imp_false, decide_eq_true_eq, decide_eq_false_iff_not, Int.toNat_natCast, toNat_pred, toNat_succ, Option.getD_some, Option.getD_none, Bool.not_eq_true', Bool.not_eq_false', Bool.and_eq_true, Bool.or_eq_true, Bool.and_eq_false_iff, Bool.or_eq_false_iff, bne_iff_ne, beq_iff_eq, bne_eq_false_iff_eq, beq_eq_false_iff_ne, ne_eq, not_and, Int.not_le, Int.not_lt, ge_iff_le, gt_iff_lt, Nat.not_lt, Nat.not_le, Bool.not_eq_true, Bool.not_eq_false, Bool.true_eq_false, Bool.false_eq_true, not_false_eq_true, not_true_eq_false, true_and, and_true, and_self] at h)
        | exact goes_none.mpr (by omega)
      all_goals first | (exfalso; omega) | (refine goes_inr.mpr ?_; (repeat' split) <;> first | rfl | (exfalso; omega) | (exact (decide_eq_true (by omega)).symm) | (exact (decide_eq_false (by omega)).symm) | simp_all)
    · clear hd2 hk
      repeat' first
        | with_reducible refine goes_if (fun h => ?_) (fun h => ?_) <;> (try simp only [lim64, imp_false, decide_eq_true_eq, decide_eq_false_iff_not, Int.toNat_natCast, toNat_pred, toNat_succ, Option.getD_some, Option.getD_none, Bool.not_eq_true', Bool.not_eq_false', Bool.and_eq_true, Bool.or_eq_true, Bool.and_eq_false_iff, Bool.or_eq_false_iff, bne_iff_ne, beq_iff_eq, bne_eq_false_iff_eq, beq_eq_false_iff_ne, ne_eq, not_and, Int.not_le, Int.not_lt, ge_iff_le, gt_iff_lt, Nat.not_lt, Nat.not_le, Bool.not_eq_true, Bool.not_eq_false, Bool.true_eq_false, Bool.false_eq_true, not_false_eq_true, not_true_eq_false, true_and, and_true, and_self] at h)
        | exact goes_none.mpr (by omega)
      all_goals first | (exfalso; omega) | (refine goes_inr.mpr ?_; (repeat' split) <;> first | rfl | (exfalso; omega) | (exact (decide_eq_true (by omega)).symm) | (exact (decide_eq_false (by omega)).symm) | simp_all)
  · clear hk hd h8
    repeat' first
      | with_reducible refine goes_if (fun h => ?_) (fun h => ?_) <;> (try simp only [lim64, imp_false, decide_eq_true_eq, decide_eq_false_iff_not, Int.toNat_natCast, toNat_pred, toNat_succ, Option.getD_some, Option.getD_none, Bool.not_eq_true', Bool.not_eq_false', Bool.and_eq_true, Bool.or_eq_true, Bool.and_eq_false_iff, Bool.or_eq_false_iff, bne_iff_ne, beq_iff_eq, bne_eq_false_iff_eq, beq_eq_false_iff_ne, ne_eq, not_and, Int.not_le, Int.not_lt, ge_iff_le, gt_iff_lt, Nat.not_lt, Nat.not_le, Bool.not_eq_true, Bool.not_eq_false, Bool.true_eq_false, Bool.false_eq_true, not_false_eq_true, not_true_eq_false] at h)
      | exact goes_none.mpr (by omega)
    all_goals first | (exfalso; omega) | (refine goes_inr.mpr ?_; (repeat' split) <;> first | rfl | (exfalso; omega) | (exact (decide_eq_true (by omega)).symm) | (exact (decide_eq_false (by omega)).symm) | simp_all)

theorem k19_ok : k19.ok Try.prog := by
  intro x hx
  obtain ⟨⟨al, nl, ml, tl, vl, gl, wl, _⟩, ci, cb, _⟩ := x
  obtain ⟨h1, h2⟩ := a19 al nl ml tl vl gl wl ci cb (s19 al nl ml tl vl gl wl ci cb (of_dec hx rfl))
  exact ⟨⟨400, (by decide : 1 + 1 + 0 ≤ 400), h1⟩, h2⟩
abbrev St22 := Empty
abbrev Rt22 := Bool
noncomputable def V22 (al nl ml : Nat) (tl : Nat → ByteArray) (vl : Nat → Int) (gl : Nat → Int) (wl : Nat → Int) (ci : Int) (cb : Int) (r : Rt22) : PV := PV.bool r
noncomputable def N22 (al nl ml : Nat) (tl : Nat → ByteArray) (vl : Nat → Int) (gl : Nat → Int) (wl : Nat → Int) (ci : Int) (cb : Int) (r : Rt22) : List Blk := []
noncomputable def I22 (al nl ml : Nat) (tl : Nat → ByteArray) (vl : Nat → Int) (gl : Nat → Int) (wl : Nat → Int) (ci : Int) (cb : Int) : St22 → Hd := fun s => s.elim
noncomputable def q22 (al nl ml : Nat) (tl : Nat → ByteArray) (vl : Nat → Int) (gl : Nat → Int) (wl : Nat → Int) (ci : Int) (cb : Int) : St22 → Option (St22 ⊕ Rt22) := fun s => s.elim
noncomputable def p22 (al nl ml : Nat) (tl : Nat → ByteArray) (vl : Nat → Int) (gl : Nat → Int) (wl : Nat → Int) (ci : Int) (cb : Int) : Option (St22 ⊕ Rt22) := bif (decide (al + nl ≤ ml))
 then (bif ((S.tskS nl (fun (j : Nat) => tl (j + al)) (fun (j : Nat) => vl (j + al)) (fun (j : Nat) => gl (j + al))
 fun (j : Nat) => wl (j + al)) !=
 (0 : Int))
 then (some (.inr (false)))
 else (bif (decide (ci < (0 : Int)))
 then (some (.inr (false)))
 else (bif (decide (ci ≥ (↑nl : Int)))
 then (some (.inr (false)))
 else (bif (decide (cb ≥ (1 : Int)))
 then (bif (decide ((0 : Int) ≤ ci ∧ ci < (↑nl : Int)))
 then (bif (decide (Int.toNat ci + al < ml))
 then (bif (decide (cb ≤ wl (Int.toNat ci + al)))
 then (bif (decide
 (al + nl ≤ ml ∧
 ((0 : Int) ≤ ci ∧ ci < (↑nl : Int)) ∧
 ((0 : Int) ≤ cb ∧ cb ≤ (1000000 : Int)) ∧
 (S.okT nl (fun (j : Nat) => vl (j + al)) (fun (j : Nat) => gl (j + al)) fun (j : Nat) => wl (j + al)) =
 true))
 then (bif (decide (S.dem (fun (j : Nat) => vl (j + al)) (fun (j : Nat) => gl (j + al)) (Int.toNat ci) cb ≤ cb))
 then (some (.inr (true)))
 else (some (.inr (false))))
 else (none))
 else (some (.inr (false))))
 else (none))
 else (none))
 else (some (.inr (false)))))))
 else (none)
noncomputable def Te22 (test : Bool → Prop → Prop → Prop) (Kst : KS) (Kret : KR) (al nl ml : Nat) (tl : Nat → ByteArray) (vl : Nat → Int) (gl : Nat → Int) (wl : Nat → Int) (ci : Int) (cb : Int) : Prop :=
  test (decide (al + nl ≤ ml))
 (test ((S.tskS nl (fun (j : Nat) => tl (j + al)) (fun (j : Nat) => vl (j + al)) (fun (j : Nat) => gl (j + al))
 fun (j : Nat) => wl (j + al)) !=
 (0 : Int))
 (Kret (PV.tf false) ([[(0, false,
 Blk.cols ml
 [Col.str tl, Col.int IntKind.i64 vl, Col.int IntKind.i64 gl,
 Col.int IntKind.i64 wl])]]) (2))
 (test (decide (ci < (0 : Int)))
 (Kret (PV.tf false) ([[(0, false,
 Blk.cols ml
 [Col.str tl, Col.int IntKind.i64 vl, Col.int IntKind.i64 gl,
 Col.int IntKind.i64 wl])]]) (2))
 (test (decide (ci ≥ (↑nl : Int)))
 (Kret (PV.tf false) ([[(0, false,
 Blk.cols ml
 [Col.str tl, Col.int IntKind.i64 vl, Col.int IntKind.i64 gl,
 Col.int IntKind.i64 wl])]]) (2))
 (test (decide (cb ≥ (1 : Int)))
 (test (decide ((0 : Int) ≤ ci ∧ ci < (↑nl : Int)))
 (test (decide (Int.toNat ci + al < ml))
 (test (decide (cb ≤ wl (Int.toNat ci + al)))
 (test (decide
 (al + nl ≤ ml ∧
 ((0 : Int) ≤ ci ∧ ci < (↑nl : Int)) ∧
 ((0 : Int) ≤ cb ∧ cb ≤ (1000000 : Int)) ∧
 (S.okT nl (fun (j : Nat) => vl (j + al)) (fun (j : Nat) => gl (j + al)) fun (j : Nat) => wl (j + al)) =
 true))
 (test (decide (S.dem (fun (j : Nat) => vl (j + al)) (fun (j : Nat) => gl (j + al)) (Int.toNat ci) cb ≤ cb))
 (Kret (PV.tf true) ([[(0, false,
 Blk.cols ml
 [Col.str tl, Col.int IntKind.i64 vl, Col.int IntKind.i64 gl,
 Col.int IntKind.i64 wl])]]) (3))
 (Kret (PV.tf false) ([[(0, false,
 Blk.cols ml
 [Col.str tl, Col.int IntKind.i64 vl, Col.int IntKind.i64 gl,
 Col.int IntKind.i64 wl])]]) (3)))
 (False))
 (Kret (PV.tf false) ([[(0, false,
 Blk.cols ml
 [Col.str tl, Col.int IntKind.i64 vl, Col.int IntKind.i64 gl,
 Col.int IntKind.i64 wl])]]) (2)))
 (False))
 (False))
 (Kret (PV.tf false) ([[(0, false,
 Blk.cols ml
 [Col.str tl, Col.int IntKind.i64 vl, Col.int IntKind.i64 gl,
 Col.int IntKind.i64 wl])]]) (2))))))
 (False)
set_option maxRecDepth 100000 in
theorem te22 (test : Bool → Prop → Prop → Prop) (Kst : KS) (Kret : KR) (al nl ml : Nat) (tl : Nat → ByteArray) (vl : Nat → Int) (gl : Nat → Int) (wl : Nat → Int) (ci : Int) (cb : Int) : run test Try.env true (xM test) true 400 ⟨22, [.cd (mkFn Try.f22).body], argT 0 [.loose ⟨0, 4, al, 0⟩ nl, .int .i64 ci, .int .i64 cb], [[], [(0, (false, .cols ml [.str tl, .int .i64 vl, .int .i64 gl, .int .i64 wl]))]], 1⟩ (proj 1 [] Kst Kret) =
  Te22 test Kst Kret al nl ml tl vl gl wl ci cb := by kernel_rfl
attribute [local irreducible] Int.subNatNat in
set_option maxRecDepth 100000 in
theorem be22 (al nl ml : Nat) (tl : Nat → ByteArray) (vl : Nat → Int) (gl : Nat → Int) (wl : Nat → Int) (ci : Int) (cb : Int) (Kst : KS) (Kret : KR) (x : St22 ⊕ Rt22) (hS : HS 1 400 ((I22 al nl ml tl vl gl wl ci cb)) Kst x) (hR : HR 1 400 ((V22 al nl ml tl vl gl wl ci cb)) (fun r => [newL (1 + 1) ((N22 al nl ml tl vl gl wl ci cb) r) ++ [(0, (false, .cols ml [.str tl, .int .i64 vl, .int .i64 gl, .int .i64 wl]))]]) Kret x) (h : (bif (decide (al + nl ≤ ml))
 then (bif ((S.tskS nl (fun (j : Nat) => tl (j + al)) (fun (j : Nat) => vl (j + al)) (fun (j : Nat) => gl (j + al))
 fun (j : Nat) => wl (j + al)) !=
 (0 : Int))
 then (some (.inr (false)))
 else (bif (decide (ci < (0 : Int)))
 then (some (.inr (false)))
 else (bif (decide (ci ≥ (↑nl : Int)))
 then (some (.inr (false)))
 else (bif (decide (cb ≥ (1 : Int)))
 then (bif (decide ((0 : Int) ≤ ci ∧ ci < (↑nl : Int)))
 then (bif (decide (Int.toNat ci + al < ml))
 then (bif (decide (cb ≤ wl (Int.toNat ci + al)))
 then (bif (decide
 (al + nl ≤ ml ∧
 ((0 : Int) ≤ ci ∧ ci < (↑nl : Int)) ∧
 ((0 : Int) ≤ cb ∧ cb ≤ (1000000 : Int)) ∧
 (S.okT nl (fun (j : Nat) => vl (j + al)) (fun (j : Nat) => gl (j + al)) fun (j : Nat) => wl (j + al)) =
 true))
 then (bif (decide (S.dem (fun (j : Nat) => vl (j + al)) (fun (j : Nat) => gl (j + al)) (Int.toNat ci) cb ≤ cb))
 then (some (.inr (true)))
 else (some (.inr (false))))
 else (none))
 else (some (.inr (false))))
 else (none))
 else (none))
 else (some (.inr (false)))))))
 else (none) : Option (St22 ⊕ Rt22)) = some x) : Te22 cond Kst Kret al nl ml tl vl gl wl ci cb := by
  unfold Te22
  exact bif_split h
   (fun c0 h => bif_split h
   (fun c1 h => ret_at hR _ h (fun n => n) rfl rfl rfl (rn_bool_tf rfl) rfl (entl_bor (use_lo rfl) rfl rfl entl_nil))
   (fun c1 h => bif_split h
   (fun c2 h => ret_at hR _ h (fun n => n) rfl rfl rfl (rn_bool_tf rfl) rfl (entl_bor (use_lo rfl) rfl rfl entl_nil))
   (fun c2 h => bif_split h
   (fun c3 h => ret_at hR _ h (fun n => n) rfl rfl rfl (rn_bool_tf rfl) rfl (entl_bor (use_lo rfl) rfl rfl entl_nil))
   (fun c3 h => bif_split h
   (fun c4 h => bif_split h
   (fun c5 h => bif_split h
   (fun c6 h => bif_split h
   (fun c7 h => bif_split h
   (fun c8 h => bif_split h
   (fun c9 h => ret_at hR _ h (fun n => n) rfl rfl rfl (rn_bool_tf rfl) rfl (entl_bor (use_lo rfl) rfl rfl entl_nil))
   (fun c9 h => ret_at hR _ h (fun n => n) rfl rfl rfl (rn_bool_tf rfl) rfl (entl_bor (use_lo rfl) rfl rfl entl_nil)))
   (fun c8 h => no_some h))
   (fun c7 h => ret_at hR _ h (fun n => n) rfl rfl rfl (rn_bool_tf rfl) rfl (entl_bor (use_lo rfl) rfl rfl entl_nil)))
   (fun c6 h => no_some h))
   (fun c5 h => no_some h))
   (fun c4 h => ret_at hR _ h (fun n => n) rfl rfl rfl (rn_bool_tf rfl) rfl (entl_bor (use_lo rfl) rfl rfl entl_nil))))))
   (fun c0 h => no_some h)
theorem a22 (al nl ml : Nat) (tl : Nat → ByteArray) (vl : Nat → Int) (gl : Nat → Int) (wl : Nat → Int) (ci : Int) (cb : Int) {r : Rt22} (h : Goes ((q22 al nl ml tl vl gl wl ci cb)) ((p22 al nl ml tl vl gl wl ci cb)) r) : CallR Try.prog 22 [.loose ⟨0, 4, al, 0⟩ nl, .int .i64 ci, .int .i64 cb] [[(0, (false, .cols ml [.str tl, .int .i64 vl, .int .i64 gl, .int .i64 wl]))]] 1 ((V22 al nl ml tl vl gl wl ci cb) r) ((fun r => [newL (1 + 1) ((N22 al nl ml tl vl gl wl ci cb) r) ++ [(0, (false, .cols ml [.str tl, .int .i64 vl, .int .i64 gl, .int .i64 wl]))]]) r) 400 ∧ ∃ F, Try.prog.funcs[22]? = some F ∧ F.body.isSome = true ∧ (F.name == "runtime.NumGoroutine") = false := by
  refine dec_calls (sy := true) (f := 22) (lo := 1) (hi := 400) (H := [[(0, (false, .cols ml [.str tl, .int .i64 vl, .int .i64 gl, .int .i64 wl]))]]) (args := [.loose ⟨0, 4, al, 0⟩ nl, .int .i64 ci, .int .i64 cb]) Try.envOk Try.mixed xM_ok ((I22 al nl ml tl vl gl wl ci cb)) ((V22 al nl ml tl vl gl wl ci cb)) (fun r => [newL (1 + 1) ((N22 al nl ml tl vl gl wl ci cb) r) ++ [(0, (false, .cols ml [.str tl, .int .i64 vl, .int .i64 gl, .int .i64 wl]))]]) (fn := mkFn Try.f22) (ts := []) (n := 400) rfl (by decide) (by simp) (names_of rfl) ?_ ?_ ?_ h
  · intro s; exact s.elim
  · intro Kst Kret x hS hR h
    exact Holds.eq (te22 cond Kst Kret al nl ml tl vl gl wl ci cb) (be22 al nl ml tl vl gl wl ci cb Kst Kret x hS hR h)
  · intro Kst Kret x hS hR s h; exact s.elim
noncomputable def k22 : Con := ⟨22, [.one (.list [.str, .int .i64, .int .i64, .int .i64]), .one (.plain (.int .i64)), .one (.plain (.int .i64))], fun (x : (Nat × Nat × Nat × (Nat → ByteArray) × (Nat → Int) × (Nat → Int) × (Nat → Int) × Unit) × Int × Int × Unit) => (fun (al nl ml : Nat) (tl : Nat → ByteArray) (vl : Nat → Int) (gl : Nat → Int) (wl : Nat → Int) (ci : Int) (cb : Int) => decide (al + nl ≤ ml)) x.1.1 x.1.2.1 x.1.2.2.1 x.1.2.2.2.1 x.1.2.2.2.2.1 x.1.2.2.2.2.2.1 x.1.2.2.2.2.2.2.1 x.2.1 x.2.2.1, fun (x : (Nat × Nat × Nat × (Nat → ByteArray) × (Nat → Int) × (Nat → Int) × (Nat → Int) × Unit) × Int × Int × Unit) => (fun (al nl ml : Nat) (tl : Nat → ByteArray) (vl : Nat → Int) (gl : Nat → Int) (wl : Nat → Int) (ci : Int) (cb : Int) => (V22 al nl ml tl vl gl wl ci cb) (S.chkS (S.tskS nl (fun j => tl (j + al)) (fun j => vl (j + al)) (fun j => gl (j + al)) (fun j => wl (j + al))) nl ci cb (wl (ci.toNat + al)) (S.dem (fun j => vl (j + al)) (fun j => gl (j + al)) ci.toNat cb))) x.1.1 x.1.2.1 x.1.2.2.1 x.1.2.2.2.1 x.1.2.2.2.2.1 x.1.2.2.2.2.2.1 x.1.2.2.2.2.2.2.1 x.2.1 x.2.2.1, fun (x : (Nat × Nat × Nat × (Nat → ByteArray) × (Nat → Int) × (Nat → Int) × (Nat → Int) × Unit) × Int × Int × Unit) => (fun (al nl ml : Nat) (tl : Nat → ByteArray) (vl : Nat → Int) (gl : Nat → Int) (wl : Nat → Int) (ci : Int) (cb : Int) => (N22 al nl ml tl vl gl wl ci cb) (S.chkS (S.tskS nl (fun j => tl (j + al)) (fun j => vl (j + al)) (fun j => gl (j + al)) (fun j => wl (j + al))) nl ci cb (wl (ci.toNat + al)) (S.dem (fun j => vl (j + al)) (fun j => gl (j + al)) ci.toNat cb))) x.1.1 x.1.2.1 x.1.2.2.1 x.1.2.2.2.1 x.1.2.2.2.2.1 x.1.2.2.2.2.2.1 x.1.2.2.2.2.2.2.1 x.2.1 x.2.2.1, fun _ _ => .dead⟩
theorem s22 (al nl ml : Nat) (tl : Nat → ByteArray) (vl : Nat → Int) (gl : Nat → Int) (wl : Nat → Int) (ci : Int) (cb : Int) (hp : al + nl ≤ ml) : Goes ((q22 al nl ml tl vl gl wl ci cb)) ((p22 al nl ml tl vl gl wl ci cb)) (S.chkS (S.tskS nl (fun j => tl (j + al)) (fun j => vl (j + al)) (fun j => gl (j + al)) (fun j => wl (j + al))) nl ci cb (wl (ci.toNat + al)) (S.dem (fun j => vl (j + al)) (fun j => gl (j + al)) ci.toNat cb)) := by
  have hk : S.tskS nl (fun j => tl (j + al)) (fun j => vl (j + al)) (fun j => gl (j + al)) (fun j => wl (j + al)) = 0 → 1 ≤ nl ∧ S.okT nl (fun j => vl (j + al)) (fun j => gl (j + al)) (fun j => wl (j + al)) = true := tskS_ok
  have hd : S.okT nl (fun j => vl (j + al)) (fun j => gl (j + al)) (fun j => wl (j + al)) = true → ∀ j, j < nl → wl (j + al) ≤ 1000000 := fun h j hj => by
    have hh : 1 ≤ vl (j + al) ∧ vl (j + al) ≤ 1000000 ∧ 1 ≤ gl (j + al) ∧ gl (j + al) ≤ vl (j + al) ∧ gl (j + al) ≤ wl (j + al) ∧ wl (j + al) ≤ vl (j + al) := (okT_at h).2 j hj
    omega
  have h8 : S.okT nl (fun j => vl (j + al)) (fun j => gl (j + al)) (fun j => wl (j + al)) = true → nl ≤ 8 := fun h => (okT_at h).1
  unfold p22
  unfold S.chkS
  generalize S.tskS nl (fun j => tl (j + al)) (fun j => vl (j + al)) (fun j => gl (j + al)) (fun j => wl (j + al)) = e at *
  generalize S.okT nl (fun j => vl (j + al)) (fun j => gl (j + al)) (fun j => wl (j + al)) = o at *
  generalize S.dem (fun j => vl (j + al)) (fun j => gl (j + al)) ci.toNat cb = r at *
  by_cases he : e = 0
  · obtain ⟨hn, ho⟩ := hk he
    have h9 := h8 ho
    have hd2 := hd ho
    clear h8 hd
    subst he
    subst ho
    by_cases hi : 0 ≤ ci ∧ ci < nl
    · have hd3 := hd2 ci.toNat (by omega)
      clear hk
      repeat' first
        | with_reducible refine goes_if (fun h => ?_) (fun h => ?_) <;> (try simp only [lim64, imp_false, decide_eq_true_eq, decide_eq_false_iff_not, Int.toNat_natCast, toNat_pred, toNat_succ, Option.getD_some, Option.getD_none, Bool.not_eq_true', Bool.not_eq_false', Bool.and_eq_true, Bool.or_eq_true, Bool.and_eq_false_iff, Bool.or_eq_false_iff, bne_iff_ne, beq_iff_eq, bne_eq_false_iff_eq, beq_eq_false_iff_ne, ne_eq, not_and, Int.not_le, Int.not_lt, ge_iff_le, gt_iff_lt, Nat.not_lt, Nat.not_le, Bool.not_eq_true, Bool.not_eq_false, Bool.true_eq_false, Bool.false_eq_true, not_false_eq_true, not_true_eq_false, true_and, and_true, and_self] at h)
        | exact goes_none.mpr (by omega)
      all_goals first | (exfalso; omega) | (refine goes_inr.mpr ?_; (repeat' split) <;> first | rfl | (exfalso; omega) | (exact (decide_eq_true (by omega)).symm) | (exact (decide_eq_false (by omega)).symm) | simp_all)
    · clear hd2 hk
      repeat' first
        | with_reducible refine goes_if (fun h => ?_) (fun h => ?_) <;> (try simp only [lim64, imp_false, decide_eq_true_eq, decide_eq_false_iff_not, Int.toNat_natCast, toNat_pred, toNat_succ, Option.getD_some, Option.getD_none, Bool.not_eq_true', Bool.not_eq_false', Bool.and_eq_true, Bool.or_eq_true, Bool.and_eq_false_iff, Bool.or_eq_false_iff, bne_iff_ne, beq_iff_eq, bne_eq_false_iff_eq, beq_eq_false_iff_ne, ne_eq, not_and, Int.not_le, Int.not_lt, ge_iff_le, gt_iff_lt, Nat.not_lt, Nat.not_le, Bool.not_eq_true, Bool.not_eq_false, Bool.true_eq_false, Bool.false_eq_true, not_false_eq_true, not_true_eq_false, true_and, and_true, and_self] at h)
        | exact goes_none.mpr (by omega)
      all_goals first | (exfalso; omega) | (refine goes_inr.mpr ?_; (repeat' split) <;> first | rfl | (exfalso; omega) | (exact (decide_eq_true (by omega)).symm) | (exact (decide_eq_false (by omega)).symm) | simp_all)
  · clear hk hd h8
    repeat' first
      | with_reducible refine goes_if (fun h => ?_) (fun h => ?_) <;> (try simp only [lim64, imp_false, decide_eq_true_eq, decide_eq_false_iff_not, Int.toNat_natCast, toNat_pred, toNat_succ, Option.getD_some, Option.getD_none, Bool.not_eq_true', Bool.not_eq_false', Bool.and_eq_true, Bool.or_eq_true, Bool.and_eq_false_iff, Bool.or_eq_false_iff, bne_iff_ne, beq_iff_eq, bne_eq_false_iff_eq, beq_eq_false_iff_ne, ne_eq, not_and, Int.not_le, Int.not_lt, ge_iff_le, gt_iff_lt, Nat.not_lt, Nat.not_le, Bool.not_eq_true, Bool.not_eq_false, Bool.true_eq_false, Bool.false_eq_true, not_false_eq_true, not_true_eq_false] at h)
      | exact goes_none.mpr (by omega)
    all_goals first | (exfalso; omega) | (refine goes_inr.mpr ?_; (repeat' split) <;> first | rfl | (exfalso; omega) | (exact (decide_eq_true (by omega)).symm) | (exact (decide_eq_false (by omega)).symm) | simp_all)

theorem k22_ok : k22.ok Try.prog := by
  intro x hx
  obtain ⟨⟨al, nl, ml, tl, vl, gl, wl, _⟩, ci, cb, _⟩ := x
  obtain ⟨h1, h2⟩ := a22 al nl ml tl vl gl wl ci cb (s22 al nl ml tl vl gl wl ci cb (of_dec hx rfl))
  exact ⟨⟨400, (by decide : 1 + 1 + 0 ≤ 400), h1⟩, h2⟩
noncomputable def xA (test : Bool → Prop → Prop → Prop) : Ext := consX test [k42, k14, k16, k20, k21, k19, k22]
theorem xA_ok : ExtOk Try.prog (xA cond) := consX_ok ⟨k42_ok, k14_ok, k16_ok, k20_ok, k21_ok, k19_ok, k22_ok, trivial⟩

end Go.Ev
