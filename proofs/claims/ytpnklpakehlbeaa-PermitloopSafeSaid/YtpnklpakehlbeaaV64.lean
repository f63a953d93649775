/-
  The parts that the statement needs, 4 of 4.
-/
import Derived.Test.YtpnklpakehlbeaaV63
namespace Go.Ev
open Go.Proofs
open Go.IntWalk
set_option linter.unusedVariables false
set_option linter.unusedSimpArgs false
set_option maxRecDepth 100000
theorem a17 (aq nq mq : Nat) (tq : Nat → ByteArray) (vq : Nat → Int) (gq : Nat → Int) (de : Int) {r : Rt17} (h : Goes ((q17 aq nq mq tq vq gq de)) ((p17 aq nq mq tq vq gq de)) r) : CallR Try.prog 17 [.agg [.loose ⟨0, 3, aq, 0⟩ nq, .int .i64 de]] [[(0, (false, .cols mq [.str tq, .int .i64 vq, .int .i64 gq]))]] 1 ((V17 aq nq mq tq vq gq de) r) ((fun r => [newL (1 + 1) ((N17 aq nq mq tq vq gq de) r) ++ [(0, (false, .cols mq [.str tq, .int .i64 vq, .int .i64 gq]))]]) r) 400 ∧ ∃ F, Try.prog.funcs[17]? = some F ∧ F.body.isSome = true ∧ (F.name == "runtime.NumGoroutine") = false := by
  refine dec_calls (f := 17) (lo := 1) (hi := 400) (H := [[(0, (false, .cols mq [.str tq, .int .i64 vq, .int .i64 gq]))]]) (args := [.agg [.loose ⟨0, 3, aq, 0⟩ nq, .int .i64 de]]) Try.envOk Try.mixed xZ_ok ((I17 aq nq mq tq vq gq de)) ((V17 aq nq mq tq vq gq de)) (fun r => [newL (1 + 1) ((N17 aq nq mq tq vq gq de) r) ++ [(0, (false, .cols mq [.str tq, .int .i64 vq, .int .i64 gq]))]]) (fn := mkFn Try.f17) (ts := [1, 4, 7, 8, 9, 10, 23, 24, 31, 32, 33]) (n := 400) rfl (by decide) (by simp) (names_of rfl) ?_ ?_ ?_ h
  · intro s; cases s <;> exact ⟨hd_ok _ _, by simp [I17], names_of rfl, Nat.le_of_ble_eq_true rfl⟩
  · intro Kst Kret x hS hR h
    exact Holds.eq (te17 cond Kst Kret aq nq mq tq vq gq de) (be17 aq nq mq tq vq gq de Kst Kret x hS hR h)
  · intro Kst Kret x hS hR s h
    cases s with
    | h0 x0 x1 x2 x3 x4 x5 => exact Holds.eq (t17_0 cond Kst Kret aq nq mq tq vq gq de x0 x1 x2 x3 x4 x5) (b17_0 aq nq mq tq vq gq de Kst Kret x hS hR x0 x1 x2 x3 x4 x5 h)
    | h1 x0 x1 x2 x3 x4 x5 x6 x7 x8 => exact Holds.eq (t17_1 cond Kst Kret aq nq mq tq vq gq de x0 x1 x2 x3 x4 x5 x6 x7 x8) (b17_1 aq nq mq tq vq gq de Kst Kret x hS hR x0 x1 x2 x3 x4 x5 x6 x7 x8 h)
noncomputable def k17 : Con := ⟨17, [.agg [.list [.str, .int .i64, .int .i64], .plain (.int .i64)]], fun (x : ((Nat × Nat × Nat × (Nat → ByteArray) × (Nat → Int) × (Nat → Int) × Unit) × Int × Unit) × Unit) => (fun (aq nq mq : Nat) (tq : Nat → ByteArray) (vq : Nat → Int) (gq : Nat → Int) (de : Int) => decide (aq + nq ≤ mq ∧ nq ≤ 1000000)) x.1.1.1 x.1.1.2.1 x.1.1.2.2.1 x.1.1.2.2.2.1 x.1.1.2.2.2.2.1 x.1.1.2.2.2.2.2.1 x.1.2.1, fun (x : ((Nat × Nat × Nat × (Nat → ByteArray) × (Nat → Int) × (Nat → Int) × Unit) × Int × Unit) × Unit) => (fun (aq nq mq : Nat) (tq : Nat → ByteArray) (vq : Nat → Int) (gq : Nat → Int) (de : Int) => (V17 aq nq mq tq vq gq de) (S.worE nq (S.netE nq (fun j => tq (j + aq)) (fun j => vq (j + aq)) (fun j => gq (j + aq)) de) (fun j => vq (j + aq)) (fun j => gq (j + aq)) de)) x.1.1.1 x.1.1.2.1 x.1.1.2.2.1 x.1.1.2.2.2.1 x.1.1.2.2.2.2.1 x.1.1.2.2.2.2.2.1 x.1.2.1, fun (x : ((Nat × Nat × Nat × (Nat → ByteArray) × (Nat → Int) × (Nat → Int) × Unit) × Int × Unit) × Unit) => (fun (aq nq mq : Nat) (tq : Nat → ByteArray) (vq : Nat → Int) (gq : Nat → Int) (de : Int) => (N17 aq nq mq tq vq gq de) (S.worE nq (S.netE nq (fun j => tq (j + aq)) (fun j => vq (j + aq)) (fun j => gq (j + aq)) de) (fun j => vq (j + aq)) (fun j => gq (j + aq)) de)) x.1.1.1 x.1.1.2.1 x.1.1.2.2.1 x.1.1.2.2.2.1 x.1.1.2.2.2.2.1 x.1.1.2.2.2.2.2.1 x.1.2.1, fun _ _ => .dead⟩
theorem s17i (aq nq mq : Nat) (tq : Nat → ByteArray) (vq : Nat → Int) (gq : Nat → Int) (de : Int) (hp : aq + nq ≤ mq ∧ nq ≤ 1000000) (hv : (S.netE nq (fun j => tq (j + aq)) (fun j => vq (j + aq)) (fun j => gq (j + aq)) de) = 0) (i : Nat) (hi : i < nq) (R : Rt17) (L : List (Int × Int × Int)) (hL : Holds (L = S.allF nq)) : ∀ (c j : Nat) (a : S.A5), j + c = L.length → Comes (q17 aq nq mq tq vq gq de) (match S.fold (S.worT (S.latI nq (fun j => vq (j + aq)) (fun j => gq (j + aq)) de) L i) j c a with | (be, at', k, l, p) => .h0 be at' ((i + 1 : Nat) : Int) k l p) R → Comes (q17 aq nq mq tq vq gq de) (match a with | (be, at', k, l, p) => .h1 be at' (i : Int) (i : Int) (j : Int) k l p L) R := by
  obtain ⟨hp1, hp2⟩ := hp
  obtain ⟨v1, v2, v3⟩ := net_ok hv
  have hl : L.length = 5 * nq + 3 := by rw [hL.get]; show (S.failL nq).length + 1 = _; rw [fail_len]
  have hf := fail_len (n := nq)
  intro c
  induction c with
  | zero =>
    rintro j ⟨be, ba, k, l, p⟩ hj hm
    have hm : Comes (q17 aq nq mq tq vq gq de) (.h0 be ba (((i + 1 : Nat)) : Int) k l p) R := hm
    rw [Int.natCast_add, Int.natCast_one] at hm
    apply Comes.of
    show Goes _ _ _
    (first | rw [q17] | unfold q17)
    repeat' first
      | with_reducible refine goes_if (fun h => ?_) (fun h => ?_) <;> (try simp only [lim64, imp_false, decide_eq_true_eq, decide_eq_false_iff_not, Int.toNat_natCast, toNat_pred, toNat_succ, Option.getD_some, Option.getD_none, Bool.not_eq_true', Bool.not_eq_false', Bool.and_eq_true, Bool.or_eq_true, Bool.and_eq_false_iff, Bool.or_eq_false_iff, bne_iff_ne, beq_iff_eq, bne_eq_false_iff_eq, beq_eq_false_iff_ne, ne_eq, not_and, Int.not_le, Int.not_lt, ge_iff_le, gt_iff_lt, Nat.not_lt, Nat.not_le, Bool.not_eq_true, Bool.not_eq_false, Bool.true_eq_false, Bool.false_eq_true, not_false_eq_true, not_true_eq_false] at h)
      | exact goes_none.mpr (by omega)
    all_goals first | (exfalso; omega) | exact hm
  | succ c ih =>
    rintro j ⟨be, ba, k, l, p⟩ hj hm
    have hm : Comes (q17 aq nq mq tq vq gq de) _ R := hm
    have ih := ih (j + 1) (S.worT (S.latI nq (fun j => vq (j + aq)) (fun j => gq (j + aq)) de) L i (be, ba, k, l, p) j) (by omega) hm
    clear hm
    unfold S.worT at ih
    dsimp only at ih
    obtain ⟨xk, xl, xp, hx⟩ : ∃ xk xl xp, S.at' L j = (xk, xl, xp) := ⟨_, _, _, rfl⟩
    rw [hx] at ih
    dsimp only at ih
    by_cases hlt : be < S.latI nq (fun j => vq (j + aq)) (fun j => gq (j + aq)) de (i : Int) xk xl xp
    · rw [if_pos hlt] at ih
      have ih : Comes (q17 aq nq mq tq vq gq de) (.h1 (S.latI nq (fun j => vq (j + aq)) (fun j => gq (j + aq)) de (i : Int) xk xl xp) (i : Int) (i : Int) (i : Int) (((j + 1 : Nat)) : Int) xk xl xp L) R := ih
      apply Comes.of
      show Goes _ _ _
      rw [q17]
      simp only [Int.toNat_natCast, hv, eq_self, true_and]
      simp only [hx]
      generalize S.latI nq (fun j => vq (j + aq)) (fun j => gq (j + aq)) de (i : Int) xk xl xp = la at *
      show Goes _ _ _
      repeat' first
        | with_reducible refine goes_if (fun h => ?_) (fun h => ?_) <;> (try simp only [lim64, imp_false, decide_eq_true_eq, decide_eq_false_iff_not, Int.toNat_natCast, toNat_pred, toNat_succ, Option.getD_some, Option.getD_none, Bool.not_eq_true', Bool.not_eq_false', Bool.and_eq_true, Bool.or_eq_true, Bool.and_eq_false_iff, Bool.or_eq_false_iff, bne_iff_ne, beq_iff_eq, bne_eq_false_iff_eq, beq_eq_false_iff_ne, ne_eq, not_and, Int.not_le, Int.not_lt, ge_iff_le, gt_iff_lt, Nat.not_lt, Nat.not_le, Bool.not_eq_true, Bool.not_eq_false, Bool.true_eq_false, Bool.false_eq_true, not_false_eq_true, not_true_eq_false] at h)
        | exact goes_none.mpr (by omega)
      all_goals first | (exfalso; omega) | exact ih
    · rw [if_neg hlt] at ih
      have ih : Comes (q17 aq nq mq tq vq gq de) (.h1 be ba (i : Int) (i : Int) (((j + 1 : Nat)) : Int) k l p L) R := ih
      apply Comes.of
      show Goes _ _ _
      rw [q17]
      simp only [Int.toNat_natCast, hv, eq_self, true_and]
      simp only [hx]
      generalize S.latI nq (fun j => vq (j + aq)) (fun j => gq (j + aq)) de (i : Int) xk xl xp = la at *
      show Goes _ _ _
      repeat' first
        | with_reducible refine goes_if (fun h => ?_) (fun h => ?_) <;> (try simp only [lim64, imp_false, decide_eq_true_eq, decide_eq_false_iff_not, Int.toNat_natCast, toNat_pred, toNat_succ, Option.getD_some, Option.getD_none, Bool.not_eq_true', Bool.not_eq_false', Bool.and_eq_true, Bool.or_eq_true, Bool.and_eq_false_iff, Bool.or_eq_false_iff, bne_iff_ne, beq_iff_eq, bne_eq_false_iff_eq, beq_eq_false_iff_ne, ne_eq, not_and, Int.not_le, Int.not_lt, ge_iff_le, gt_iff_lt, Nat.not_lt, Nat.not_le, Bool.not_eq_true, Bool.not_eq_false, Bool.true_eq_false, Bool.false_eq_true, not_false_eq_true, not_true_eq_false] at h)
        | exact goes_none.mpr (by omega)
      all_goals first | (exfalso; omega) | exact ih
theorem s17' (aq nq mq : Nat) (tq : Nat → ByteArray) (vq : Nat → Int) (gq : Nat → Int) (de : Int) (hp : aq + nq ≤ mq ∧ nq ≤ 1000000) (hv : (S.netE nq (fun j => tq (j + aq)) (fun j => vq (j + aq)) (fun j => gq (j + aq)) de) = 0) : ∀ (c i : Nat) (a : S.A5), i + c = nq → Comes (q17 aq nq mq tq vq gq de) (match a with | (be, at', k, l, p) => .h0 be at' (i : Int) k l p) (match S.fold (fun a st => S.fold (S.worT (S.latI nq (fun j => vq (j + aq)) (fun j => gq (j + aq)) de) (S.allF nq) st) 0 (S.allF nq).length a) i c a with | (be, at', k, l, p) => (be, at', k, l, p, 0)) := by
  have hf := fail_len (n := nq)
  intro c
  induction c with
  | zero =>
    rintro i ⟨be, ba, k, l, p⟩ hi
    show Comes (q17 aq nq mq tq vq gq de) (.h0 be ba (i : Int) k l p) (be, ba, k, l, p, 0)
    apply Comes.of
    show Goes _ _ _
    (first | rw [q17] | unfold q17)
    repeat' first
      | with_reducible refine goes_if (fun h => ?_) (fun h => ?_) <;> (try simp only [lim64, imp_false, decide_eq_true_eq, decide_eq_false_iff_not, Int.toNat_natCast, toNat_pred, toNat_succ, Option.getD_some, Option.getD_none, Bool.not_eq_true', Bool.not_eq_false', Bool.and_eq_true, Bool.or_eq_true, Bool.and_eq_false_iff, Bool.or_eq_false_iff, bne_iff_ne, beq_iff_eq, bne_eq_false_iff_eq, beq_eq_false_iff_ne, ne_eq, not_and, Int.not_le, Int.not_lt, ge_iff_le, gt_iff_lt, Nat.not_lt, Nat.not_le, Bool.not_eq_true, Bool.not_eq_false, Bool.true_eq_false, Bool.false_eq_true, not_false_eq_true, not_true_eq_false] at h)
      | exact goes_none.mpr (by omega)
    all_goals first | (exfalso; omega) | exact goes_inr.mpr rfl
  | succ c ih =>
    rintro i ⟨be, ba, k, l, p⟩ hi
    have hm := s17i aq nq mq tq vq gq de hp hv i (by omega) _ (S.allF nq) ⟨rfl⟩ (S.allF nq).length 0 (be, ba, k, l, p) (Nat.zero_add _) (ih (i + 1) _ (by omega))
    obtain ⟨v1, v2, v3⟩ := net_ok hv
    obtain ⟨hp1, hp2⟩ := hp
    have hm : Comes (q17 aq nq mq tq vq gq de) (.h1 be ba (i : Int) (i : Int) 0 k l p (S.allF nq)) _ := hm
    show Comes (q17 aq nq mq tq vq gq de) (.h0 be ba (i : Int) k l p) _
    apply Comes.of
    show Goes _ _ _
    (first | rw [q17] | unfold q17)
    try simp only [all_mkl]
    try show Goes _ _ _
    repeat' first
      | with_reducible refine goes_if (fun h => ?_) (fun h => ?_) <;> (try simp only [lim64, imp_false, decide_eq_true_eq, decide_eq_false_iff_not, Int.toNat_natCast, toNat_pred, toNat_succ, Option.getD_some, Option.getD_none, Bool.not_eq_true', Bool.not_eq_false', Bool.and_eq_true, Bool.or_eq_true, Bool.and_eq_false_iff, Bool.or_eq_false_iff, bne_iff_ne, beq_iff_eq, bne_eq_false_iff_eq, beq_eq_false_iff_ne, ne_eq, not_and, Int.not_le, Int.not_lt, ge_iff_le, gt_iff_lt, Nat.not_lt, Nat.not_le, Bool.not_eq_true, Bool.not_eq_false, Bool.true_eq_false, Bool.false_eq_true, not_false_eq_true, not_true_eq_false] at h)
      | exact goes_none.mpr (by omega)
    all_goals first | (exfalso; omega) | exact hm
theorem s17 (aq nq mq : Nat) (tq : Nat → ByteArray) (vq : Nat → Int) (gq : Nat → Int) (de : Int) (hp : aq + nq ≤ mq ∧ nq ≤ 1000000) : Goes ((q17 aq nq mq tq vq gq de)) ((p17 aq nq mq tq vq gq de)) (S.worE nq (S.netE nq (fun j => tq (j + aq)) (fun j => vq (j + aq)) (fun j => gq (j + aq)) de) (fun j => vq (j + aq)) (fun j => gq (j + aq)) de) := by
  unfold S.worE
  by_cases h0 : (S.netE nq (fun j => tq (j + aq)) (fun j => vq (j + aq)) (fun j => gq (j + aq)) de) = 0
  · have hm := s17' aq nq mq tq vq gq de hp h0 nq 0 (-1, 0, 0, 0, 0) (Nat.zero_add _)
    have hm : Comes (q17 aq nq mq tq vq gq de) (.h0 (-1) 0 0 0 0 0) _ := hm
    obtain ⟨hp1, hp2⟩ := hp
    rw [if_pos h0]
    unfold p17
    simp only [h0]
    show Goes _ _ _
    repeat' first
      | with_reducible refine goes_if (fun h => ?_) (fun h => ?_) <;> (try simp only [lim64, imp_false, decide_eq_true_eq, decide_eq_false_iff_not, Int.toNat_natCast, toNat_pred, toNat_succ, Option.getD_some, Option.getD_none, Bool.not_eq_true', Bool.not_eq_false', Bool.and_eq_true, Bool.or_eq_true, Bool.and_eq_false_iff, Bool.or_eq_false_iff, bne_iff_ne, beq_iff_eq, bne_eq_false_iff_eq, beq_eq_false_iff_ne, ne_eq, not_and, Int.not_le, Int.not_lt, ge_iff_le, gt_iff_lt, Nat.not_lt, Nat.not_le, Bool.not_eq_true, Bool.not_eq_false, Bool.true_eq_false, Bool.false_eq_true, not_false_eq_true, not_true_eq_false] at h)
      | exact goes_none.mpr (by omega)
    all_goals first | (exfalso; omega) | exact hm | (exfalso; simp_all; done)
  · obtain ⟨hp1, hp2⟩ := hp
    rw [if_neg h0]
    show Goes _ _ _
    unfold p17
    repeat' first
      | with_reducible refine goes_if (fun h => ?_) (fun h => ?_) <;> (try simp only [lim64, imp_false, decide_eq_true_eq, decide_eq_false_iff_not, Int.toNat_natCast, toNat_pred, toNat_succ, Option.getD_some, Option.getD_none, Bool.not_eq_true', Bool.not_eq_false', Bool.and_eq_true, Bool.or_eq_true, Bool.and_eq_false_iff, Bool.or_eq_false_iff, bne_iff_ne, beq_iff_eq, bne_eq_false_iff_eq, beq_eq_false_iff_ne, ne_eq, not_and, Int.not_le, Int.not_lt, ge_iff_le, gt_iff_lt, Nat.not_lt, Nat.not_le, Bool.not_eq_true, Bool.not_eq_false, Bool.true_eq_false, Bool.false_eq_true, not_false_eq_true, not_true_eq_false] at h)
      | exact goes_none.mpr (by omega)
    all_goals first | (exfalso; omega) | exact goes_inr.mpr rfl | (exfalso; simp_all; done)
theorem k17_ok : k17.ok Try.prog := by
  intro x hx
  obtain ⟨⟨⟨aq, nq, mq, tq, vq, gq, _⟩, de, _⟩, _⟩ := x
  obtain ⟨h1, h2⟩ := a17 aq nq mq tq vq gq de (s17 aq nq mq tq vq gq de (of_dec hx rfl))
  exact ⟨⟨400, (by decide : 1 + 1 + 0 ≤ 400), h1⟩, h2⟩
namespace S
def abc : ByteArray := ByteArray.mk #[97, 98, 99, 100, 101, 102, 103, 104]
def nameI (i : Nat) : ByteArray := subS abc i (i + 1)
def madeL (n : Nat) (t v : Nat → Int) : List (ByteArray × Int × Int) := if n = 0 then [(nameI 0, 1, 1)] else mkl (min n 8) fun i => (nameI i, t i, v i)
def byB (t : Nat → Int) (n : Nat) : Bool := all (fun j => decide (0 ≤ t j ∧ t j ≤ 255)) n
end S
inductive St38 where
  | h0 (x0 : Int) (x1 : List (Int × Int)) (x2 : List (ByteArray × Int × Int))
  | h1 (x0 : Int) (x1 : List (ByteArray × Int × Int))
abbrev Rt38 := List (ByteArray × Int × Int)
noncomputable def V38 (al nl ml : Nat) (tl : Nat → Int) (vl : Nat → Int) (de : Int) (r : Rt38) : PV := PV.agg [PV.own (2) (3) (List.length r), PV.int IntKind.i64 de]
noncomputable def N38 (al nl ml : Nat) (tl : Nat → Int) (vl : Nat → Int) (de : Int) (r : Rt38) : List Blk := [Blk.cols (List.length r)
 [Col.str fun (j : Nat) => (S.at' r j).1,
 Col.int IntKind.i64 fun (j : Nat) => (S.at' r j).2.1,
 Col.int IntKind.i64 fun (j : Nat) => (S.at' r j).2.2]]
noncomputable def I38 (al nl ml : Nat) (tl : Nat → Int) (vl : Nat → Int) (de : Int) : St38 → Hd
  | .h0 x0 x1 x2 => ⟨hd Try.f38 0, [PV.own (1) (2) (List.length x1),
 PV.ptr (PA.mk (2) (0) (0) (0)),
 PV.ptr (PA.mk (3) (0) (0) (0)), PV.int IntKind.i64 x0], [[(1, (true, Blk.cols (List.length x1)
 [Col.int IntKind.u8 fun (j : Nat) => (S.at' x1 j).1,
 Col.int IntKind.u8 fun (j : Nat) => (S.at' x1 j).2])), (2, (true, Blk.cells [PV.nils, PV.int IntKind.i64 (0 : Int)])), (3, (true, Blk.cells [PV.own (4) (3) (List.length x2), PV.int IntKind.i64 de])), (4, (true, Blk.cols (List.length x2)
 [Col.str fun (j : Nat) => (S.at' x2 j).1,
 Col.int IntKind.i64 fun (j : Nat) => (S.at' x2 j).2.1,
 Col.int IntKind.i64 fun (j : Nat) => (S.at' x2 j).2.2]))], [(0, (false, .cols ml [.int .u8 tl, .int .u8 vl]))]], 5⟩
  | .h1 x0 x1 => ⟨hd Try.f38 0, [PV.loose (PA.mk (0) (2) al (0)) nl,
 PV.ptr (PA.mk (1) (0) (0) (0)),
 PV.ptr (PA.mk (2) (0) (0) (0)), PV.int IntKind.i64 x0], [[(1, (true, Blk.cells [PV.nils, PV.int IntKind.i64 (0 : Int)])), (2, (true, Blk.cells [PV.own (3) (3) (List.length x1), PV.int IntKind.i64 de])), (3, (true, Blk.cols (List.length x1)
 [Col.str fun (j : Nat) => (S.at' x1 j).1,
 Col.int IntKind.i64 fun (j : Nat) => (S.at' x1 j).2.1,
 Col.int IntKind.i64 fun (j : Nat) => (S.at' x1 j).2.2]))], [(0, (false, .cols ml [.int .u8 tl, .int .u8 vl]))]], 4⟩
noncomputable def q38 (al nl ml : Nat) (tl : Nat → Int) (vl : Nat → Int) (de : Int) : St38 → Option (St38 ⊕ Rt38)
  | .h0 x0 x1 x2 => bif (decide (x0 < (↑(List.length x1) : Int)))
 then (bif (decide (x0 < (8 : Int)))
 then (bif (lim IntKind.i64 (x0 + (1 : Int)))
 then (bif (decide ((0 : Int) ≤ x0 ∧ x0 ≤ x0 + (1 : Int) ∧ x0 + (1 : Int) ≤ (8 : Int)))
 then (bif (decide ((0 : Int) ≤ x0 ∧ x0 < (↑(List.length x1) : Int)))
 then (bif (decide (Int.toNat x0 < List.length x1))
 then (bif (lim IntKind.i64 ((S.at' x1 (Int.toNat x0)).1))
 then (bif (lim IntKind.i64 ((S.at' x1 (Int.toNat x0)).2))
 then (bif (decide (List.length x2 + 1 ≤ 1000000))
 then (bif (decide (List.length x2 ≤ List.length x2))
 then (some (.inl (.h0 (x0 + (1 : Int)) (x1) (S.snoc x2
 (S.subS
 (ByteArray.mk
 #[(97 : UInt8), (98 : UInt8), (99 : UInt8), (100 : UInt8), (101 : UInt8), (102 : UInt8), (103 : UInt8),
 (104 : UInt8)])
 (Int.toNat x0) (Int.toNat (x0 + (1 : Int))),
 (S.at' x1 (Int.toNat x0)).1, (S.at' x1 (Int.toNat x0)).2)))))
 else (none))
 else (none))
 else (none))
 else (none))
 else (none))
 else (none))
 else (none))
 else (none))
 else (some (.inr (x2))))
 else (some (.inr (x2)))
  | .h1 x0 x1 => bif (decide (x0 < (↑nl : Int)))
 then (bif (decide (x0 < (8 : Int)))
 then (bif (lim IntKind.i64 (x0 + (1 : Int)))
 then (bif (decide ((0 : Int) ≤ x0 ∧ x0 ≤ x0 + (1 : Int) ∧ x0 + (1 : Int) ≤ (8 : Int)))
 then (bif (decide ((0 : Int) ≤ x0 ∧ x0 < (↑nl : Int)))
 then (bif (decide (Int.toNat x0 + al < ml))
 then (bif (lim IntKind.i64 (tl (Int.toNat x0 + al)))
 then (bif (lim IntKind.i64 (vl (Int.toNat x0 + al)))
 then (bif (decide (List.length x1 + 1 ≤ 1000000))
 then (bif (decide (List.length x1 ≤ List.length x1))
 then (some (.inl (.h1 (x0 + (1 : Int)) (S.snoc x1
 (S.subS
 (ByteArray.mk
 #[(97 : UInt8), (98 : UInt8), (99 : UInt8), (100 : UInt8), (101 : UInt8), (102 : UInt8), (103 : UInt8),
 (104 : UInt8)])
 (Int.toNat x0) (Int.toNat (x0 + (1 : Int))),
 tl (Int.toNat x0 + al), vl (Int.toNat x0 + al))))))
 else (none))
 else (none))
 else (none))
 else (none))
 else (none))
 else (none))
 else (none))
 else (none))
 else (some (.inr (x1))))
 else (some (.inr (x1)))
noncomputable def p38 (al nl ml : Nat) (tl : Nat → Int) (vl : Nat → Int) (de : Int) : Option (St38 ⊕ Rt38) := bif (lim IntKind.i64 de)
 then (bif ((↑nl : Int) == (0 : Int))
 then (some (.inl (.h0 ((0 : Int)) ([((1 : Int), (1 : Int))]) ([]))))
 else (some (.inl (.h1 ((0 : Int)) ([])))))
 else (none)
noncomputable def Te38 (test : Bool → Prop → Prop → Prop) (Kst : KS) (Kret : KR) (al nl ml : Nat) (tl : Nat → Int) (vl : Nat → Int) (de : Int) : Prop :=
  test (lim IntKind.i64 de)
 (test ((↑nl : Int) == (0 : Int))
 (Kst (hd Try.f38 0) ([PV.own (3) (2) (1),
 PV.ptr (PA.mk (1) (0) (0) (0)),
 PV.ptr (PA.mk (2) (0) (0) (0)), PV.int IntKind.i64 (0 : Int)]) ([[(0, false, Blk.cols ml [Col.int IntKind.u8 tl, Col.int IntKind.u8 vl]),
 (2, true, Blk.cells [PV.nils, PV.int IntKind.i64 de]),
 (1, true, Blk.cells [PV.nils, PV.int IntKind.i64 (0 : Int)]),
 (3, true,
 Blk.cells [PV.int IntKind.u8 (1 : Int), PV.int IntKind.u8 (1 : Int)])]]) (4))
 (Kst (hd Try.f38 0) ([PV.loose (PA.mk (0) (2) al (0)) nl,
 PV.ptr (PA.mk (1) (0) (0) (0)),
 PV.ptr (PA.mk (2) (0) (0) (0)), PV.int IntKind.i64 (0 : Int)]) ([[(0, false, Blk.cols ml [Col.int IntKind.u8 tl, Col.int IntKind.u8 vl]),
 (2, true, Blk.cells [PV.nils, PV.int IntKind.i64 de]),
 (1, true, Blk.cells [PV.nils, PV.int IntKind.i64 (0 : Int)])]]) (3)))
 (False)
set_option maxRecDepth 100000 in
theorem te38 (test : Bool → Prop → Prop → Prop) (Kst : KS) (Kret : KR) (al nl ml : Nat) (tl : Nat → Int) (vl : Nat → Int) (de : Int) : run test Try.env true noX true 400 ⟨38, [.cd (mkFn Try.f38).body], argT 0 [.loose ⟨0, 2, al, 0⟩ nl, .int .u8 de], [[], [(0, (false, .cols ml [.int .u8 tl, .int .u8 vl]))]], 1⟩ (proj 1 [0, 4, 5, 6] Kst Kret) =
  Te38 test Kst Kret al nl ml tl vl de := by kernel_rfl
noncomputable def T38_0 (test : Bool → Prop → Prop → Prop) (Kst : KS) (Kret : KR) (al nl ml : Nat) (tl : Nat → Int) (vl : Nat → Int) (de : Int) (x0 : Int) (x1 : List (Int × Int)) (x2 : List (ByteArray × Int × Int)) : Prop :=
  test (decide (x0 < (↑(List.length x1) : Int)))
 (test (decide (x0 < (8 : Int)))
 (test (lim IntKind.i64 (x0 + (1 : Int)))
 (test (decide ((0 : Int) ≤ x0 ∧ x0 ≤ x0 + (1 : Int) ∧ x0 + (1 : Int) ≤ (8 : Int)))
 (test (decide ((0 : Int) ≤ x0 ∧ x0 < (↑(List.length x1) : Int)))
 (test (true)
 (test (decide (Int.toNat x0 < List.length x1))
 (test (lim IntKind.i64 ((S.at' x1 (Int.toNat x0)).1))
 (test (decide ((0 : Int) ≤ x0 ∧ x0 < (↑(List.length x1) : Int)))
 (test (true)
 (test (decide (Int.toNat x0 < List.length x1))
 (test (lim IntKind.i64 ((S.at' x1 (Int.toNat x0)).2))
 (test (decide (List.length x2 + 1 ≤ 1000000))
 (test (decide (List.length x2 ≤ List.length x2))
 (test (true)
 (test (lim IntKind.i64 (x0 + (1 : Int)))
 (Kst (hd Try.f38 0) ([PV.own (1) (2) (List.length x1),
 PV.ptr (PA.mk (2) (0) (0) (0)),
 PV.ptr (PA.mk (3) (0) (0) (0)),
 PV.int IntKind.i64 (x0 + (1 : Int))]) ([[(0, false, Blk.cols ml [Col.int IntKind.u8 tl, Col.int IntKind.u8 vl]),
 (3, true,
 Blk.cells
 [PV.own (6) (3) (List.length x2 + 1), PV.int IntKind.i64 de]),
 (2, true, Blk.cells [PV.nils, PV.int IntKind.i64 (0 : Int)]),
 (1, true,
 Blk.cols (List.length x1)
 [Col.int IntKind.u8 fun (j : Nat) => (S.at' x1 j).1,
 Col.int IntKind.u8 fun (j : Nat) => (S.at' x1 j).2]),
 (6, true,
 Blk.cols (List.length x2 + 1)
 [Col.str fun (j : Nat) =>
 bif Nat.blt j (List.length x2) then (S.at' x2 j).1
 else
 S.subS
 (ByteArray.mk
 #[(97 : UInt8), (98 : UInt8), (99 : UInt8), (100 : UInt8), (101 : UInt8), (102 : UInt8),
 (103 : UInt8), (104 : UInt8)])
 (Int.toNat x0) (Int.toNat (x0 + (1 : Int))),
 Col.int IntKind.i64 fun (j : Nat) =>
 bif Nat.blt j (List.length x2) then (S.at' x2 j).2.1
 else (S.at' x1 (Int.toNat x0)).1,
 Col.int IntKind.i64 fun (j : Nat) =>
 bif Nat.blt j (List.length x2) then (S.at' x2 j).2.2
 else (S.at' x1 (Int.toNat x0)).2])]]) (7))
 (False))
 (False))
 (False))
 (False))
 (False))
 (False))
 (False))
 (False))
 (False))
 (False))
 (False))
 (False))
 (False))
 (False))
 (Kret (PV.agg [PV.own (4) (3) (List.length x2), PV.int IntKind.i64 de]) ([[(0, false, Blk.cols ml [Col.int IntKind.u8 tl, Col.int IntKind.u8 vl]),
 (4, true,
 Blk.cols (List.length x2)
 [Col.str fun (j : Nat) => (S.at' x2 j).1,
 Col.int IntKind.i64 fun (j : Nat) => (S.at' x2 j).2.1,
 Col.int IntKind.i64 fun (j : Nat) => (S.at' x2 j).2.2])]]) (5)))
 (Kret (PV.agg [PV.own (4) (3) (List.length x2), PV.int IntKind.i64 de]) ([[(0, false, Blk.cols ml [Col.int IntKind.u8 tl, Col.int IntKind.u8 vl]),
 (4, true,
 Blk.cols (List.length x2)
 [Col.str fun (j : Nat) => (S.at' x2 j).1,
 Col.int IntKind.i64 fun (j : Nat) => (S.at' x2 j).2.1,
 Col.int IntKind.i64 fun (j : Nat) => (S.at' x2 j).2.2])]]) (5))
set_option maxRecDepth 100000 in
theorem t38_0 (test : Bool → Prop → Prop → Prop) (Kst : KS) (Kret : KR) (al nl ml : Nat) (tl : Nat → Int) (vl : Nat → Int) (de : Int) (x0 : Int) (x1 : List (Int × Int)) (x2 : List (ByteArray × Int × Int)) : run test Try.env true noX true 400 ⟨38, hd Try.f38 0, zipT [0, 4, 5, 6] [PV.own (1) (2) (List.length x1),
 PV.ptr (PA.mk (2) (0) (0) (0)),
 PV.ptr (PA.mk (3) (0) (0) (0)), PV.int IntKind.i64 x0], [[(1, (true, Blk.cols (List.length x1)
 [Col.int IntKind.u8 fun (j : Nat) => (S.at' x1 j).1,
 Col.int IntKind.u8 fun (j : Nat) => (S.at' x1 j).2])), (2, (true, Blk.cells [PV.nils, PV.int IntKind.i64 (0 : Int)])), (3, (true, Blk.cells [PV.own (4) (3) (List.length x2), PV.int IntKind.i64 de])), (4, (true, Blk.cols (List.length x2)
 [Col.str fun (j : Nat) => (S.at' x2 j).1,
 Col.int IntKind.i64 fun (j : Nat) => (S.at' x2 j).2.1,
 Col.int IntKind.i64 fun (j : Nat) => (S.at' x2 j).2.2]))], [(0, (false, .cols ml [.int .u8 tl, .int .u8 vl]))]], 5⟩ (proj 1 [0, 4, 5, 6] Kst Kret) =
  T38_0 test Kst Kret al nl ml tl vl de x0 x1 x2 := by kernel_rfl
noncomputable def T38_1 (test : Bool → Prop → Prop → Prop) (Kst : KS) (Kret : KR) (al nl ml : Nat) (tl : Nat → Int) (vl : Nat → Int) (de : Int) (x0 : Int) (x1 : List (ByteArray × Int × Int)) : Prop :=
  test (decide (x0 < (↑nl : Int)))
 (test (decide (x0 < (8 : Int)))
 (test (lim IntKind.i64 (x0 + (1 : Int)))
 (test (decide ((0 : Int) ≤ x0 ∧ x0 ≤ x0 + (1 : Int) ∧ x0 + (1 : Int) ≤ (8 : Int)))
 (test (decide ((0 : Int) ≤ x0 ∧ x0 < (↑nl : Int)))
 (test (true)
 (test (decide (Int.toNat x0 + al < ml))
 (test (lim IntKind.i64 (tl (Int.toNat x0 + al)))
 (test (decide ((0 : Int) ≤ x0 ∧ x0 < (↑nl : Int)))
 (test (true)
 (test (decide (Int.toNat x0 + al < ml))
 (test (lim IntKind.i64 (vl (Int.toNat x0 + al)))
 (test (decide (List.length x1 + 1 ≤ 1000000))
 (test (decide (List.length x1 ≤ List.length x1))
 (test (true)
 (test (lim IntKind.i64 (x0 + (1 : Int)))
 (Kst (hd Try.f38 0) ([PV.loose (PA.mk (0) (2) al (0)) nl,
 PV.ptr (PA.mk (1) (0) (0) (0)),
 PV.ptr (PA.mk (2) (0) (0) (0)),
 PV.int IntKind.i64 (x0 + (1 : Int))]) ([[(0, false, Blk.cols ml [Col.int IntKind.u8 tl, Col.int IntKind.u8 vl]),
 (2, true,
 Blk.cells
 [PV.own (5) (3) (List.length x1 + 1), PV.int IntKind.i64 de]),
 (1, true, Blk.cells [PV.nils, PV.int IntKind.i64 (0 : Int)]),
 (5, true,
 Blk.cols (List.length x1 + 1)
 [Col.str fun (j : Nat) =>
 bif Nat.blt j (List.length x1) then (S.at' x1 j).1
 else
 S.subS
 (ByteArray.mk
 #[(97 : UInt8), (98 : UInt8), (99 : UInt8), (100 : UInt8), (101 : UInt8), (102 : UInt8),
 (103 : UInt8), (104 : UInt8)])
 (Int.toNat x0) (Int.toNat (x0 + (1 : Int))),
 Col.int IntKind.i64 fun (j : Nat) =>
 bif Nat.blt j (List.length x1) then (S.at' x1 j).2.1 else tl (Int.toNat x0 + al),
 Col.int IntKind.i64 fun (j : Nat) =>
 bif Nat.blt j (List.length x1) then (S.at' x1 j).2.2 else vl (Int.toNat x0 + al)])]]) (6))
 (False))
 (False))
 (False))
 (False))
 (False))
 (False))
 (False))
 (False))
 (False))
 (False))
 (False))
 (False))
 (False))
 (False))
 (Kret (PV.agg [PV.own (3) (3) (List.length x1), PV.int IntKind.i64 de]) ([[(0, false, Blk.cols ml [Col.int IntKind.u8 tl, Col.int IntKind.u8 vl]),
 (3, true,
 Blk.cols (List.length x1)
 [Col.str fun (j : Nat) => (S.at' x1 j).1,
 Col.int IntKind.i64 fun (j : Nat) => (S.at' x1 j).2.1,
 Col.int IntKind.i64 fun (j : Nat) => (S.at' x1 j).2.2])]]) (4)))
 (Kret (PV.agg [PV.own (3) (3) (List.length x1), PV.int IntKind.i64 de]) ([[(0, false, Blk.cols ml [Col.int IntKind.u8 tl, Col.int IntKind.u8 vl]),
 (3, true,
 Blk.cols (List.length x1)
 [Col.str fun (j : Nat) => (S.at' x1 j).1,
 Col.int IntKind.i64 fun (j : Nat) => (S.at' x1 j).2.1,
 Col.int IntKind.i64 fun (j : Nat) => (S.at' x1 j).2.2])]]) (4))
set_option maxRecDepth 100000 in
theorem t38_1 (test : Bool → Prop → Prop → Prop) (Kst : KS) (Kret : KR) (al nl ml : Nat) (tl : Nat → Int) (vl : Nat → Int) (de : Int) (x0 : Int) (x1 : List (ByteArray × Int × Int)) : run test Try.env true noX true 400 ⟨38, hd Try.f38 0, zipT [0, 4, 5, 6] [PV.loose (PA.mk (0) (2) al (0)) nl,
 PV.ptr (PA.mk (1) (0) (0) (0)),
 PV.ptr (PA.mk (2) (0) (0) (0)), PV.int IntKind.i64 x0], [[(1, (true, Blk.cells [PV.nils, PV.int IntKind.i64 (0 : Int)])), (2, (true, Blk.cells [PV.own (3) (3) (List.length x1), PV.int IntKind.i64 de])), (3, (true, Blk.cols (List.length x1)
 [Col.str fun (j : Nat) => (S.at' x1 j).1,
 Col.int IntKind.i64 fun (j : Nat) => (S.at' x1 j).2.1,
 Col.int IntKind.i64 fun (j : Nat) => (S.at' x1 j).2.2]))], [(0, (false, .cols ml [.int .u8 tl, .int .u8 vl]))]], 4⟩ (proj 1 [0, 4, 5, 6] Kst Kret) =
  T38_1 test Kst Kret al nl ml tl vl de x0 x1 := by kernel_rfl
set_option maxRecDepth 100000 in
theorem be38 (al nl ml : Nat) (tl : Nat → Int) (vl : Nat → Int) (de : Int) (Kst : KS) (Kret : KR) (x : St38 ⊕ Rt38) (hS : HS 1 400 ((I38 al nl ml tl vl de)) Kst x) (hR : HR 1 400 ((V38 al nl ml tl vl de)) (fun r => [newL (1 + 1) ((N38 al nl ml tl vl de) r) ++ [(0, (false, .cols ml [.int .u8 tl, .int .u8 vl]))]]) Kret x) (h : (bif (lim IntKind.i64 de)
 then (bif ((↑nl : Int) == (0 : Int))
 then (some (.inl (.h0 ((0 : Int)) ([((1 : Int), (1 : Int))]) ([]))))
 else (some (.inl (.h1 ((0 : Int)) ([])))))
 else (none) : Option (St38 ⊕ Rt38)) = some x) : Te38 cond Kst Kret al nl ml tl vl de := by
  unfold Te38
  exact bif_split h
   (fun c0 h => bif_split h
   (fun c1 h => stop_at hS _ h (fun n => bif Nat.beq n 1 then 3 else bif Nat.beq n 2 then 1 else bif Nat.beq n 3 then 2 else bif Nat.beq n 4 then 399 else n) rfl rfl rfl ⟨(rn_own (use_own rfl) rfl rfl), ⟨(rn_ptr (use_own rfl) rfl rfl), ⟨(rn_ptr (use_own rfl) rfl rfl), ⟨(rn_int rfl), trivial⟩⟩⟩⟩ rfl (entl_b (use_own rfl) rfl (by simp) (rb_lit (fun j hj i hi => (match j, hj with | 0, _ => (match i, hi with | 0, _ => ⟨_, rfl, rn_int rfl⟩ | 1, _ => ⟨_, rfl, rn_int rfl⟩ | _ + 2, h => absurd h (by simp [lenc])) | _ + 1, h => absurd h (by simp)))) (entl_b (use_own rfl) rfl (by simp) (rb_cells ⟨rn_nils, (rn_int rfl), trivial⟩) (entl_b (use_own rfl) rfl (by simp) (rb_cells ⟨(rn_own_nils rfl), (rn_int rfl), trivial⟩) (entl_fresh (use_own rfl) (fresh_ok rfl) (entl_bor (use_lo rfl) rfl rfl entl_nil))))))
   (fun c1 h => stop_at hS _ h (fun n => bif Nat.beq n 1 then 1 else bif Nat.beq n 2 then 2 else bif Nat.beq n 3 then 399 else n) rfl rfl rfl ⟨(rn_loose (use_lo rfl) rfl rfl rfl), ⟨(rn_ptr (use_own rfl) rfl rfl), ⟨(rn_ptr (use_own rfl) rfl rfl), ⟨(rn_int rfl), trivial⟩⟩⟩⟩ rfl (entl_b (use_own rfl) rfl (by simp) (rb_cells ⟨rn_nils, (rn_int rfl), trivial⟩) (entl_b (use_own rfl) rfl (by simp) (rb_cells ⟨(rn_own_nils rfl), (rn_int rfl), trivial⟩) (entl_fresh (use_own rfl) (fresh_ok rfl) (entl_bor (use_lo rfl) rfl rfl entl_nil))))))
   (fun c0 h => no_some h)
set_option maxRecDepth 100000 in
theorem b38_0 (al nl ml : Nat) (tl : Nat → Int) (vl : Nat → Int) (de : Int) (Kst : KS) (Kret : KR) (x : St38 ⊕ Rt38) (hS : HS 1 400 ((I38 al nl ml tl vl de)) Kst x) (hR : HR 1 400 ((V38 al nl ml tl vl de)) (fun r => [newL (1 + 1) ((N38 al nl ml tl vl de) r) ++ [(0, (false, .cols ml [.int .u8 tl, .int .u8 vl]))]]) Kret x) (x0 : Int) (x1 : List (Int × Int)) (x2 : List (ByteArray × Int × Int)) (h : (bif (decide (x0 < (↑(List.length x1) : Int)))
 then (bif (decide (x0 < (8 : Int)))
 then (bif (lim IntKind.i64 (x0 + (1 : Int)))
 then (bif (decide ((0 : Int) ≤ x0 ∧ x0 ≤ x0 + (1 : Int) ∧ x0 + (1 : Int) ≤ (8 : Int)))
 then (bif (decide ((0 : Int) ≤ x0 ∧ x0 < (↑(List.length x1) : Int)))
 then (bif (decide (Int.toNat x0 < List.length x1))
 then (bif (lim IntKind.i64 ((S.at' x1 (Int.toNat x0)).1))
 then (bif (lim IntKind.i64 ((S.at' x1 (Int.toNat x0)).2))
 then (bif (decide (List.length x2 + 1 ≤ 1000000))
 then (bif (decide (List.length x2 ≤ List.length x2))
 then (some (.inl (.h0 (x0 + (1 : Int)) (x1) (S.snoc x2
 (S.subS
 (ByteArray.mk
 #[(97 : UInt8), (98 : UInt8), (99 : UInt8), (100 : UInt8), (101 : UInt8), (102 : UInt8), (103 : UInt8),
 (104 : UInt8)])
 (Int.toNat x0) (Int.toNat (x0 + (1 : Int))),
 (S.at' x1 (Int.toNat x0)).1, (S.at' x1 (Int.toNat x0)).2)))))
 else (none))
 else (none))
 else (none))
 else (none))
 else (none))
 else (none))
 else (none))
 else (none))
 else (some (.inr (x2))))
 else (some (.inr (x2))) : Option (St38 ⊕ Rt38)) = some x) : T38_0 cond Kst Kret al nl ml tl vl de x0 x1 x2 := by
  unfold T38_0
  exact bif_split h
   (fun c0 h => bif_split h
   (fun c1 h => bif_split h
   (fun c2 h => bif_split h
   (fun c3 h => bif_split h
   (fun c4 h => cond_yes rfl (bif_split h
   (fun c5 h => bif_split h
   (fun c6 h => cond_yes c4 (cond_yes rfl (cond_yes c5 (bif_split h
   (fun c7 h => bif_split h
   (fun c8 h => bif_split h
   (fun c9 h => cond_yes rfl (cond_yes c2 (stop_at hS _ h (fun n => bif Nat.beq n 1 then 1 else bif Nat.beq n 2 then 2 else bif Nat.beq n 3 then 3 else bif Nat.beq n 4 then 6 else n) rfl rfl rfl ⟨(rn_own (use_own rfl) rfl rfl), ⟨(rn_ptr (use_own rfl) rfl rfl), ⟨(rn_ptr (use_own rfl) rfl rfl), ⟨(rn_int rfl), trivial⟩⟩⟩⟩ rfl (entl_new (use_own rfl) rfl (Nat.le_of_eq rfl) (rcs_int (fun _ _ => rfl) (rcs_int (fun _ _ => rfl) rcs_nil)) (entl_b (use_own rfl) rfl (by simp) (rb_cells ⟨rn_nils, (rn_int rfl), trivial⟩) (entl_b (use_own rfl) rfl (by simp) (rb_cells ⟨(rn_own (use_own rfl) rfl (snoc_len' rfl)), (rn_int rfl), trivial⟩) (entl_new (use_own rfl) rfl (Nat.le_of_eq (snoc_len' rfl)) (rcs_str (col_snoc' (fun (t : ByteArray × Int × Int) => t.1) rfl (fun _ _ => rfl)) (rcs_int (col_snoc' (fun (t : ByteArray × Int × Int) => t.2.1) rfl (fun _ _ => rfl)) (rcs_int (col_snoc' (fun (t : ByteArray × Int × Int) => t.2.2) rfl (fun _ _ => rfl)) rcs_nil))) (entl_bor (use_lo rfl) rfl rfl entl_nil))))))))
   (fun c9 h => no_some h))
   (fun c8 h => no_some h))
   (fun c7 h => no_some h)))))
   (fun c6 h => no_some h))
   (fun c5 h => no_some h)))
   (fun c4 h => no_some h))
   (fun c3 h => no_some h))
   (fun c2 h => no_some h))
   (fun c1 h => ret_at hR _ h (fun n => bif Nat.beq n 2 then 4 else n) rfl rfl rfl (rn_agg ⟨(rn_own (use_own rfl) rfl rfl), (rn_int rfl), trivial⟩) rfl (entl_new (use_own rfl) rfl (Nat.le_of_eq rfl) (rcs_str (fun _ _ => rfl) (rcs_int (fun _ _ => rfl) (rcs_int (fun _ _ => rfl) rcs_nil))) (entl_bor (use_lo rfl) rfl rfl entl_nil))))
   (fun c0 h => ret_at hR _ h (fun n => bif Nat.beq n 2 then 4 else n) rfl rfl rfl (rn_agg ⟨(rn_own (use_own rfl) rfl rfl), (rn_int rfl), trivial⟩) rfl (entl_new (use_own rfl) rfl (Nat.le_of_eq rfl) (rcs_str (fun _ _ => rfl) (rcs_int (fun _ _ => rfl) (rcs_int (fun _ _ => rfl) rcs_nil))) (entl_bor (use_lo rfl) rfl rfl entl_nil)))
set_option maxRecDepth 100000 in
theorem b38_1 (al nl ml : Nat) (tl : Nat → Int) (vl : Nat → Int) (de : Int) (Kst : KS) (Kret : KR) (x : St38 ⊕ Rt38) (hS : HS 1 400 ((I38 al nl ml tl vl de)) Kst x) (hR : HR 1 400 ((V38 al nl ml tl vl de)) (fun r => [newL (1 + 1) ((N38 al nl ml tl vl de) r) ++ [(0, (false, .cols ml [.int .u8 tl, .int .u8 vl]))]]) Kret x) (x0 : Int) (x1 : List (ByteArray × Int × Int)) (h : (bif (decide (x0 < (↑nl : Int)))
 then (bif (decide (x0 < (8 : Int)))
 then (bif (lim IntKind.i64 (x0 + (1 : Int)))
 then (bif (decide ((0 : Int) ≤ x0 ∧ x0 ≤ x0 + (1 : Int) ∧ x0 + (1 : Int) ≤ (8 : Int)))
 then (bif (decide ((0 : Int) ≤ x0 ∧ x0 < (↑nl : Int)))
 then (bif (decide (Int.toNat x0 + al < ml))
 then (bif (lim IntKind.i64 (tl (Int.toNat x0 + al)))
 then (bif (lim IntKind.i64 (vl (Int.toNat x0 + al)))
 then (bif (decide (List.length x1 + 1 ≤ 1000000))
 then (bif (decide (List.length x1 ≤ List.length x1))
 then (some (.inl (.h1 (x0 + (1 : Int)) (S.snoc x1
 (S.subS
 (ByteArray.mk
 #[(97 : UInt8), (98 : UInt8), (99 : UInt8), (100 : UInt8), (101 : UInt8), (102 : UInt8), (103 : UInt8),
 (104 : UInt8)])
 (Int.toNat x0) (Int.toNat (x0 + (1 : Int))),
 tl (Int.toNat x0 + al), vl (Int.toNat x0 + al))))))
 else (none))
 else (none))
 else (none))
 else (none))
 else (none))
 else (none))
 else (none))
 else (none))
 else (some (.inr (x1))))
 else (some (.inr (x1))) : Option (St38 ⊕ Rt38)) = some x) : T38_1 cond Kst Kret al nl ml tl vl de x0 x1 := by
  unfold T38_1
  exact bif_split h
   (fun c0 h => bif_split h
   (fun c1 h => bif_split h
   (fun c2 h => bif_split h
   (fun c3 h => bif_split h
   (fun c4 h => cond_yes rfl (bif_split h
   (fun c5 h => bif_split h
   (fun c6 h => cond_yes c4 (cond_yes rfl (cond_yes c5 (bif_split h
   (fun c7 h => bif_split h
   (fun c8 h => bif_split h
   (fun c9 h => cond_yes rfl (cond_yes c2 (stop_at hS _ h (fun n => bif Nat.beq n 1 then 1 else bif Nat.beq n 2 then 2 else bif Nat.beq n 3 then 5 else n) rfl rfl rfl ⟨(rn_loose (use_lo rfl) rfl rfl rfl), ⟨(rn_ptr (use_own rfl) rfl rfl), ⟨(rn_ptr (use_own rfl) rfl rfl), ⟨(rn_int rfl), trivial⟩⟩⟩⟩ rfl (entl_b (use_own rfl) rfl (by simp) (rb_cells ⟨rn_nils, (rn_int rfl), trivial⟩) (entl_b (use_own rfl) rfl (by simp) (rb_cells ⟨(rn_own (use_own rfl) rfl (snoc_len' rfl)), (rn_int rfl), trivial⟩) (entl_new (use_own rfl) rfl (Nat.le_of_eq (snoc_len' rfl)) (rcs_str (col_snoc' (fun (t : ByteArray × Int × Int) => t.1) rfl (fun _ _ => rfl)) (rcs_int (col_snoc' (fun (t : ByteArray × Int × Int) => t.2.1) rfl (fun _ _ => rfl)) (rcs_int (col_snoc' (fun (t : ByteArray × Int × Int) => t.2.2) rfl (fun _ _ => rfl)) rcs_nil))) (entl_bor (use_lo rfl) rfl rfl entl_nil)))))))
   (fun c9 h => no_some h))
   (fun c8 h => no_some h))
   (fun c7 h => no_some h)))))
   (fun c6 h => no_some h))
   (fun c5 h => no_some h)))
   (fun c4 h => no_some h))
   (fun c3 h => no_some h))
   (fun c2 h => no_some h))
   (fun c1 h => ret_at hR _ h (fun n => bif Nat.beq n 2 then 3 else n) rfl rfl rfl (rn_agg ⟨(rn_own (use_own rfl) rfl rfl), (rn_int rfl), trivial⟩) rfl (entl_new (use_own rfl) rfl (Nat.le_of_eq rfl) (rcs_str (fun _ _ => rfl) (rcs_int (fun _ _ => rfl) (rcs_int (fun _ _ => rfl) rcs_nil))) (entl_bor (use_lo rfl) rfl rfl entl_nil))))
   (fun c0 h => ret_at hR _ h (fun n => bif Nat.beq n 2 then 3 else n) rfl rfl rfl (rn_agg ⟨(rn_own (use_own rfl) rfl rfl), (rn_int rfl), trivial⟩) rfl (entl_new (use_own rfl) rfl (Nat.le_of_eq rfl) (rcs_str (fun _ _ => rfl) (rcs_int (fun _ _ => rfl) (rcs_int (fun _ _ => rfl) rcs_nil))) (entl_bor (use_lo rfl) rfl rfl entl_nil)))
theorem a38 (al nl ml : Nat) (tl : Nat → Int) (vl : Nat → Int) (de : Int) {r : Rt38} (h : Goes ((q38 al nl ml tl vl de)) ((p38 al nl ml tl vl de)) r) : CallR Try.prog 38 [.loose ⟨0, 2, al, 0⟩ nl, .int .u8 de] [[(0, (false, .cols ml [.int .u8 tl, .int .u8 vl]))]] 1 ((V38 al nl ml tl vl de) r) ((fun r => [newL (1 + 1) ((N38 al nl ml tl vl de) r) ++ [(0, (false, .cols ml [.int .u8 tl, .int .u8 vl]))]]) r) 400 ∧ ∃ F, Try.prog.funcs[38]? = some F ∧ F.body.isSome = true ∧ (F.name == "runtime.NumGoroutine") = false := by
  refine dec_calls (f := 38) (lo := 1) (hi := 400) (H := [[(0, (false, .cols ml [.int .u8 tl, .int .u8 vl]))]]) (args := [.loose ⟨0, 2, al, 0⟩ nl, .int .u8 de]) Try.envOk Try.mixed noX_ok ((I38 al nl ml tl vl de)) ((V38 al nl ml tl vl de)) (fun r => [newL (1 + 1) ((N38 al nl ml tl vl de) r) ++ [(0, (false, .cols ml [.int .u8 tl, .int .u8 vl]))]]) (fn := mkFn Try.f38) (ts := [0, 4, 5, 6]) (n := 400) rfl (by decide) (by simp) (names_of rfl) ?_ ?_ ?_ h
  · intro s; cases s <;> exact ⟨hd_ok _ _, by simp [I38], names_of rfl, Nat.le_of_ble_eq_true rfl⟩
  · intro Kst Kret x hS hR h
    exact Holds.eq (te38 cond Kst Kret al nl ml tl vl de) (be38 al nl ml tl vl de Kst Kret x hS hR h)
  · intro Kst Kret x hS hR s h
    cases s with
    | h0 x0 x1 x2 => exact Holds.eq (t38_0 cond Kst Kret al nl ml tl vl de x0 x1 x2) (b38_0 al nl ml tl vl de Kst Kret x hS hR x0 x1 x2 h)
    | h1 x0 x1 => exact Holds.eq (t38_1 cond Kst Kret al nl ml tl vl de x0 x1) (b38_1 al nl ml tl vl de Kst Kret x hS hR x0 x1 h)
noncomputable def k38 : Con := ⟨38, [.one (.list [.int .u8, .int .u8]), .one (.plain (.int .u8))], fun (x : (Nat × Nat × Nat × (Nat → Int) × (Nat → Int) × Unit) × Int × Unit) => (fun (al nl ml : Nat) (tl : Nat → Int) (vl : Nat → Int) (de : Int) => decide ((al + nl ≤ ml ∧ nl ≤ 1000000) ∧ (0 ≤ de ∧ de ≤ 255) ∧ S.byB (fun j => tl (j + al)) nl = true ∧ S.byB (fun j => vl (j + al)) nl = true)) x.1.1 x.1.2.1 x.1.2.2.1 x.1.2.2.2.1 x.1.2.2.2.2.1 x.2.1, fun (x : (Nat × Nat × Nat × (Nat → Int) × (Nat → Int) × Unit) × Int × Unit) => (fun (al nl ml : Nat) (tl : Nat → Int) (vl : Nat → Int) (de : Int) => (V38 al nl ml tl vl de) (S.madeL nl (fun j => tl (j + al)) (fun j => vl (j + al)))) x.1.1 x.1.2.1 x.1.2.2.1 x.1.2.2.2.1 x.1.2.2.2.2.1 x.2.1, fun (x : (Nat × Nat × Nat × (Nat → Int) × (Nat → Int) × Unit) × Int × Unit) => (fun (al nl ml : Nat) (tl : Nat → Int) (vl : Nat → Int) (de : Int) => (N38 al nl ml tl vl de) (S.madeL nl (fun j => tl (j + al)) (fun j => vl (j + al)))) x.1.1 x.1.2.1 x.1.2.2.1 x.1.2.2.2.1 x.1.2.2.2.2.1 x.2.1, fun _ _ => .dead⟩
theorem s38' (al nl ml : Nat) (tl : Nat → Int) (vl : Nat → Int) (de : Int) (hp : (al + nl ≤ ml ∧ nl ≤ 1000000) ∧ (0 ≤ de ∧ de ≤ 255) ∧ S.byB (fun j => tl (j + al)) nl = true ∧ S.byB (fun j => vl (j + al)) nl = true) : ∀ (k i : Nat) (L : List (ByteArray × Int × Int)), i + k = min nl 8 → Holds (L = S.mkl (i) (fun i => (S.nameI i, tl (i + al), vl (i + al)))) → Comes (q38 al nl ml tl vl de) (.h1 (i : Int) L) (S.mkl (min nl 8) (fun i => (S.nameI i, tl (i + al), vl (i + al)))) := by
  obtain ⟨⟨hp1, hp2⟩, hp3, hp4, hp5⟩ := hp
  intro k
  induction k with
  | zero =>
    intro i L hi eL
    have e := eL.get
    rw [show i = min nl 8 by omega] at e
    apply Comes.of
    show Goes _ _ _
    (first | rw [q38] | unfold q38)
    repeat' first
      | with_reducible refine goes_if (fun h => ?_) (fun h => ?_) <;> (try simp only [lim64, imp_false, decide_eq_true_eq, decide_eq_false_iff_not, Int.toNat_natCast, toNat_pred, toNat_succ, Option.getD_some, Option.getD_none, Bool.not_eq_true', Bool.not_eq_false', Bool.and_eq_true, Bool.or_eq_true, Bool.and_eq_false_iff, Bool.or_eq_false_iff, bne_iff_ne, beq_iff_eq, bne_eq_false_iff_eq, beq_eq_false_iff_ne, ne_eq, not_and, Int.not_le, Int.not_lt, ge_iff_le, gt_iff_lt, Nat.not_lt, Nat.not_le, Bool.not_eq_true, Bool.not_eq_false, Bool.true_eq_false, Bool.false_eq_true, not_false_eq_true, not_true_eq_false] at h)
      | exact goes_none.mpr (by omega)
    all_goals first | (exfalso; omega) | exact goes_inr.mpr e
  | succ k ih =>
    intro i L hi eL
    have h1 := of_decide_eq_true (all_iff.mp hp4 i (by omega))
    have h2 := of_decide_eq_true (all_iff.mp hp5 i (by omega))
    try dsimp only at h1 h2
    have hL : L.length = i := by rw [eL.get, mkl_len]
    have ih := ih (i + 1) (S.snoc L (S.nameI i, tl (i + al), vl (i + al))) (by omega) ⟨by rw [mkl_succ, eL.get]⟩
    have e1 : ((i : Int) + 1).toNat = i + 1 := by omega
    apply Comes.of
    show Goes _ _ _
    (first | rw [q38] | unfold q38)
    try simp only [e1, Int.toNat_natCast]
    try show Goes _ _ _
    repeat' first
      | with_reducible refine goes_if (fun h => ?_) (fun h => ?_) <;> (try simp only [lim64, imp_false, decide_eq_true_eq, decide_eq_false_iff_not, Int.toNat_natCast, toNat_pred, toNat_succ, Option.getD_some, Option.getD_none, Bool.not_eq_true', Bool.not_eq_false', Bool.and_eq_true, Bool.or_eq_true, Bool.and_eq_false_iff, Bool.or_eq_false_iff, bne_iff_ne, beq_iff_eq, bne_eq_false_iff_eq, beq_eq_false_iff_ne, ne_eq, not_and, Int.not_le, Int.not_lt, ge_iff_le, gt_iff_lt, Nat.not_lt, Nat.not_le, Bool.not_eq_true, Bool.not_eq_false, Bool.true_eq_false, Bool.false_eq_true, not_false_eq_true, not_true_eq_false] at h)
      | exact goes_none.mpr (by omega)
    all_goals first | (exfalso; omega) | exact ih
theorem s38 (al nl ml : Nat) (tl : Nat → Int) (vl : Nat → Int) (de : Int) (hp : (al + nl ≤ ml ∧ nl ≤ 1000000) ∧ (0 ≤ de ∧ de ≤ 255) ∧ S.byB (fun j => tl (j + al)) nl = true ∧ S.byB (fun j => vl (j + al)) nl = true) : Goes ((q38 al nl ml tl vl de)) ((p38 al nl ml tl vl de)) (S.madeL nl (fun j => tl (j + al)) (fun j => vl (j + al))) := by
  unfold S.madeL
  by_cases h0 : nl = 0
  · have e : (q38 al nl ml tl vl de) (.h0 0 [(1, 1)] []) = some (.inl (.h0 1 [(1, 1)] [(S.nameI 0, 1, 1)])) := rfl
    have e2 : (q38 al nl ml tl vl de) (.h0 1 [(1, 1)] [(S.nameI 0, 1, 1)]) = some (.inr [(S.nameI 0, 1, 1)]) := rfl
    rw [if_pos h0]
    obtain ⟨⟨hp1, hp2⟩, hp3, hp4, hp5⟩ := hp
    show Goes _ _ _
    unfold p38
    repeat' first
      | with_reducible refine goes_if (fun h => ?_) (fun h => ?_) <;> (try simp only [lim64, imp_false, decide_eq_true_eq, decide_eq_false_iff_not, Int.toNat_natCast, toNat_pred, toNat_succ, Option.getD_some, Option.getD_none, Bool.not_eq_true', Bool.not_eq_false', Bool.and_eq_true, Bool.or_eq_true, Bool.and_eq_false_iff, Bool.or_eq_false_iff, bne_iff_ne, beq_iff_eq, bne_eq_false_iff_eq, beq_eq_false_iff_ne, ne_eq, not_and, Int.not_le, Int.not_lt, ge_iff_le, gt_iff_lt, Nat.not_lt, Nat.not_le, Bool.not_eq_true, Bool.not_eq_false, Bool.true_eq_false, Bool.false_eq_true, not_false_eq_true, not_true_eq_false] at h)
      | exact goes_none.mpr (by omega)
    all_goals first | (exfalso; omega) | exact Comes.next e (Comes.done e2)
  · rw [if_neg h0]
    have hm := s38' al nl ml tl vl de hp (min nl 8) 0 [] (Nat.zero_add _) ⟨rfl⟩
    obtain ⟨⟨hp1, hp2⟩, hp3, hp4, hp5⟩ := hp
    show Goes _ _ _
    unfold p38
    repeat' first
      | with_reducible refine goes_if (fun h => ?_) (fun h => ?_) <;> (try simp only [lim64, imp_false, decide_eq_true_eq, decide_eq_false_iff_not, Int.toNat_natCast, toNat_pred, toNat_succ, Option.getD_some, Option.getD_none, Bool.not_eq_true', Bool.not_eq_false', Bool.and_eq_true, Bool.or_eq_true, Bool.and_eq_false_iff, Bool.or_eq_false_iff, bne_iff_ne, beq_iff_eq, bne_eq_false_iff_eq, beq_eq_false_iff_ne, ne_eq, not_and, Int.not_le, Int.not_lt, ge_iff_le, gt_iff_lt, Nat.not_lt, Nat.not_le, Bool.not_eq_true, Bool.not_eq_false, Bool.true_eq_false, Bool.false_eq_true, not_false_eq_true, not_true_eq_false] at h)
      | exact goes_none.mpr (by omega)
    all_goals first | (exfalso; omega) | exact hm
theorem k38_ok : k38.ok Try.prog := by
  intro x hx
  obtain ⟨⟨al, nl, ml, tl, vl, _⟩, de, _⟩ := x
  obtain ⟨h1, h2⟩ := a38 al nl ml tl vl de (s38 al nl ml tl vl de (of_dec hx rfl))
  exact ⟨⟨400, (by decide : 1 + 1 + 1 ≤ 400), h1⟩, h2⟩
noncomputable def xM (test : Bool → Prop → Prop → Prop) : Ext := consX test [k38, k25, k17]
theorem xM_ok : ExtOk Try.prog (xM cond) := consX_ok ⟨k38_ok, k25_ok, k17_ok, trivial⟩
abbrev St12 := Empty
abbrev Rt12 := Bool
noncomputable def V12  (r : Rt12) : PV := PV.bool r
noncomputable def N12  (r : Rt12) : List Blk := []
noncomputable def I12  : St12 → Hd := fun s => s.elim
noncomputable def q12  : St12 → Option (St12 ⊕ Rt12) := fun s => s.elim
noncomputable def p12  : Option (St12 ⊕ Rt12) := some (.inr (true))
noncomputable def Te12 (test : Bool → Prop → Prop → Prop) (Kst : KS) (Kret : KR)  : Prop :=
  test (true)
 (test (true)
 (test (true)
 (test (true)
 (test (true)
 (test (true)
 (test (true)
 (test (true)
 (test (true)
 (test (true)
 (test (true)
 (test (true)
 (Kret (PV.tf true) ([[]]) (8))
 (Kret (PV.tf false) ([[]]) (8)))
 (Kret (PV.tf false) ([[]]) (8)))
 (Kret (PV.tf false) ([[]]) (8)))
 (Kret (PV.tf false) ([[]]) (8)))
 (Kret (PV.tf false) ([[]]) (8)))
 (Kret (PV.tf false) ([[]]) (8)))
 (Kret (PV.tf false) ([[]]) (8)))
 (Kret (PV.tf false) ([[]]) (8)))
 (False))
 (False))
 (False))
 (False)
set_option maxRecDepth 100000 in
theorem te12 (test : Bool → Prop → Prop → Prop) (Kst : KS) (Kret : KR)  : run test Try.env true (xM test) true 400 ⟨12, [.cd (mkFn Try.f12).body], argT 0 [], [[], []], 0⟩ (proj 0 [] Kst Kret) =
  Te12 test Kst Kret  := by kernel_rfl
set_option maxRecDepth 100000 in
theorem be12  (Kst : KS) (Kret : KR) (x : St12 ⊕ Rt12) (hS : HS 0 400 (I12) Kst x) (hR : HR 0 400 (V12) (fun r => [newL (0 + 1) (N12 r) ++ []]) Kret x) (h : (some (.inr (true)) : Option (St12 ⊕ Rt12)) = some x) : Te12 cond Kst Kret  := by
  unfold Te12
  exact cond_yes rfl (cond_yes rfl (cond_yes rfl (cond_yes rfl (cond_yes rfl (cond_yes rfl (cond_yes rfl (cond_yes rfl (cond_yes rfl (cond_yes rfl (cond_yes rfl (cond_yes rfl (ret_at hR _ h (fun n => n) rfl rfl rfl (rn_bool_tf rfl) rfl entl_nil))))))))))))
theorem a12  {r : Rt12} (h : Goes (q12) (p12) r) : CallR Try.prog 12 [] [[]] 0 (V12 r) ((fun r => [newL (0 + 1) (N12 r) ++ []]) r) 400 ∧ ∃ F, Try.prog.funcs[12]? = some F ∧ F.body.isSome = true ∧ (F.name == "runtime.NumGoroutine") = false := by
  refine dec_calls (f := 12) (lo := 0) (hi := 400) (H := [[]]) (args := []) Try.envOk Try.mixed xM_ok (I12) (V12) (fun r => [newL (0 + 1) (N12 r) ++ []]) (fn := mkFn Try.f12) (ts := []) (n := 400) rfl (by decide) (by simp) (names_of rfl) ?_ ?_ ?_ h
  · intro s; exact s.elim
  · intro Kst Kret x hS hR h
    exact Holds.eq (te12 cond Kst Kret ) (be12  Kst Kret x hS hR h)
  · intro Kst Kret x hS hR s h; exact s.elim
noncomputable def k12 : Con := ⟨12, [], fun (x : Unit) => decide (True), fun (x : Unit) => V12 (true), fun (x : Unit) => N12 (true), fun _ _ => .dead⟩
theorem s12  (hp : True) : Goes (q12) (p12) (true) := by
  exact goes_inr.mpr rfl
theorem k12_ok : k12.ok Try.prog := by
  intro x hx
  obtain _ := x
  obtain ⟨h1, h2⟩ := a12  (s12  (of_dec hx rfl))
  exact ⟨⟨400, (by decide : 0 + 1 + 0 ≤ 400), h1⟩, h2⟩
abbrev St15 := Empty
abbrev Rt15 := List (ByteArray × Int × Int)
noncomputable def V15 (aq nq mq : Nat) (tq : Nat → ByteArray) (vq : Nat → Int) (gq : Nat → Int) (de : Int) (r : Rt15) : PV := PV.agg [PV.own (2) (3) (List.length r), PV.int IntKind.i64 de]
noncomputable def N15 (aq nq mq : Nat) (tq : Nat → ByteArray) (vq : Nat → Int) (gq : Nat → Int) (de : Int) (r : Rt15) : List Blk := [Blk.cols (List.length r)
 [Col.str fun (j : Nat) => (S.at' r j).1,
 Col.int IntKind.i64 fun (j : Nat) => (S.at' r j).2.1,
 Col.int IntKind.i64 fun (j : Nat) => (S.at' r j).2.2]]
noncomputable def I15 (aq nq mq : Nat) (tq : Nat → ByteArray) (vq : Nat → Int) (gq : Nat → Int) (de : Int) : St15 → Hd := fun s => s.elim
noncomputable def q15 (aq nq mq : Nat) (tq : Nat → ByteArray) (vq : Nat → Int) (gq : Nat → Int) (de : Int) : St15 → Option (St15 ⊕ Rt15) := fun s => s.elim
noncomputable def p15 (aq nq mq : Nat) (tq : Nat → ByteArray) (vq : Nat → Int) (gq : Nat → Int) (de : Int) : Option (St15 ⊕ Rt15) := bif (decide (aq + nq ≤ mq ∧ nq ≤ 1000000))
 then (some (.inr (S.mkl nq fun (j : Nat) => (tq (j + aq), vq (j + aq), gq (j + aq)))))
 else (none)
noncomputable def Te15 (test : Bool → Prop → Prop → Prop) (Kst : KS) (Kret : KR) (aq nq mq : Nat) (tq : Nat → ByteArray) (vq : Nat → Int) (gq : Nat → Int) (de : Int) : Prop :=
  test (decide (aq + nq ≤ mq ∧ nq ≤ 1000000))
 (Kret (PV.agg [PV.own (4) (3) nq, PV.int IntKind.i64 de]) ([[(0, false,
 Blk.cols mq [Col.str tq, Col.int IntKind.i64 vq, Col.int IntKind.i64 gq]),
 (4, true,
 Blk.cols nq
 [Col.str fun (j : Nat) => tq (j + aq), Col.int IntKind.i64 fun (j : Nat) => vq (j + aq),
 Col.int IntKind.i64 fun (j : Nat) => gq (j + aq)])]]) (5))
 (False)
set_option maxRecDepth 100000 in
theorem te15 (test : Bool → Prop → Prop → Prop) (Kst : KS) (Kret : KR) (aq nq mq : Nat) (tq : Nat → ByteArray) (vq : Nat → Int) (gq : Nat → Int) (de : Int) : run test Try.env true (xD test) true 400 ⟨15, [.cd (mkFn Try.f15).body], argT 0 [.agg [.loose ⟨0, 3, aq, 0⟩ nq, .int .i64 de]], [[], [(0, (false, .cols mq [.str tq, .int .i64 vq, .int .i64 gq]))]], 1⟩ (proj 1 [] Kst Kret) =
  Te15 test Kst Kret aq nq mq tq vq gq de := by kernel_rfl
set_option maxRecDepth 100000 in
theorem be15 (aq nq mq : Nat) (tq : Nat → ByteArray) (vq : Nat → Int) (gq : Nat → Int) (de : Int) (Kst : KS) (Kret : KR) (x : St15 ⊕ Rt15) (hS : HS 1 400 ((I15 aq nq mq tq vq gq de)) Kst x) (hR : HR 1 400 ((V15 aq nq mq tq vq gq de)) (fun r => [newL (1 + 1) ((N15 aq nq mq tq vq gq de) r) ++ [(0, (false, .cols mq [.str tq, .int .i64 vq, .int .i64 gq]))]]) Kret x) (h : (bif (decide (aq + nq ≤ mq ∧ nq ≤ 1000000))
 then (some (.inr (S.mkl nq fun (j : Nat) => (tq (j + aq), vq (j + aq), gq (j + aq)))))
 else (none) : Option (St15 ⊕ Rt15)) = some x) : Te15 cond Kst Kret aq nq mq tq vq gq de := by
  unfold Te15
  exact bif_split h
   (fun c0 h => ret_at hR _ h (fun n => bif Nat.beq n 2 then 4 else n) rfl rfl rfl (rn_agg ⟨(rn_own (use_own rfl) rfl mkl_len), (rn_int rfl), trivial⟩) rfl (entl_new (use_own rfl) rfl (Nat.le_of_eq mkl_len) (rcs_str (fun _ hj => col_mkl (fun (t : ByteArray × Int × Int) => t.1) hj) (rcs_int (fun _ hj => col_mkl (fun (t : ByteArray × Int × Int) => t.2.1) hj) (rcs_int (fun _ hj => col_mkl (fun (t : ByteArray × Int × Int) => t.2.2) hj) rcs_nil))) (entl_bor (use_lo rfl) rfl rfl entl_nil)))
   (fun c0 h => no_some h)
theorem a15 (aq nq mq : Nat) (tq : Nat → ByteArray) (vq : Nat → Int) (gq : Nat → Int) (de : Int) {r : Rt15} (h : Goes ((q15 aq nq mq tq vq gq de)) ((p15 aq nq mq tq vq gq de)) r) : CallR Try.prog 15 [.agg [.loose ⟨0, 3, aq, 0⟩ nq, .int .i64 de]] [[(0, (false, .cols mq [.str tq, .int .i64 vq, .int .i64 gq]))]] 1 ((V15 aq nq mq tq vq gq de) r) ((fun r => [newL (1 + 1) ((N15 aq nq mq tq vq gq de) r) ++ [(0, (false, .cols mq [.str tq, .int .i64 vq, .int .i64 gq]))]]) r) 400 ∧ ∃ F, Try.prog.funcs[15]? = some F ∧ F.body.isSome = true ∧ (F.name == "runtime.NumGoroutine") = false := by
  refine dec_calls (f := 15) (lo := 1) (hi := 400) (H := [[(0, (false, .cols mq [.str tq, .int .i64 vq, .int .i64 gq]))]]) (args := [.agg [.loose ⟨0, 3, aq, 0⟩ nq, .int .i64 de]]) Try.envOk Try.mixed xD_ok ((I15 aq nq mq tq vq gq de)) ((V15 aq nq mq tq vq gq de)) (fun r => [newL (1 + 1) ((N15 aq nq mq tq vq gq de) r) ++ [(0, (false, .cols mq [.str tq, .int .i64 vq, .int .i64 gq]))]]) (fn := mkFn Try.f15) (ts := []) (n := 400) rfl (by decide) (by simp) (names_of rfl) ?_ ?_ ?_ h
  · intro s; exact s.elim
  · intro Kst Kret x hS hR h
    exact Holds.eq (te15 cond Kst Kret aq nq mq tq vq gq de) (be15 aq nq mq tq vq gq de Kst Kret x hS hR h)
  · intro Kst Kret x hS hR s h; exact s.elim
noncomputable def k15 : Con := ⟨15, [.agg [.list [.str, .int .i64, .int .i64], .plain (.int .i64)]], fun (x : ((Nat × Nat × Nat × (Nat → ByteArray) × (Nat → Int) × (Nat → Int) × Unit) × Int × Unit) × Unit) => (fun (aq nq mq : Nat) (tq : Nat → ByteArray) (vq : Nat → Int) (gq : Nat → Int) (de : Int) => decide (aq + nq ≤ mq ∧ nq ≤ 1000000)) x.1.1.1 x.1.1.2.1 x.1.1.2.2.1 x.1.1.2.2.2.1 x.1.1.2.2.2.2.1 x.1.1.2.2.2.2.2.1 x.1.2.1, fun (x : ((Nat × Nat × Nat × (Nat → ByteArray) × (Nat → Int) × (Nat → Int) × Unit) × Int × Unit) × Unit) => (fun (aq nq mq : Nat) (tq : Nat → ByteArray) (vq : Nat → Int) (gq : Nat → Int) (de : Int) => (V15 aq nq mq tq vq gq de) ((S.mkl nq fun j => (tq (j + aq), vq (j + aq), gq (j + aq))))) x.1.1.1 x.1.1.2.1 x.1.1.2.2.1 x.1.1.2.2.2.1 x.1.1.2.2.2.2.1 x.1.1.2.2.2.2.2.1 x.1.2.1, fun (x : ((Nat × Nat × Nat × (Nat → ByteArray) × (Nat → Int) × (Nat → Int) × Unit) × Int × Unit) × Unit) => (fun (aq nq mq : Nat) (tq : Nat → ByteArray) (vq : Nat → Int) (gq : Nat → Int) (de : Int) => (N15 aq nq mq tq vq gq de) ((S.mkl nq fun j => (tq (j + aq), vq (j + aq), gq (j + aq))))) x.1.1.1 x.1.1.2.1 x.1.1.2.2.1 x.1.1.2.2.2.1 x.1.1.2.2.2.2.1 x.1.1.2.2.2.2.2.1 x.1.2.1, fun _ _ => .dead⟩
theorem s15 (aq nq mq : Nat) (tq : Nat → ByteArray) (vq : Nat → Int) (gq : Nat → Int) (de : Int) (hp : aq + nq ≤ mq ∧ nq ≤ 1000000) : Goes ((q15 aq nq mq tq vq gq de)) ((p15 aq nq mq tq vq gq de)) ((S.mkl nq fun j => (tq (j + aq), vq (j + aq), gq (j + aq)))) := by
  obtain ⟨hp1, hp2⟩ := hp
  show Goes _ _ _
  unfold p15
  repeat' first
    | with_reducible refine goes_if (fun h => ?_) (fun h => ?_) <;> (try simp only [lim64, imp_false, decide_eq_true_eq, decide_eq_false_iff_not, Int.toNat_natCast, toNat_pred, toNat_succ, Option.getD_some, Option.getD_none, Bool.not_eq_true', Bool.not_eq_false', Bool.and_eq_true, Bool.or_eq_true, Bool.and_eq_false_iff, Bool.or_eq_false_iff, bne_iff_ne, beq_iff_eq, bne_eq_false_iff_eq, beq_eq_false_iff_ne, ne_eq, not_and, Int.not_le, Int.not_lt, ge_iff_le, gt_iff_lt, Nat.not_lt, Nat.not_le, Bool.not_eq_true, Bool.not_eq_false, Bool.true_eq_false, Bool.false_eq_true, not_false_eq_true, not_true_eq_false] at h)
    | exact goes_none.mpr (by omega)
  all_goals first | (exfalso; omega) | exact goes_inr.mpr rfl
theorem k15_ok : k15.ok Try.prog := by
  intro x hx
  obtain ⟨⟨⟨aq, nq, mq, tq, vq, gq, _⟩, de, _⟩, _⟩ := x
  obtain ⟨h1, h2⟩ := a15 aq nq mq tq vq gq de (s15 aq nq mq tq vq gq de (of_dec hx rfl))
  exact ⟨⟨400, (by decide : 1 + 1 + 1 ≤ 400), h1⟩, h2⟩
noncomputable def xL4 (test : Bool → Prop → Prop → Prop) : Ext := consX test [k12, k13, k15, k30, k33, k31, k32]
theorem xL4_ok : ExtOk Try.prog (xL4 cond) := consX_ok ⟨k12_ok, k13_ok, k15_ok, k30_ok, k33_ok, k31_ok, k32_ok, trivial⟩
theorem staE_congr {e : Int} {t t' : Nat → ByteArray} {v g v' g' : Nat → Int} : ∀ {k i n : Nat}, i + k ≤ n → (∀ j, j < n → t j = t' j ∧ v j = v' j ∧ g j = g' j) → S.staE e t v g i k = S.staE e t' v' g' i k
  | 0, i, n, _, _ => rfl
  | k + 1, i, n, hn, h => by
    simp only [S.staE]
    obtain ⟨h1, h2, h3⟩ := h i (by omega)
    rw [h1, h2, h3, staE_congr (k := k) (i := i + 1) (n := n) (by omega) h]
    have e2 : S.any (fun j => S.eqS (t j) (t' i)) i = S.any (fun j => S.eqS (t' j) (t' i)) i := any_congr fun j hj => by rw [(h j (by omega)).1]
    rw [e2]
theorem netE_congr {n : Nat} {t t' : Nat → ByteArray} {v g v' g' : Nat → Int} {de : Int} (h : ∀ j, j < n → t j = t' j ∧ v j = v' j ∧ g j = g' j) : S.netE n t v g de = S.netE n t' v' g' de := by
  unfold S.netE
  rw [staE_congr (n := n) (by omega) h]
section
variable {n : Nat} {t : Nat → ByteArray} {v g : Nat → Int} {de e st k l p : Int}
theorem net_mkl : S.netE n (fun j => (S.at' (S.mkl n fun j => (t j, v j, g j)) j).1) (fun j => (S.at' (S.mkl n fun j => (t j, v j, g j)) j).2.1) (fun j => (S.at' (S.mkl n fun j => (t j, v j, g j)) j).2.2) de = S.netE n t v g de :=
  netE_congr fun j hj => by rw [at_mkl hj]; exact ⟨rfl, rfl, rfl⟩
end
abbrev St6 := Empty
abbrev Rt6 := Bool
noncomputable def V6 (aq nq mq : Nat) (tq : Nat → ByteArray) (vq : Nat → Int) (gq : Nat → Int) (de : Int) (ap np mp : Nat) (tp : Nat → Int) (al nl ml : Nat) (tl : Nat → Int) (vl : Nat → Int) (gl : Nat → Int) (r : Rt6) : PV := PV.bool r
noncomputable def N6 (aq nq mq : Nat) (tq : Nat → ByteArray) (vq : Nat → Int) (gq : Nat → Int) (de : Int) (ap np mp : Nat) (tp : Nat → Int) (al nl ml : Nat) (tl : Nat → Int) (vl : Nat → Int) (gl : Nat → Int) (r : Rt6) : List Blk := []
noncomputable def I6 (aq nq mq : Nat) (tq : Nat → ByteArray) (vq : Nat → Int) (gq : Nat → Int) (de : Int) (ap np mp : Nat) (tp : Nat → Int) (al nl ml : Nat) (tl : Nat → Int) (vl : Nat → Int) (gl : Nat → Int) : St6 → Hd := fun s => s.elim
noncomputable def q6 (aq nq mq : Nat) (tq : Nat → ByteArray) (vq : Nat → Int) (gq : Nat → Int) (de : Int) (ap np mp : Nat) (tp : Nat → Int) (al nl ml : Nat) (tl : Nat → Int) (vl : Nat → Int) (gl : Nat → Int) : St6 → Option (St6 ⊕ Rt6) := fun s => s.elim
noncomputable def p6 (aq nq mq : Nat) (tq : Nat → ByteArray) (vq : Nat → Int) (gq : Nat → Int) (de : Int) (ap np mp : Nat) (tp : Nat → Int) (al nl ml : Nat) (tl : Nat → Int) (vl : Nat → Int) (gl : Nat → Int) : Option (St6 ⊕ Rt6) := bif (decide (aq + nq ≤ mq))
 then (bif (S.fewB nq fun (j : Nat) => tq (j + aq))
 then (bif (decide ((↑np : Int) > (20 : Int)))
 then (some (.inr (true)))
 else (bif (decide ((↑nl : Int) > (10 : Int)))
 then (some (.inr (true)))
 else (bif (decide (aq + nq ≤ mq ∧ nq ≤ 1000000))
 then (bif (decide (ap + np ≤ mp ∧ np ≤ 1000000))
 then (bif (decide (al + nl ≤ ml ∧ nl ≤ 1000000))
 then (bif (decide
 (0 + List.length (S.mkl nq fun (j : Nat) => (tq (j + aq), vq (j + aq), gq (j + aq))) ≤
 List.length (S.mkl nq fun (j : Nat) => (tq (j + aq), vq (j + aq), gq (j + aq))) ∧
 List.length (S.mkl nq fun (j : Nat) => (tq (j + aq), vq (j + aq), gq (j + aq))) ≤ 1000000 ∧
 (0 + np ≤ np ∧ np ≤ 1000000) ∧ 0 + nl ≤ nl ∧ nl ≤ 1000000))
 then (bif (Prod.fst
 (S.safS (List.length (S.mkl nq fun (j : Nat) => (tq (j + aq), vq (j + aq), gq (j + aq))))
 (S.netE (List.length (S.mkl nq fun (j : Nat) => (tq (j + aq), vq (j + aq), gq (j + aq))))
 (fun (j : Nat) =>
 (S.at' (S.mkl nq fun (j : Nat) => (tq (j + aq), vq (j + aq), gq (j + aq))) j).1)
 (fun (j : Nat) =>
 (S.at' (S.mkl nq fun (j : Nat) => (tq (j + aq), vq (j + aq), gq (j + aq))) j).2.1)
 (fun (j : Nat) =>
 (S.at' (S.mkl nq fun (j : Nat) => (tq (j + aq), vq (j + aq), gq (j + aq))) j).2.2)
 de)
 np (fun (j : Nat) => tp (j + ap)) nl (fun (j : Nat) => tl (j + al)) (fun (j : Nat) => vl (j + al)) fun (j : Nat) =>
 gl (j + al)))
 then (bif (decide
 (aq + nq ≤ mq ∧ nq ≤ 1000000 ∧ (ap + np ≤ mp ∧ np ≤ 1000000) ∧ al + nl ≤ ml ∧ nl ≤ 1000000))
 then (bif (Prod.fst
 (S.safS nq
 (S.netE nq (fun (j : Nat) => tq (j + aq)) (fun (j : Nat) => vq (j + aq)) (fun (j : Nat) => gq (j + aq)) de) np
 (fun (j : Nat) => tp (j + ap)) nl (fun (j : Nat) => tl (j + al)) (fun (j : Nat) => vl (j + al)) fun (j : Nat) =>
 gl (j + al)))
 then (bif (Prod.snd
 (S.safS (List.length (S.mkl nq fun (j : Nat) => (tq (j + aq), vq (j + aq), gq (j + aq))))
 (S.netE (List.length (S.mkl nq fun (j : Nat) => (tq (j + aq), vq (j + aq), gq (j + aq))))
 (fun (j : Nat) =>
 (S.at' (S.mkl nq fun (j : Nat) => (tq (j + aq), vq (j + aq), gq (j + aq))) j).1)
 (fun (j : Nat) =>
 (S.at' (S.mkl nq fun (j : Nat) => (tq (j + aq), vq (j + aq), gq (j + aq))) j).2.1)
 (fun (j : Nat) =>
 (S.at' (S.mkl nq fun (j : Nat) => (tq (j + aq), vq (j + aq), gq (j + aq))) j).2.2)
 de)
 np (fun (j : Nat) => tp (j + ap)) nl (fun (j : Nat) => tl (j + al)) (fun (j : Nat) => vl (j + al))
 fun (j : Nat) => gl (j + al)) ==
 Prod.snd
 (S.safS nq
 (S.netE nq (fun (j : Nat) => tq (j + aq)) (fun (j : Nat) => vq (j + aq)) (fun (j : Nat) => gq (j + aq)) de)
 np (fun (j : Nat) => tp (j + ap)) nl (fun (j : Nat) => tl (j + al)) (fun (j : Nat) => vl (j + al))
 fun (j : Nat) => gl (j + al)))
 then (some (.inr (true)))
 else (some (.inr (false))))
 else (some (.inr (false))))
 else (none))
 else (bif (decide
 (aq + nq ≤ mq ∧ nq ≤ 1000000 ∧ (ap + np ≤ mp ∧ np ≤ 1000000) ∧ al + nl ≤ ml ∧ nl ≤ 1000000))
 then (bif (Prod.fst
 (S.safS nq
 (S.netE nq (fun (j : Nat) => tq (j + aq)) (fun (j : Nat) => vq (j + aq)) (fun (j : Nat) => gq (j + aq)) de) np
 (fun (j : Nat) => tp (j + ap)) nl (fun (j : Nat) => tl (j + al)) (fun (j : Nat) => vl (j + al)) fun (j : Nat) =>
 gl (j + al)))
 then (some (.inr (false)))
 else (bif (Prod.snd
 (S.safS (List.length (S.mkl nq fun (j : Nat) => (tq (j + aq), vq (j + aq), gq (j + aq))))
 (S.netE (List.length (S.mkl nq fun (j : Nat) => (tq (j + aq), vq (j + aq), gq (j + aq))))
 (fun (j : Nat) =>
 (S.at' (S.mkl nq fun (j : Nat) => (tq (j + aq), vq (j + aq), gq (j + aq))) j).1)
 (fun (j : Nat) =>
 (S.at' (S.mkl nq fun (j : Nat) => (tq (j + aq), vq (j + aq), gq (j + aq))) j).2.1)
 (fun (j : Nat) =>
 (S.at' (S.mkl nq fun (j : Nat) => (tq (j + aq), vq (j + aq), gq (j + aq))) j).2.2)
 de)
 np (fun (j : Nat) => tp (j + ap)) nl (fun (j : Nat) => tl (j + al)) (fun (j : Nat) => vl (j + al))
 fun (j : Nat) => gl (j + al)) ==
 Prod.snd
 (S.safS nq
 (S.netE nq (fun (j : Nat) => tq (j + aq)) (fun (j : Nat) => vq (j + aq)) (fun (j : Nat) => gq (j + aq)) de)
 np (fun (j : Nat) => tp (j + ap)) nl (fun (j : Nat) => tl (j + al)) (fun (j : Nat) => vl (j + al))
 fun (j : Nat) => gl (j + al)))
 then (some (.inr (true)))
 else (some (.inr (false)))))
 else (none)))
 else (none))
 else (none))
 else (none))
 else (none))))
 else (some (.inr (true))))
 else (none)
noncomputable def Te6 (test : Bool → Prop → Prop → Prop) (Kst : KS) (Kret : KR) (aq nq mq : Nat) (tq : Nat → ByteArray) (vq : Nat → Int) (gq : Nat → Int) (de : Int) (ap np mp : Nat) (tp : Nat → Int) (al nl ml : Nat) (tl : Nat → Int) (vl : Nat → Int) (gl : Nat → Int) : Prop :=
  test (true)
 (test (true)
 (test (decide (aq + nq ≤ mq))
 (test (S.fewB nq fun (j : Nat) => tq (j + aq))
 (test (decide ((↑np : Int) > (20 : Int)))
 (test (true)
 (test (true)
 (Kret (PV.tf true) ([[(2, false,
 Blk.cols ml
 [Col.int IntKind.i64 tl, Col.int IntKind.i64 vl, Col.int IntKind.i64 gl]),
 (1, false, Blk.cols mp [Col.int IntKind.i64 tp]),
 (0, false,
 Blk.cols mq [Col.str tq, Col.int IntKind.i64 vq, Col.int IntKind.i64 gq])]]) (7))
 (Kret (PV.tf false) ([[(2, false,
 Blk.cols ml
 [Col.int IntKind.i64 tl, Col.int IntKind.i64 vl, Col.int IntKind.i64 gl]),
 (1, false, Blk.cols mp [Col.int IntKind.i64 tp]),
 (0, false,
 Blk.cols mq [Col.str tq, Col.int IntKind.i64 vq, Col.int IntKind.i64 gq])]]) (7)))
 (False))
 (test (decide ((↑nl : Int) > (10 : Int)))
 (test (true)
 (test (true)
 (Kret (PV.tf true) ([[(2, false,
 Blk.cols ml
 [Col.int IntKind.i64 tl, Col.int IntKind.i64 vl, Col.int IntKind.i64 gl]),
 (1, false, Blk.cols mp [Col.int IntKind.i64 tp]),
 (0, false,
 Blk.cols mq [Col.str tq, Col.int IntKind.i64 vq, Col.int IntKind.i64 gq])]]) (7))
 (Kret (PV.tf false) ([[(2, false,
 Blk.cols ml
 [Col.int IntKind.i64 tl, Col.int IntKind.i64 vl, Col.int IntKind.i64 gl]),
 (1, false, Blk.cols mp [Col.int IntKind.i64 tp]),
 (0, false,
 Blk.cols mq [Col.str tq, Col.int IntKind.i64 vq, Col.int IntKind.i64 gq])]]) (7)))
 (False))
 (test (decide (aq + nq ≤ mq ∧ nq ≤ 1000000))
 (test (decide (ap + np ≤ mp ∧ np ≤ 1000000))
 (test (decide (al + nl ≤ ml ∧ nl ≤ 1000000))
 (test (decide
 (0 + List.length (S.mkl nq fun (j : Nat) => (tq (j + aq), vq (j + aq), gq (j + aq))) ≤
 List.length (S.mkl nq fun (j : Nat) => (tq (j + aq), vq (j + aq), gq (j + aq))) ∧
 List.length (S.mkl nq fun (j : Nat) => (tq (j + aq), vq (j + aq), gq (j + aq))) ≤ 1000000 ∧
 (0 + np ≤ np ∧ np ≤ 1000000) ∧ 0 + nl ≤ nl ∧ nl ≤ 1000000))
 (test (Prod.fst
 (S.safS (List.length (S.mkl nq fun (j : Nat) => (tq (j + aq), vq (j + aq), gq (j + aq))))
 (S.netE (List.length (S.mkl nq fun (j : Nat) => (tq (j + aq), vq (j + aq), gq (j + aq))))
 (fun (j : Nat) =>
 (S.at' (S.mkl nq fun (j : Nat) => (tq (j + aq), vq (j + aq), gq (j + aq))) j).1)
 (fun (j : Nat) =>
 (S.at' (S.mkl nq fun (j : Nat) => (tq (j + aq), vq (j + aq), gq (j + aq))) j).2.1)
 (fun (j : Nat) =>
 (S.at' (S.mkl nq fun (j : Nat) => (tq (j + aq), vq (j + aq), gq (j + aq))) j).2.2)
 de)
 np (fun (j : Nat) => tp (j + ap)) nl (fun (j : Nat) => tl (j + al)) (fun (j : Nat) => vl (j + al)) fun (j : Nat) =>
 gl (j + al)))
 (test (decide
 (aq + nq ≤ mq ∧ nq ≤ 1000000 ∧ (ap + np ≤ mp ∧ np ≤ 1000000) ∧ al + nl ≤ ml ∧ nl ≤ 1000000))
 (test (Prod.fst
 (S.safS nq
 (S.netE nq (fun (j : Nat) => tq (j + aq)) (fun (j : Nat) => vq (j + aq)) (fun (j : Nat) => gq (j + aq)) de) np
 (fun (j : Nat) => tp (j + ap)) nl (fun (j : Nat) => tl (j + al)) (fun (j : Nat) => vl (j + al)) fun (j : Nat) =>
 gl (j + al)))
 (test (Prod.snd
 (S.safS (List.length (S.mkl nq fun (j : Nat) => (tq (j + aq), vq (j + aq), gq (j + aq))))
 (S.netE (List.length (S.mkl nq fun (j : Nat) => (tq (j + aq), vq (j + aq), gq (j + aq))))
 (fun (j : Nat) =>
 (S.at' (S.mkl nq fun (j : Nat) => (tq (j + aq), vq (j + aq), gq (j + aq))) j).1)
 (fun (j : Nat) =>
 (S.at' (S.mkl nq fun (j : Nat) => (tq (j + aq), vq (j + aq), gq (j + aq))) j).2.1)
 (fun (j : Nat) =>
 (S.at' (S.mkl nq fun (j : Nat) => (tq (j + aq), vq (j + aq), gq (j + aq))) j).2.2)
 de)
 np (fun (j : Nat) => tp (j + ap)) nl (fun (j : Nat) => tl (j + al)) (fun (j : Nat) => vl (j + al))
 fun (j : Nat) => gl (j + al)) ==
 Prod.snd
 (S.safS nq
 (S.netE nq (fun (j : Nat) => tq (j + aq)) (fun (j : Nat) => vq (j + aq)) (fun (j : Nat) => gq (j + aq)) de)
 np (fun (j : Nat) => tp (j + ap)) nl (fun (j : Nat) => tl (j + al)) (fun (j : Nat) => vl (j + al))
 fun (j : Nat) => gl (j + al)))
 (Kret (PV.tf true) ([[(2, false,
 Blk.cols ml
 [Col.int IntKind.i64 tl, Col.int IntKind.i64 vl, Col.int IntKind.i64 gl]),
 (1, false, Blk.cols mp [Col.int IntKind.i64 tp]),
 (0, false,
 Blk.cols mq [Col.str tq, Col.int IntKind.i64 vq, Col.int IntKind.i64 gq])]]) (14))
 (Kret (PV.tf false) ([[(2, false,
 Blk.cols ml
 [Col.int IntKind.i64 tl, Col.int IntKind.i64 vl, Col.int IntKind.i64 gl]),
 (1, false, Blk.cols mp [Col.int IntKind.i64 tp]),
 (0, false,
 Blk.cols mq [Col.str tq, Col.int IntKind.i64 vq, Col.int IntKind.i64 gq])]]) (14)))
 (Kret (PV.tf false) ([[(2, false,
 Blk.cols ml
 [Col.int IntKind.i64 tl, Col.int IntKind.i64 vl, Col.int IntKind.i64 gl]),
 (1, false, Blk.cols mp [Col.int IntKind.i64 tp]),
 (0, false,
 Blk.cols mq [Col.str tq, Col.int IntKind.i64 vq, Col.int IntKind.i64 gq])]]) (14)))
 (False))
 (test (decide
 (aq + nq ≤ mq ∧ nq ≤ 1000000 ∧ (ap + np ≤ mp ∧ np ≤ 1000000) ∧ al + nl ≤ ml ∧ nl ≤ 1000000))
 (test (Prod.fst
 (S.safS nq
 (S.netE nq (fun (j : Nat) => tq (j + aq)) (fun (j : Nat) => vq (j + aq)) (fun (j : Nat) => gq (j + aq)) de) np
 (fun (j : Nat) => tp (j + ap)) nl (fun (j : Nat) => tl (j + al)) (fun (j : Nat) => vl (j + al)) fun (j : Nat) =>
 gl (j + al)))
 (Kret (PV.tf false) ([[(2, false,
 Blk.cols ml
 [Col.int IntKind.i64 tl, Col.int IntKind.i64 vl, Col.int IntKind.i64 gl]),
 (1, false, Blk.cols mp [Col.int IntKind.i64 tp]),
 (0, false,
 Blk.cols mq [Col.str tq, Col.int IntKind.i64 vq, Col.int IntKind.i64 gq])]]) (14))
 (test (Prod.snd
 (S.safS (List.length (S.mkl nq fun (j : Nat) => (tq (j + aq), vq (j + aq), gq (j + aq))))
 (S.netE (List.length (S.mkl nq fun (j : Nat) => (tq (j + aq), vq (j + aq), gq (j + aq))))
 (fun (j : Nat) =>
 (S.at' (S.mkl nq fun (j : Nat) => (tq (j + aq), vq (j + aq), gq (j + aq))) j).1)
 (fun (j : Nat) =>
 (S.at' (S.mkl nq fun (j : Nat) => (tq (j + aq), vq (j + aq), gq (j + aq))) j).2.1)
 (fun (j : Nat) =>
 (S.at' (S.mkl nq fun (j : Nat) => (tq (j + aq), vq (j + aq), gq (j + aq))) j).2.2)
 de)
 np (fun (j : Nat) => tp (j + ap)) nl (fun (j : Nat) => tl (j + al)) (fun (j : Nat) => vl (j + al))
 fun (j : Nat) => gl (j + al)) ==
 Prod.snd
 (S.safS nq
 (S.netE nq (fun (j : Nat) => tq (j + aq)) (fun (j : Nat) => vq (j + aq)) (fun (j : Nat) => gq (j + aq)) de)
 np (fun (j : Nat) => tp (j + ap)) nl (fun (j : Nat) => tl (j + al)) (fun (j : Nat) => vl (j + al))
 fun (j : Nat) => gl (j + al)))
 (Kret (PV.tf true) ([[(2, false,
 Blk.cols ml
 [Col.int IntKind.i64 tl, Col.int IntKind.i64 vl, Col.int IntKind.i64 gl]),
 (1, false, Blk.cols mp [Col.int IntKind.i64 tp]),
 (0, false,
 Blk.cols mq [Col.str tq, Col.int IntKind.i64 vq, Col.int IntKind.i64 gq])]]) (14))
 (Kret (PV.tf false) ([[(2, false,
 Blk.cols ml
 [Col.int IntKind.i64 tl, Col.int IntKind.i64 vl, Col.int IntKind.i64 gl]),
 (1, false, Blk.cols mp [Col.int IntKind.i64 tp]),
 (0, false,
 Blk.cols mq [Col.str tq, Col.int IntKind.i64 vq, Col.int IntKind.i64 gq])]]) (14))))
 (False)))
 (False))
 (False))
 (False))
 (False))))
 (test (true)
 (test (true)
 (Kret (PV.tf true) ([[(2, false,
 Blk.cols ml
 [Col.int IntKind.i64 tl, Col.int IntKind.i64 vl, Col.int IntKind.i64 gl]),
 (1, false, Blk.cols mp [Col.int IntKind.i64 tp]),
 (0, false,
 Blk.cols mq [Col.str tq, Col.int IntKind.i64 vq, Col.int IntKind.i64 gq])]]) (7))
 (Kret (PV.tf false) ([[(2, false,
 Blk.cols ml
 [Col.int IntKind.i64 tl, Col.int IntKind.i64 vl, Col.int IntKind.i64 gl]),
 (1, false, Blk.cols mp [Col.int IntKind.i64 tp]),
 (0, false,
 Blk.cols mq [Col.str tq, Col.int IntKind.i64 vq, Col.int IntKind.i64 gq])]]) (7)))
 (False)))
 (False))
 (test (true)
 (test (true)
 (Kret (PV.tf true) ([[(2, false,
 Blk.cols ml
 [Col.int IntKind.i64 tl, Col.int IntKind.i64 vl, Col.int IntKind.i64 gl]),
 (1, false, Blk.cols mp [Col.int IntKind.i64 tp]),
 (0, false,
 Blk.cols mq [Col.str tq, Col.int IntKind.i64 vq, Col.int IntKind.i64 gq])]]) (6))
 (Kret (PV.tf false) ([[(2, false,
 Blk.cols ml
 [Col.int IntKind.i64 tl, Col.int IntKind.i64 vl, Col.int IntKind.i64 gl]),
 (1, false, Blk.cols mp [Col.int IntKind.i64 tp]),
 (0, false,
 Blk.cols mq [Col.str tq, Col.int IntKind.i64 vq, Col.int IntKind.i64 gq])]]) (6)))
 (False)))
 (False)
set_option maxRecDepth 100000 in
theorem te6 (test : Bool → Prop → Prop → Prop) (Kst : KS) (Kret : KR) (aq nq mq : Nat) (tq : Nat → ByteArray) (vq : Nat → Int) (gq : Nat → Int) (de : Int) (ap np mp : Nat) (tp : Nat → Int) (al nl ml : Nat) (tl : Nat → Int) (vl : Nat → Int) (gl : Nat → Int) : run test Try.env true (xL4 test) true 400 ⟨6, [.cd (mkFn Try.f6).body], argT 0 [.agg [.loose ⟨0, 3, aq, 0⟩ nq, .int .i64 de], .loose ⟨1, 1, ap, 0⟩ np, .loose ⟨2, 3, al, 0⟩ nl], [[], [(0, (false, .cols mq [.str tq, .int .i64 vq, .int .i64 gq])), (1, (false, .cols mp [.int .i64 tp])), (2, (false, .cols ml [.int .i64 tl, .int .i64 vl, .int .i64 gl]))]], 3⟩ (proj 3 [] Kst Kret) =
  Te6 test Kst Kret aq nq mq tq vq gq de ap np mp tp al nl ml tl vl gl := by kernel_rfl
set_option maxRecDepth 100000 in
theorem be6 (aq nq mq : Nat) (tq : Nat → ByteArray) (vq : Nat → Int) (gq : Nat → Int) (de : Int) (ap np mp : Nat) (tp : Nat → Int) (al nl ml : Nat) (tl : Nat → Int) (vl : Nat → Int) (gl : Nat → Int) (Kst : KS) (Kret : KR) (x : St6 ⊕ Rt6) (hS : HS 3 400 ((I6 aq nq mq tq vq gq de ap np mp tp al nl ml tl vl gl)) Kst x) (hR : HR 3 400 ((V6 aq nq mq tq vq gq de ap np mp tp al nl ml tl vl gl)) (fun r => [newL (3 + 1) ((N6 aq nq mq tq vq gq de ap np mp tp al nl ml tl vl gl) r) ++ [(0, (false, .cols mq [.str tq, .int .i64 vq, .int .i64 gq])), (1, (false, .cols mp [.int .i64 tp])), (2, (false, .cols ml [.int .i64 tl, .int .i64 vl, .int .i64 gl]))]]) Kret x) (h : (bif (decide (aq + nq ≤ mq))
 then (bif (S.fewB nq fun (j : Nat) => tq (j + aq))
 then (bif (decide ((↑np : Int) > (20 : Int)))
 then (some (.inr (true)))
 else (bif (decide ((↑nl : Int) > (10 : Int)))
 then (some (.inr (true)))
 else (bif (decide (aq + nq ≤ mq ∧ nq ≤ 1000000))
 then (bif (decide (ap + np ≤ mp ∧ np ≤ 1000000))
 then (bif (decide (al + nl ≤ ml ∧ nl ≤ 1000000))
 then (bif (decide
 (0 + List.length (S.mkl nq fun (j : Nat) => (tq (j + aq), vq (j + aq), gq (j + aq))) ≤
 List.length (S.mkl nq fun (j : Nat) => (tq (j + aq), vq (j + aq), gq (j + aq))) ∧
 List.length (S.mkl nq fun (j : Nat) => (tq (j + aq), vq (j + aq), gq (j + aq))) ≤ 1000000 ∧
 (0 + np ≤ np ∧ np ≤ 1000000) ∧ 0 + nl ≤ nl ∧ nl ≤ 1000000))
 then (bif (Prod.fst
 (S.safS (List.length (S.mkl nq fun (j : Nat) => (tq (j + aq), vq (j + aq), gq (j + aq))))
 (S.netE (List.length (S.mkl nq fun (j : Nat) => (tq (j + aq), vq (j + aq), gq (j + aq))))
 (fun (j : Nat) =>
 (S.at' (S.mkl nq fun (j : Nat) => (tq (j + aq), vq (j + aq), gq (j + aq))) j).1)
 (fun (j : Nat) =>
 (S.at' (S.mkl nq fun (j : Nat) => (tq (j + aq), vq (j + aq), gq (j + aq))) j).2.1)
 (fun (j : Nat) =>
 (S.at' (S.mkl nq fun (j : Nat) => (tq (j + aq), vq (j + aq), gq (j + aq))) j).2.2)
 de)
 np (fun (j : Nat) => tp (j + ap)) nl (fun (j : Nat) => tl (j + al)) (fun (j : Nat) => vl (j + al)) fun (j : Nat) =>
 gl (j + al)))
 then (bif (decide
 (aq + nq ≤ mq ∧ nq ≤ 1000000 ∧ (ap + np ≤ mp ∧ np ≤ 1000000) ∧ al + nl ≤ ml ∧ nl ≤ 1000000))
 then (bif (Prod.fst
 (S.safS nq
 (S.netE nq (fun (j : Nat) => tq (j + aq)) (fun (j : Nat) => vq (j + aq)) (fun (j : Nat) => gq (j + aq)) de) np
 (fun (j : Nat) => tp (j + ap)) nl (fun (j : Nat) => tl (j + al)) (fun (j : Nat) => vl (j + al)) fun (j : Nat) =>
 gl (j + al)))
 then (bif (Prod.snd
 (S.safS (List.length (S.mkl nq fun (j : Nat) => (tq (j + aq), vq (j + aq), gq (j + aq))))
 (S.netE (List.length (S.mkl nq fun (j : Nat) => (tq (j + aq), vq (j + aq), gq (j + aq))))
 (fun (j : Nat) =>
 (S.at' (S.mkl nq fun (j : Nat) => (tq (j + aq), vq (j + aq), gq (j + aq))) j).1)
 (fun (j : Nat) =>
 (S.at' (S.mkl nq fun (j : Nat) => (tq (j + aq), vq (j + aq), gq (j + aq))) j).2.1)
 (fun (j : Nat) =>
 (S.at' (S.mkl nq fun (j : Nat) => (tq (j + aq), vq (j + aq), gq (j + aq))) j).2.2)
 de)
 np (fun (j : Nat) => tp (j + ap)) nl (fun (j : Nat) => tl (j + al)) (fun (j : Nat) => vl (j + al))
 fun (j : Nat) => gl (j + al)) ==
 Prod.snd
 (S.safS nq
 (S.netE nq (fun (j : Nat) => tq (j + aq)) (fun (j : Nat) => vq (j + aq)) (fun (j : Nat) => gq (j + aq)) de)
 np (fun (j : Nat) => tp (j + ap)) nl (fun (j : Nat) => tl (j + al)) (fun (j : Nat) => vl (j + al))
 fun (j : Nat) => gl (j + al)))
 then (some (.inr (true)))
 else (some (.inr (false))))
 else (some (.inr (false))))
 else (none))
 else (bif (decide
 (aq + nq ≤ mq ∧ nq ≤ 1000000 ∧ (ap + np ≤ mp ∧ np ≤ 1000000) ∧ al + nl ≤ ml ∧ nl ≤ 1000000))
 then (bif (Prod.fst
 (S.safS nq
 (S.netE nq (fun (j : Nat) => tq (j + aq)) (fun (j : Nat) => vq (j + aq)) (fun (j : Nat) => gq (j + aq)) de) np
 (fun (j : Nat) => tp (j + ap)) nl (fun (j : Nat) => tl (j + al)) (fun (j : Nat) => vl (j + al)) fun (j : Nat) =>
 gl (j + al)))
 then (some (.inr (false)))
 else (bif (Prod.snd
 (S.safS (List.length (S.mkl nq fun (j : Nat) => (tq (j + aq), vq (j + aq), gq (j + aq))))
 (S.netE (List.length (S.mkl nq fun (j : Nat) => (tq (j + aq), vq (j + aq), gq (j + aq))))
 (fun (j : Nat) =>
 (S.at' (S.mkl nq fun (j : Nat) => (tq (j + aq), vq (j + aq), gq (j + aq))) j).1)
 (fun (j : Nat) =>
 (S.at' (S.mkl nq fun (j : Nat) => (tq (j + aq), vq (j + aq), gq (j + aq))) j).2.1)
 (fun (j : Nat) =>
 (S.at' (S.mkl nq fun (j : Nat) => (tq (j + aq), vq (j + aq), gq (j + aq))) j).2.2)
 de)
 np (fun (j : Nat) => tp (j + ap)) nl (fun (j : Nat) => tl (j + al)) (fun (j : Nat) => vl (j + al))
 fun (j : Nat) => gl (j + al)) ==
 Prod.snd
 (S.safS nq
 (S.netE nq (fun (j : Nat) => tq (j + aq)) (fun (j : Nat) => vq (j + aq)) (fun (j : Nat) => gq (j + aq)) de)
 np (fun (j : Nat) => tp (j + ap)) nl (fun (j : Nat) => tl (j + al)) (fun (j : Nat) => vl (j + al))
 fun (j : Nat) => gl (j + al)))
 then (some (.inr (true)))
 else (some (.inr (false)))))
 else (none)))
 else (none))
 else (none))
 else (none))
 else (none))))
 else (some (.inr (true))))
 else (none) : Option (St6 ⊕ Rt6)) = some x) : Te6 cond Kst Kret aq nq mq tq vq gq de ap np mp tp al nl ml tl vl gl := by
  unfold Te6
  exact cond_yes rfl (cond_yes rfl (bif_split h
   (fun c0 h => bif_split h
   (fun c1 h => bif_split h
   (fun c2 h => cond_yes rfl (cond_yes rfl (ret_at hR _ h (fun n => n) rfl rfl rfl (rn_bool_tf rfl) rfl (entl_bor (use_lo rfl) rfl rfl (entl_bor (use_lo rfl) rfl rfl (entl_bor (use_lo rfl) rfl rfl entl_nil))))))
   (fun c2 h => bif_split h
   (fun c3 h => cond_yes rfl (cond_yes rfl (ret_at hR _ h (fun n => n) rfl rfl rfl (rn_bool_tf rfl) rfl (entl_bor (use_lo rfl) rfl rfl (entl_bor (use_lo rfl) rfl rfl (entl_bor (use_lo rfl) rfl rfl entl_nil))))))
   (fun c3 h => bif_split h
   (fun c4 h => bif_split h
   (fun c5 h => bif_split h
   (fun c6 h => bif_split h
   (fun c7 h => bif_split h
   (fun c8 h => bif_split h
   (fun c9 h => bif_split h
   (fun c10 h => bif_split h
   (fun c11 h => ret_at hR _ h (fun n => n) rfl rfl rfl (rn_bool_tf rfl) rfl (entl_bor (use_lo rfl) rfl rfl (entl_bor (use_lo rfl) rfl rfl (entl_bor (use_lo rfl) rfl rfl entl_nil))))
   (fun c11 h => ret_at hR _ h (fun n => n) rfl rfl rfl (rn_bool_tf rfl) rfl (entl_bor (use_lo rfl) rfl rfl (entl_bor (use_lo rfl) rfl rfl (entl_bor (use_lo rfl) rfl rfl entl_nil)))))
   (fun c10 h => ret_at hR _ h (fun n => n) rfl rfl rfl (rn_bool_tf rfl) rfl (entl_bor (use_lo rfl) rfl rfl (entl_bor (use_lo rfl) rfl rfl (entl_bor (use_lo rfl) rfl rfl entl_nil)))))
   (fun c9 h => no_some h))
   (fun c8 h => bif_split h
   (fun c9 h => bif_split h
   (fun c10 h => ret_at hR _ h (fun n => n) rfl rfl rfl (rn_bool_tf rfl) rfl (entl_bor (use_lo rfl) rfl rfl (entl_bor (use_lo rfl) rfl rfl (entl_bor (use_lo rfl) rfl rfl entl_nil))))
   (fun c10 h => bif_split h
   (fun c11 h => ret_at hR _ h (fun n => n) rfl rfl rfl (rn_bool_tf rfl) rfl (entl_bor (use_lo rfl) rfl rfl (entl_bor (use_lo rfl) rfl rfl (entl_bor (use_lo rfl) rfl rfl entl_nil))))
   (fun c11 h => ret_at hR _ h (fun n => n) rfl rfl rfl (rn_bool_tf rfl) rfl (entl_bor (use_lo rfl) rfl rfl (entl_bor (use_lo rfl) rfl rfl (entl_bor (use_lo rfl) rfl rfl entl_nil))))))
   (fun c9 h => no_some h)))
   (fun c7 h => no_some h))
   (fun c6 h => no_some h))
   (fun c5 h => no_some h))
   (fun c4 h => no_some h))))
   (fun c1 h => cond_yes rfl (cond_yes rfl (ret_at hR _ h (fun n => n) rfl rfl rfl (rn_bool_tf rfl) rfl (entl_bor (use_lo rfl) rfl rfl (entl_bor (use_lo rfl) rfl rfl (entl_bor (use_lo rfl) rfl rfl entl_nil)))))))
   (fun c0 h => no_some h)))
theorem a6 (aq nq mq : Nat) (tq : Nat → ByteArray) (vq : Nat → Int) (gq : Nat → Int) (de : Int) (ap np mp : Nat) (tp : Nat → Int) (al nl ml : Nat) (tl : Nat → Int) (vl : Nat → Int) (gl : Nat → Int) {r : Rt6} (h : Goes ((q6 aq nq mq tq vq gq de ap np mp tp al nl ml tl vl gl)) ((p6 aq nq mq tq vq gq de ap np mp tp al nl ml tl vl gl)) r) : CallR Try.prog 6 [.agg [.loose ⟨0, 3, aq, 0⟩ nq, .int .i64 de], .loose ⟨1, 1, ap, 0⟩ np, .loose ⟨2, 3, al, 0⟩ nl] [[(0, (false, .cols mq [.str tq, .int .i64 vq, .int .i64 gq])), (1, (false, .cols mp [.int .i64 tp])), (2, (false, .cols ml [.int .i64 tl, .int .i64 vl, .int .i64 gl]))]] 3 ((V6 aq nq mq tq vq gq de ap np mp tp al nl ml tl vl gl) r) ((fun r => [newL (3 + 1) ((N6 aq nq mq tq vq gq de ap np mp tp al nl ml tl vl gl) r) ++ [(0, (false, .cols mq [.str tq, .int .i64 vq, .int .i64 gq])), (1, (false, .cols mp [.int .i64 tp])), (2, (false, .cols ml [.int .i64 tl, .int .i64 vl, .int .i64 gl]))]]) r) 400 ∧ ∃ F, Try.prog.funcs[6]? = some F ∧ F.body.isSome = true ∧ (F.name == "runtime.NumGoroutine") = false := by
  refine dec_calls (f := 6) (lo := 3) (hi := 400) (H := [[(0, (false, .cols mq [.str tq, .int .i64 vq, .int .i64 gq])), (1, (false, .cols mp [.int .i64 tp])), (2, (false, .cols ml [.int .i64 tl, .int .i64 vl, .int .i64 gl]))]]) (args := [.agg [.loose ⟨0, 3, aq, 0⟩ nq, .int .i64 de], .loose ⟨1, 1, ap, 0⟩ np, .loose ⟨2, 3, al, 0⟩ nl]) Try.envOk Try.mixed xL4_ok ((I6 aq nq mq tq vq gq de ap np mp tp al nl ml tl vl gl)) ((V6 aq nq mq tq vq gq de ap np mp tp al nl ml tl vl gl)) (fun r => [newL (3 + 1) ((N6 aq nq mq tq vq gq de ap np mp tp al nl ml tl vl gl) r) ++ [(0, (false, .cols mq [.str tq, .int .i64 vq, .int .i64 gq])), (1, (false, .cols mp [.int .i64 tp])), (2, (false, .cols ml [.int .i64 tl, .int .i64 vl, .int .i64 gl]))]]) (fn := mkFn Try.f6) (ts := []) (n := 400) rfl (by decide) (by simp) (names_of rfl) ?_ ?_ ?_ h
  · intro s; exact s.elim
  · intro Kst Kret x hS hR h
    exact Holds.eq (te6 cond Kst Kret aq nq mq tq vq gq de ap np mp tp al nl ml tl vl gl) (be6 aq nq mq tq vq gq de ap np mp tp al nl ml tl vl gl Kst Kret x hS hR h)
  · intro Kst Kret x hS hR s h; exact s.elim
noncomputable def k6 : Con := ⟨6, [.agg [.list [.str, .int .i64, .int .i64], .plain (.int .i64)], .one (.list [.int .i64]), .one (.list [.int .i64, .int .i64, .int .i64])], fun (x : ((Nat × Nat × Nat × (Nat → ByteArray) × (Nat → Int) × (Nat → Int) × Unit) × Int × Unit) × (Nat × Nat × Nat × (Nat → Int) × Unit) × (Nat × Nat × Nat × (Nat → Int) × (Nat → Int) × (Nat → Int) × Unit) × Unit) => (fun (aq nq mq : Nat) (tq : Nat → ByteArray) (vq : Nat → Int) (gq : Nat → Int) (de : Int) (ap np mp : Nat) (tp : Nat → Int) (al nl ml : Nat) (tl : Nat → Int) (vl : Nat → Int) (gl : Nat → Int) => decide (aq + nq ≤ mq ∧ ap + np ≤ mp ∧ al + nl ≤ ml)) x.1.1.1 x.1.1.2.1 x.1.1.2.2.1 x.1.1.2.2.2.1 x.1.1.2.2.2.2.1 x.1.1.2.2.2.2.2.1 x.1.2.1 x.2.1.1 x.2.1.2.1 x.2.1.2.2.1 x.2.1.2.2.2.1 x.2.2.1.1 x.2.2.1.2.1 x.2.2.1.2.2.1 x.2.2.1.2.2.2.1 x.2.2.1.2.2.2.2.1 x.2.2.1.2.2.2.2.2.1, fun (x : ((Nat × Nat × Nat × (Nat → ByteArray) × (Nat → Int) × (Nat → Int) × Unit) × Int × Unit) × (Nat × Nat × Nat × (Nat → Int) × Unit) × (Nat × Nat × Nat × (Nat → Int) × (Nat → Int) × (Nat → Int) × Unit) × Unit) => (fun (aq nq mq : Nat) (tq : Nat → ByteArray) (vq : Nat → Int) (gq : Nat → Int) (de : Int) (ap np mp : Nat) (tp : Nat → Int) (al nl ml : Nat) (tl : Nat → Int) (vl : Nat → Int) (gl : Nat → Int) => (V6 aq nq mq tq vq gq de ap np mp tp al nl ml tl vl gl) (true)) x.1.1.1 x.1.1.2.1 x.1.1.2.2.1 x.1.1.2.2.2.1 x.1.1.2.2.2.2.1 x.1.1.2.2.2.2.2.1 x.1.2.1 x.2.1.1 x.2.1.2.1 x.2.1.2.2.1 x.2.1.2.2.2.1 x.2.2.1.1 x.2.2.1.2.1 x.2.2.1.2.2.1 x.2.2.1.2.2.2.1 x.2.2.1.2.2.2.2.1 x.2.2.1.2.2.2.2.2.1, fun (x : ((Nat × Nat × Nat × (Nat → ByteArray) × (Nat → Int) × (Nat → Int) × Unit) × Int × Unit) × (Nat × Nat × Nat × (Nat → Int) × Unit) × (Nat × Nat × Nat × (Nat → Int) × (Nat → Int) × (Nat → Int) × Unit) × Unit) => (fun (aq nq mq : Nat) (tq : Nat → ByteArray) (vq : Nat → Int) (gq : Nat → Int) (de : Int) (ap np mp : Nat) (tp : Nat → Int) (al nl ml : Nat) (tl : Nat → Int) (vl : Nat → Int) (gl : Nat → Int) => (N6 aq nq mq tq vq gq de ap np mp tp al nl ml tl vl gl) (true)) x.1.1.1 x.1.1.2.1 x.1.1.2.2.1 x.1.1.2.2.2.1 x.1.1.2.2.2.2.1 x.1.1.2.2.2.2.2.1 x.1.2.1 x.2.1.1 x.2.1.2.1 x.2.1.2.2.1 x.2.1.2.2.2.1 x.2.2.1.1 x.2.2.1.2.1 x.2.2.1.2.2.1 x.2.2.1.2.2.2.1 x.2.2.1.2.2.2.2.1 x.2.2.1.2.2.2.2.2.1, fun _ _ => .dead⟩
theorem s6 (aq nq mq : Nat) (tq : Nat → ByteArray) (vq : Nat → Int) (gq : Nat → Int) (de : Int) (ap np mp : Nat) (tp : Nat → Int) (al nl ml : Nat) (tl : Nat → Int) (vl : Nat → Int) (gl : Nat → Int) (hp : aq + nq ≤ mq ∧ ap + np ≤ mp ∧ al + nl ≤ ml) : Goes ((q6 aq nq mq tq vq gq de ap np mp tp al nl ml tl vl gl)) ((p6 aq nq mq tq vq gq de ap np mp tp al nl ml tl vl gl)) (true) := by
  obtain ⟨hp1, hp2, hp3⟩ := hp
  unfold p6
  cases hf : S.fewB nq (fun j => tq (j + aq))
  · rw [decide_eq_true (show aq + nq ≤ mq by omega)]
    exact goes_inr.mpr rfl
  have hq : nq ≤ 20 := by
    unfold S.fewB at hf
    rw [Bool.and_eq_true, decide_eq_true_eq] at hf
    exact hf.1
  simp only [mkl_len, Nat.zero_add, net_mkl]
  generalize S.safS nq (S.netE nq (fun j => tq (j + aq)) (fun j => vq (j + aq)) (fun j => gq (j + aq)) de) np (fun j => tp (j + ap)) nl (fun j => tl (j + al)) (fun j => vl (j + al)) (fun j => gl (j + al)) = X at *
  show Goes _ _ _
  obtain ⟨A, e⟩ := X
  cases A
  all_goals
   repeat' first
    | with_reducible exact goes_inr.mpr rfl
    | with_reducible refine goes_if (fun h => ?_) (fun h => ?_) <;> (try simp only [lim64, imp_false, decide_eq_true_eq, decide_eq_false_iff_not, Int.toNat_natCast, toNat_pred, toNat_succ, Option.getD_some, Option.getD_none, Bool.not_eq_true', Bool.not_eq_false', Bool.and_eq_true, Bool.or_eq_true, Bool.and_eq_false_iff, Bool.or_eq_false_iff, bne_iff_ne, beq_iff_eq, bne_eq_false_iff_eq, beq_eq_false_iff_ne, ne_eq, not_and, Int.not_le, Int.not_lt, ge_iff_le, gt_iff_lt, Nat.not_lt, Nat.not_le, Bool.not_eq_true, Bool.not_eq_false, Bool.true_eq_false, Bool.false_eq_true, not_false_eq_true, not_true_eq_false] at h)
    | exact goes_none.mpr (by omega)
   all_goals first | (exfalso; omega) | exact goes_inr.mpr rfl | (exfalso; simp_all; done) | (exfalso; simp at h; done)
theorem k6_ok : k6.ok Try.prog := by
  intro x hx
  obtain ⟨⟨⟨aq, nq, mq, tq, vq, gq, _⟩, de, _⟩, ⟨ap, np, mp, tp, _⟩, ⟨al, nl, ml, tl, vl, gl, _⟩, _⟩ := x
  obtain ⟨h1, h2⟩ := a6 aq nq mq tq vq gq de ap np mp tp al nl ml tl vl gl (s6 aq nq mq tq vq gq de ap np mp tp al nl ml tl vl gl (of_dec hx rfl))
  exact ⟨⟨400, (by decide : 3 + 1 + 0 ≤ 400), h1⟩, h2⟩
end Go.Ev
