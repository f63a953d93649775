/-
  The parts that the statement needs, 2 of 4.
-/
import Derived.Test.YtpnklpakehlbeaaV101
namespace Go.Ev
open Go.Proofs
open Go.IntWalk
set_option linter.unusedVariables false
set_option linter.unusedSimpArgs false
set_option maxRecDepth 100000
set_option maxHeartbeats 2000000
theorem b44_3 (aq nq mq : Nat) (tq : Nat → ByteArray) (vq : Nat → Int) (gq : Nat → Int) (de : Int) (Kst : KS) (Kret : KR) (x : St44 ⊕ Rt44) (hS : HS 1 400 ((I44 aq nq mq tq vq gq de)) Kst x) (hR : HR 1 400 ((V44 aq nq mq tq vq gq de)) (fun r => [newL (1 + 1) ((N44 aq nq mq tq vq gq de) r) ++ [(0, (false, .cols mq [.str tq, .int .i64 vq, .int .i64 gq]))]]) Kret x) (x0 : Int) (x1 : List (Int × Int × Int)) (h : (bif (decide (x0 < (↑nq : Int)))
 then (bif (decide (List.length x1 + 1 ≤ 1000000))
 then (bif (decide (List.length x1 ≤ List.length x1))
 then (bif (lim IntKind.i64 (x0 + (1 : Int)))
 then (some (.inl (.h3 (x0 + (1 : Int)) (S.snoc x1 ((3 : Int), (0 : Int), x0)))))
 else (none))
 else (none))
 else (none))
 else (bif (decide (List.length x1 + 2 ≤ 1000000))
 then (bif (decide (List.length x1 ≤ List.length x1))
 then (some (.inr (S.mkl (List.length x1 + 2) fun j =>
 (bif Nat.blt j (List.length x1) then (S.at' x1 j).1
 else bif Nat.blt (j - List.length x1) (1) then (4 : Int) else (4 : Int),
 bif Nat.blt j (List.length x1) then (S.at' x1 j).2.1
 else bif Nat.blt (j - List.length x1) (1) then (1 : Int) else (2 : Int),
 bif Nat.blt j (List.length x1) then (S.at' x1 j).2.2
 else bif Nat.blt (j - List.length x1) (1) then (0 : Int) else (0 : Int)))))
 else (none))
 else (none)) : Option (St44 ⊕ Rt44)) = some x) : T44_3 cond Kst Kret aq nq mq tq vq gq de x0 x1 := by
  unfold T44_3
  exact bif_split h
   (fun c0 h => bif_split h
   (fun c1 h => bif_split h
   (fun c2 h => cond_yes rfl (bif_split h
   (fun c3 h => stop_at hS _ h (fun n => bif Nat.beq n 1 then 3 else n) rfl rfl rfl ⟨(rn_unk _), ⟨(rn_own (use_own rfl) rfl (snoc_len' rfl)), ⟨(rn_unk _), ⟨(rn_unk _), ⟨(rn_unk _), ⟨(rn_unk _), ⟨(rn_unk _), ⟨(rn_unk _), ⟨(rn_unk _), ⟨(rn_unk _), ⟨(rn_unk _), ⟨(rn_unk _), ⟨(rn_int rfl), ⟨(rn_int rfl), trivial⟩⟩⟩⟩⟩⟩⟩⟩⟩⟩⟩⟩⟩⟩ rfl (entl_new (use_own rfl) rfl (Nat.le_of_eq (snoc_len' rfl)) (rcs_int (col_snoc' (fun (t : Int × Int × Int) => t.1) rfl (fun _ _ => rfl)) (rcs_int (col_snoc' (fun (t : Int × Int × Int) => t.2.1) rfl (fun _ _ => rfl)) (rcs_int (col_snoc' (fun (t : Int × Int × Int) => t.2.2) rfl (fun _ _ => rfl)) rcs_nil))) (entl_bor (use_lo rfl) rfl rfl entl_nil)))
   (fun c3 h => no_some h)))
   (fun c2 h => no_some h))
   (fun c1 h => no_some h))
   (fun c0 h => bif_split h
   (fun c1 h => bif_split h
   (fun c2 h => cond_yes rfl (ret_at hR _ h (fun n => bif Nat.beq n 2 then 3 else n) rfl rfl rfl (rn_own (use_own rfl) rfl mkl_len) rfl (entl_new (use_own rfl) rfl (Nat.le_of_eq mkl_len) (rcs_int (fun _ hj => col_mkl (fun (t : Int × Int × Int) => t.1) hj) (rcs_int (fun _ hj => col_mkl (fun (t : Int × Int × Int) => t.2.1) hj) (rcs_int (fun _ hj => col_mkl (fun (t : Int × Int × Int) => t.2.2) hj) rcs_nil))) (entl_bor (use_lo rfl) rfl rfl entl_nil))))
   (fun c2 h => no_some h))
   (fun c1 h => no_some h))
theorem a44 (aq nq mq : Nat) (tq : Nat → ByteArray) (vq : Nat → Int) (gq : Nat → Int) (de : Int) {r : Rt44} (h : Goes ((q44 aq nq mq tq vq gq de)) ((p44 aq nq mq tq vq gq de)) r) : CallR Try.prog 44 [.agg [.loose ⟨0, 3, aq, 0⟩ nq, .int .i64 de]] [[(0, (false, .cols mq [.str tq, .int .i64 vq, .int .i64 gq]))]] 1 ((V44 aq nq mq tq vq gq de) r) ((fun r => [newL (1 + 1) ((N44 aq nq mq tq vq gq de) r) ++ [(0, (false, .cols mq [.str tq, .int .i64 vq, .int .i64 gq]))]]) r) 400 ∧ ∃ F, Try.prog.funcs[44]? = some F ∧ F.body.isSome = true ∧ (F.name == "runtime.NumGoroutine") = false := by
  refine dec_calls (f := 44) (lo := 1) (hi := 400) (H := [[(0, (false, .cols mq [.str tq, .int .i64 vq, .int .i64 gq]))]]) (args := [.agg [.loose ⟨0, 3, aq, 0⟩ nq, .int .i64 de]]) Try.envOk Try.mixed noX_ok ((I44 aq nq mq tq vq gq de)) ((V44 aq nq mq tq vq gq de)) (fun r => [newL (1 + 1) ((N44 aq nq mq tq vq gq de) r) ++ [(0, (false, .cols mq [.str tq, .int .i64 vq, .int .i64 gq]))]]) (fn := mkFn Try.f44) (ts := [1, 3, 5, 7, 10, 11, 12, 16, 17, 18, 24, 25, 40, 41]) (n := 400) rfl (by decide) (by simp) (names_of rfl) ?_ ?_ ?_ h
  · intro s; cases s <;> exact ⟨hd_ok _ _, by simp [I44], names_of rfl, Nat.le_of_ble_eq_true rfl⟩
  · intro Kst Kret x hS hR h
    exact Holds.eq (te44 cond Kst Kret aq nq mq tq vq gq de) (be44 aq nq mq tq vq gq de Kst Kret x hS hR h)
  · intro Kst Kret x hS hR s h
    cases s with
    | h0 x0 x1 x2 => exact Holds.eq (t44_0 cond Kst Kret aq nq mq tq vq gq de x0 x1 x2) (b44_0 aq nq mq tq vq gq de Kst Kret x hS hR x0 x1 x2 h)
    | h1 x0 x1 x2 x3 x4 x5 => exact Holds.eq (t44_1 cond Kst Kret aq nq mq tq vq gq de x0 x1 x2 x3 x4 x5) (b44_1 aq nq mq tq vq gq de Kst Kret x hS hR x0 x1 x2 x3 x4 x5 h)
    | h2 x0 x1 x2 x3 x4 x5 x6 x7 => exact Holds.eq (t44_2 cond Kst Kret aq nq mq tq vq gq de x0 x1 x2 x3 x4 x5 x6 x7) (b44_2 aq nq mq tq vq gq de Kst Kret x hS hR x0 x1 x2 x3 x4 x5 x6 x7 h)
    | h3 x0 x1 => exact Holds.eq (t44_3 cond Kst Kret aq nq mq tq vq gq de x0 x1) (b44_3 aq nq mq tq vq gq de Kst Kret x hS hR x0 x1 h)
noncomputable def k44 : Con := ⟨44, [.agg [.list [.str, .int .i64, .int .i64], .plain (.int .i64)]], fun (x : ((Nat × Nat × Nat × (Nat → ByteArray) × (Nat → Int) × (Nat → Int) × Unit) × Int × Unit) × Unit) => (fun (aq nq mq : Nat) (tq : Nat → ByteArray) (vq : Nat → Int) (gq : Nat → Int) (de : Int) => decide (nq ≤ 100000)) x.1.1.1 x.1.1.2.1 x.1.1.2.2.1 x.1.1.2.2.2.1 x.1.1.2.2.2.2.1 x.1.1.2.2.2.2.2.1 x.1.2.1, fun (x : ((Nat × Nat × Nat × (Nat → ByteArray) × (Nat → Int) × (Nat → Int) × Unit) × Int × Unit) × Unit) => (fun (aq nq mq : Nat) (tq : Nat → ByteArray) (vq : Nat → Int) (gq : Nat → Int) (de : Int) => (V44 aq nq mq tq vq gq de) (S.failL nq)) x.1.1.1 x.1.1.2.1 x.1.1.2.2.1 x.1.1.2.2.2.1 x.1.1.2.2.2.2.1 x.1.1.2.2.2.2.2.1 x.1.2.1, fun (x : ((Nat × Nat × Nat × (Nat → ByteArray) × (Nat → Int) × (Nat → Int) × Unit) × Int × Unit) × Unit) => (fun (aq nq mq : Nat) (tq : Nat → ByteArray) (vq : Nat → Int) (gq : Nat → Int) (de : Int) => (N44 aq nq mq tq vq gq de) (S.failL nq)) x.1.1.1 x.1.1.2.1 x.1.1.2.2.1 x.1.1.2.2.2.1 x.1.1.2.2.2.2.1 x.1.1.2.2.2.2.2.1 x.1.2.1, fun _ _ => .dead⟩
theorem s44a (aq nq mq : Nat) (tq : Nat → ByteArray) (vq : Nat → Int) (gq : Nat → Int) (de : Int) (hp : nq ≤ 100000) (k l a b : Int) (hb : lim .i64 (b + 1) = true) (U V : List Int) (R : List (Int × Int × Int)) : ∀ (c i : Nat) (L : List (Int × Int × Int)), i + c = nq → L.length ≤ 500000 + i → Comes (q44 aq nq mq tq vq gq de) (.h1 k a (b + 1) U V (S.fcl k l i c L)) R → Comes (q44 aq nq mq tq vq gq de) (.h2 k l a b (i : Int) U V L) R := by
  intro c
  induction c with
  | zero =>
    intro i L hi hL hm
    apply Comes.of
    show Goes _ _ _
    (first | rw [q44] | unfold q44)
    try simp only [hb, cond_true]
    try show Goes _ _ _
    repeat' first
      | with_reducible refine goes_if (fun h => ?_) (fun h => ?_) <;> (try simp only [lim64, imp_false, decide_eq_true_eq, decide_eq_false_iff_not, Int.toNat_natCast, toNat_pred, toNat_succ, Option.getD_some, Option.getD_none, Bool.not_eq_true', Bool.not_eq_false', Bool.and_eq_true, Bool.or_eq_true, Bool.and_eq_false_iff, Bool.or_eq_false_iff, bne_iff_ne, beq_iff_eq, bne_eq_false_iff_eq, beq_eq_false_iff_ne, ne_eq, not_and, Int.not_le, Int.not_lt, ge_iff_le, gt_iff_lt, Nat.not_lt, Nat.not_le, Bool.not_eq_true, Bool.not_eq_false, Bool.true_eq_false, Bool.false_eq_true, not_false_eq_true, not_true_eq_false] at h)
      | exact goes_none.mpr (by omega)
    all_goals first | (exfalso; omega) | exact hm
  | succ c ih =>
    intro i L hi hL hm
    have ih := ih (i + 1) (S.snoc L (k, l, (i : Int))) (by omega) (by rw [snoc_len]; omega) hm
    apply Comes.of
    show Goes _ _ _
    (first | rw [q44] | unfold q44)
    try simp only [hb, cond_true]
    try show Goes _ _ _
    repeat' first
      | with_reducible refine goes_if (fun h => ?_) (fun h => ?_) <;> (try simp only [lim64, imp_false, decide_eq_true_eq, decide_eq_false_iff_not, Int.toNat_natCast, toNat_pred, toNat_succ, Option.getD_some, Option.getD_none, Bool.not_eq_true', Bool.not_eq_false', Bool.and_eq_true, Bool.or_eq_true, Bool.and_eq_false_iff, Bool.or_eq_false_iff, bne_iff_ne, beq_iff_eq, bne_eq_false_iff_eq, beq_eq_false_iff_ne, ne_eq, not_and, Int.not_le, Int.not_lt, ge_iff_le, gt_iff_lt, Nat.not_lt, Nat.not_le, Bool.not_eq_true, Bool.not_eq_false, Bool.true_eq_false, Bool.false_eq_true, not_false_eq_true, not_true_eq_false] at h)
      | exact goes_none.mpr (by omega)
    all_goals first | (exfalso; omega) | exact ih
theorem s44b (aq nq mq : Nat) (tq : Nat → ByteArray) (vq : Nat → Int) (gq : Nat → Int) (de : Int) (hp : nq ≤ 100000) (R : List (Int × Int × Int)) : ∀ (c i : Nat) (L : List (Int × Int × Int)), i + c = nq → L.length ≤ 500000 + i → S.snoc (S.snoc (S.fcl 3 0 i c L) (4, 1, 0)) (4, 2, 0) = R → Comes (q44 aq nq mq tq vq gq de) (.h3 (i : Int) L) R := by
  intro c
  induction c with
  | zero =>
    intro i L hi hL hm
    apply Comes.of
    show Goes _ _ _
    (first | rw [q44] | unfold q44)
    try simp only [snoc_two]
    try show Goes _ _ _
    repeat' first
      | with_reducible refine goes_if (fun h => ?_) (fun h => ?_) <;> (try simp only [lim64, imp_false, decide_eq_true_eq, decide_eq_false_iff_not, Int.toNat_natCast, toNat_pred, toNat_succ, Option.getD_some, Option.getD_none, Bool.not_eq_true', Bool.not_eq_false', Bool.and_eq_true, Bool.or_eq_true, Bool.and_eq_false_iff, Bool.or_eq_false_iff, bne_iff_ne, beq_iff_eq, bne_eq_false_iff_eq, beq_eq_false_iff_ne, ne_eq, not_and, Int.not_le, Int.not_lt, ge_iff_le, gt_iff_lt, Nat.not_lt, Nat.not_le, Bool.not_eq_true, Bool.not_eq_false, Bool.true_eq_false, Bool.false_eq_true, not_false_eq_true, not_true_eq_false] at h)
      | exact goes_none.mpr (by omega)
    all_goals first | (exfalso; omega) | exact goes_inr.mpr hm
  | succ c ih =>
    intro i L hi hL hm
    have ih := ih (i + 1) (S.snoc L (3, 0, (i : Int))) (by omega) (by rw [snoc_len]; omega) hm
    apply Comes.of
    show Goes _ _ _
    (first | rw [q44] | unfold q44)
    try simp only [snoc_two]
    try show Goes _ _ _
    repeat' first
      | with_reducible refine goes_if (fun h => ?_) (fun h => ?_) <;> (try simp only [lim64, imp_false, decide_eq_true_eq, decide_eq_false_iff_not, Int.toNat_natCast, toNat_pred, toNat_succ, Option.getD_some, Option.getD_none, Bool.not_eq_true', Bool.not_eq_false', Bool.and_eq_true, Bool.or_eq_true, Bool.and_eq_false_iff, Bool.or_eq_false_iff, bne_iff_ne, beq_iff_eq, bne_eq_false_iff_eq, beq_eq_false_iff_ne, ne_eq, not_and, Int.not_le, Int.not_lt, ge_iff_le, gt_iff_lt, Nat.not_lt, Nat.not_le, Bool.not_eq_true, Bool.not_eq_false, Bool.true_eq_false, Bool.false_eq_true, not_false_eq_true, not_true_eq_false] at h)
      | exact goes_none.mpr (by omega)
    all_goals first | (exfalso; omega) | exact ih
theorem s44 (aq nq mq : Nat) (tq : Nat → ByteArray) (vq : Nat → Int) (gq : Nat → Int) (de : Int) (hp : nq ≤ 100000) : Goes ((q44 aq nq mq tq vq gq de)) ((p44 aq nq mq tq vq gq de)) (S.failL nq) := by
  have e : ∀ U V : List Int, ∀ k a b : Int, lim .i64 (b + 1) = true → ∀ l L R, L.length ≤ 500000 → Comes (q44 aq nq mq tq vq gq de) (.h1 k a (b + 1) U V (S.fcl k l 0 nq L)) R → Comes (q44 aq nq mq tq vq gq de) (.h2 k l a b 0 U V L) R := fun U V k a b hb l L R hL h => s44a aq nq mq tq vq gq de hp k l a b hb U V R nq 0 L (Nat.zero_add _) hL h
  unfold p44
  show Comes _ _ _
  refine Comes.next (s' := .h1 1 0 0 [1, 2] [1, 2] []) rfl (Comes.next (s' := .h2 1 1 0 0 0 [1, 2] [1, 2] []) rfl ?_)
  refine e _ _ _ _ _ rfl _ _ _ (by rw [List.length_nil]; omega) (Comes.next (s' := .h2 1 2 0 1 0 [1, 2] [1, 2] _) rfl ?_)
  refine e _ _ _ _ _ rfl _ _ _ (by simp only [fcl_len, List.length_nil]; omega) (Comes.next (s' := .h0 1 [1, 2] _) rfl ?_)
  refine Comes.next (s' := .h1 2 1 0 [1, 2] [1, 2] _) rfl (Comes.next (s' := .h2 2 1 1 0 0 [1, 2] [1, 2] _) rfl ?_)
  refine e _ _ _ _ _ rfl _ _ _ (by simp only [fcl_len, List.length_nil]; omega) (Comes.next (s' := .h2 2 2 1 1 0 [1, 2] [1, 2] _) rfl ?_)
  refine e _ _ _ _ _ rfl _ _ _ (by simp only [fcl_len, List.length_nil]; omega) (Comes.next (s' := .h0 2 [1, 2] _) rfl ?_)
  refine Comes.next (s' := .h3 0 _) rfl ?_
  exact s44b aq nq mq tq vq gq de hp _ nq 0 _ (Nat.zero_add _) (by simp only [fcl_len, List.length_nil]; omega) rfl
theorem k44_ok : k44.ok Try.prog := by
  intro x hx
  obtain ⟨⟨⟨aq, nq, mq, tq, vq, gq, _⟩, de, _⟩, _⟩ := x
  obtain ⟨h1, h2⟩ := a44 aq nq mq tq vq gq de (s44 aq nq mq tq vq gq de (of_dec hx rfl))
  exact ⟨⟨400, (by decide : 1 + 1 + 1 ≤ 400), h1⟩, h2⟩
noncomputable def xU (test : Bool → Prop → Prop → Prop) : Ext := consX test [k44, k76]
theorem xU_ok : ExtOk Try.prog (xU cond) := consX_ok ⟨k44_ok, k76_ok, trivial⟩
inductive St54 where
  | h0 (x0 : Int)
abbrev Rt54 := Bool
noncomputable def V54 (lp : Int) (ao no mo : Nat) (to : Nat → Bool) (al nl ml : Nat) (tl : Nat → Int) (vl : Nat → Int) (gl : Nat → Int) (r : Rt54) : PV := PV.bool r
noncomputable def N54 (lp : Int) (ao no mo : Nat) (to : Nat → Bool) (al nl ml : Nat) (tl : Nat → Int) (vl : Nat → Int) (gl : Nat → Int) (r : Rt54) : List Blk := []
noncomputable def I54 (lp : Int) (ao no mo : Nat) (to : Nat → Bool) (al nl ml : Nat) (tl : Nat → Int) (vl : Nat → Int) (gl : Nat → Int) : St54 → Hd
  | .h0 x0 => ⟨hd Try.f54 0, [PV.int IntKind.i64 lp,
 PV.fn (Go.Fn.func (75)) [] [PV.ptr (PA.mk (2) (0) (0) (0))],
 PV.loose (PA.mk (0) (1) ao (0)) no, PV.int IntKind.i64 (↑no : Int),
 PV.int IntKind.i64 x0], [[(2, (true, Blk.cells [PV.loose (PA.mk (1) (3) al (0)) nl]))], [(0, (false, .cols mo [.bool to])), (1, (false, .cols ml [.int .i64 tl, .int .i64 vl, .int .i64 gl]))]], 3⟩
noncomputable def q54 (lp : Int) (ao no mo : Nat) (to : Nat → Bool) (al nl ml : Nat) (tl : Nat → Int) (vl : Nat → Int) (gl : Nat → Int) : St54 → Option (St54 ⊕ Rt54)
  | .h0 x0 => bif (decide (x0 < (↑no : Int)))
 then (bif (decide ((0 : Int) ≤ x0 ∧ x0 < (↑no : Int)))
 then (bif (decide (Int.toNat x0 + ao < mo))
 then (bif (to (Int.toNat x0 + ao))
 then (bif (decide (al + nl ≤ ml ∧ nl ≤ 1000000))
 then (bif (S.any
 (fun j =>
 decide (tl (j + al) = (2 : Int)) && decide (vl (j + al) = lp) &&
 decide (gl (j + al) = x0))
 nl)
 then (some (.inr (true)))
 else (bif (S.any
 (fun j =>
 decide (tl (j + al) = (3 : Int)) && decide (vl (j + al) = (0 : Int)) &&
 decide (gl (j + al) = x0))
 nl)
 then (some (.inr (true)))
 else (bif (lim IntKind.i64 (x0 + (1 : Int)))
 then (some (.inl (.h0 (x0 + (1 : Int)))))
 else (none))))
 else (none))
 else (bif (decide (al + nl ≤ ml ∧ nl ≤ 1000000))
 then (bif (S.any
 (fun j =>
 decide (tl (j + al) = (2 : Int)) && decide (vl (j + al) = lp) &&
 decide (gl (j + al) = x0))
 nl)
 then (some (.inr (true)))
 else (bif (S.any
 (fun j =>
 decide (tl (j + al) = (3 : Int)) && decide (vl (j + al) = (0 : Int)) &&
 decide (gl (j + al) = x0))
 nl)
 then (some (.inr (true)))
 else (bif (S.any
 (fun j =>
 decide (tl (j + al) = (1 : Int)) && decide (vl (j + al) = lp) &&
 decide (gl (j + al) = x0))
 nl)
 then (bif (lim IntKind.i64 (x0 + (1 : Int)))
 then (some (.inl (.h0 (x0 + (1 : Int)))))
 else (none))
 else (some (.inr (true))))))
 else (none)))
 else (none))
 else (none))
 else (some (.inr (false)))
noncomputable def p54 (lp : Int) (ao no mo : Nat) (to : Nat → Bool) (al nl ml : Nat) (tl : Nat → Int) (vl : Nat → Int) (gl : Nat → Int) : Option (St54 ⊕ Rt54) := bif (decide (al + nl ≤ ml ∧ nl ≤ 1000000))
 then (bif (S.any
 (fun j =>
 decide (tl (j + al) = (4 : Int)) && decide (vl (j + al) = lp) &&
 decide (gl (j + al) = (0 : Int)))
 nl)
 then (some (.inr (false)))
 else (some (.inl (.h0 ((0 : Int))))))
 else (none)
noncomputable def Te54 (test : Bool → Prop → Prop → Prop) (Kst : KS) (Kret : KR) (lp : Int) (ao no mo : Nat) (to : Nat → Bool) (al nl ml : Nat) (tl : Nat → Int) (vl : Nat → Int) (gl : Nat → Int) : Prop :=
  test (decide (al + nl ≤ ml ∧ nl ≤ 1000000))
 (test (S.any
 (fun j =>
 decide (tl (j + al) = (4 : Int)) && decide (vl (j + al) = lp) &&
 decide (gl (j + al) = (0 : Int)))
 nl)
 (Kret (PV.tf false) ([[(1, false,
 Blk.cols ml
 [Col.int IntKind.i64 tl, Col.int IntKind.i64 vl, Col.int IntKind.i64 gl]),
 (0, false, Blk.cols mo [Col.bool to])]]) (5))
 (Kst (hd Try.f54 0) ([PV.int IntKind.i64 lp,
 PV.fn (Go.Fn.func (75)) [] [PV.ptr (PA.mk (2) (0) (0) (0))],
 PV.loose (PA.mk (0) (1) ao (0)) no, PV.int IntKind.i64 (↑no : Int),
 PV.int IntKind.i64 (0 : Int)]) ([[(1, false,
 Blk.cols ml
 [Col.int IntKind.i64 tl, Col.int IntKind.i64 vl, Col.int IntKind.i64 gl]),
 (0, false, Blk.cols mo [Col.bool to]),
 (2, true, Blk.cells [PV.loose (PA.mk (1) (3) al (0)) nl])]]) (5)))
 (False)
theorem te54 (test : Bool → Prop → Prop → Prop) (Kst : KS) (Kret : KR) (lp : Int) (ao no mo : Nat) (to : Nat → Bool) (al nl ml : Nat) (tl : Nat → Int) (vl : Nat → Int) (gl : Nat → Int) : run test Try.env true (xU test) true 400 ⟨54, [.cd (mkFn Try.f54).body], argT 0 [.int .i64 lp, .loose ⟨0, 1, ao, 0⟩ no, .loose ⟨1, 3, al, 0⟩ nl], [[], [(0, (false, .cols mo [.bool to])), (1, (false, .cols ml [.int .i64 tl, .int .i64 vl, .int .i64 gl]))]], 2⟩ (proj 2 [0, 7, 15, 16, 17] Kst Kret) =
  Te54 test Kst Kret lp ao no mo to al nl ml tl vl gl := by kernel_rfl
noncomputable def T54_0 (test : Bool → Prop → Prop → Prop) (Kst : KS) (Kret : KR) (lp : Int) (ao no mo : Nat) (to : Nat → Bool) (al nl ml : Nat) (tl : Nat → Int) (vl : Nat → Int) (gl : Nat → Int) (x0 : Int) : Prop :=
  test (decide (x0 < (↑no : Int)))
 (test (decide ((0 : Int) ≤ x0 ∧ x0 < (↑no : Int)))
 (test (decide (Int.toNat x0 + ao < mo))
 (test (to (Int.toNat x0 + ao))
 (test (decide (al + nl ≤ ml ∧ nl ≤ 1000000))
 (test (S.any
 (fun j =>
 decide (tl (j + al) = (2 : Int)) && decide (vl (j + al) = lp) &&
 decide (gl (j + al) = x0))
 nl)
 (Kret (PV.tf true) ([[(1, false,
 Blk.cols ml
 [Col.int IntKind.i64 tl, Col.int IntKind.i64 vl, Col.int IntKind.i64 gl]),
 (0, false, Blk.cols mo [Col.bool to])]]) (5))
 (test (decide (al + nl ≤ ml ∧ nl ≤ 1000000))
 (test (S.any
 (fun j =>
 decide (tl (j + al) = (3 : Int)) && decide (vl (j + al) = (0 : Int)) &&
 decide (gl (j + al) = x0))
 nl)
 (Kret (PV.tf true) ([[(1, false,
 Blk.cols ml
 [Col.int IntKind.i64 tl, Col.int IntKind.i64 vl, Col.int IntKind.i64 gl]),
 (0, false, Blk.cols mo [Col.bool to])]]) (7))
 (test (lim IntKind.i64 (x0 + (1 : Int)))
 (Kst (hd Try.f54 0) ([PV.int IntKind.i64 lp,
 PV.fn (Go.Fn.func (75)) [] [PV.ptr (PA.mk (2) (0) (0) (0))],
 PV.loose (PA.mk (0) (1) ao (0)) no, PV.int IntKind.i64 (↑no : Int),
 PV.int IntKind.i64 (x0 + (1 : Int))]) ([[(1, false,
 Blk.cols ml
 [Col.int IntKind.i64 tl, Col.int IntKind.i64 vl, Col.int IntKind.i64 gl]),
 (0, false, Blk.cols mo [Col.bool to]),
 (2, true, Blk.cells [PV.loose (PA.mk (1) (3) al (0)) nl])]]) (7))
 (False)))
 (False)))
 (False))
 (test (decide (al + nl ≤ ml ∧ nl ≤ 1000000))
 (test (S.any
 (fun j =>
 decide (tl (j + al) = (2 : Int)) && decide (vl (j + al) = lp) &&
 decide (gl (j + al) = x0))
 nl)
 (Kret (PV.tf true) ([[(1, false,
 Blk.cols ml
 [Col.int IntKind.i64 tl, Col.int IntKind.i64 vl, Col.int IntKind.i64 gl]),
 (0, false, Blk.cols mo [Col.bool to])]]) (5))
 (test (decide (al + nl ≤ ml ∧ nl ≤ 1000000))
 (test (S.any
 (fun j =>
 decide (tl (j + al) = (3 : Int)) && decide (vl (j + al) = (0 : Int)) &&
 decide (gl (j + al) = x0))
 nl)
 (Kret (PV.tf true) ([[(1, false,
 Blk.cols ml
 [Col.int IntKind.i64 tl, Col.int IntKind.i64 vl, Col.int IntKind.i64 gl]),
 (0, false, Blk.cols mo [Col.bool to])]]) (7))
 (test (decide (al + nl ≤ ml ∧ nl ≤ 1000000))
 (test (S.any
 (fun j =>
 decide (tl (j + al) = (1 : Int)) && decide (vl (j + al) = lp) &&
 decide (gl (j + al) = x0))
 nl)
 (test (lim IntKind.i64 (x0 + (1 : Int)))
 (Kst (hd Try.f54 0) ([PV.int IntKind.i64 lp,
 PV.fn (Go.Fn.func (75)) [] [PV.ptr (PA.mk (2) (0) (0) (0))],
 PV.loose (PA.mk (0) (1) ao (0)) no, PV.int IntKind.i64 (↑no : Int),
 PV.int IntKind.i64 (x0 + (1 : Int))]) ([[(1, false,
 Blk.cols ml
 [Col.int IntKind.i64 tl, Col.int IntKind.i64 vl, Col.int IntKind.i64 gl]),
 (0, false, Blk.cols mo [Col.bool to]),
 (2, true, Blk.cells [PV.loose (PA.mk (1) (3) al (0)) nl])]]) (9))
 (False))
 (Kret (PV.tf true) ([[(1, false,
 Blk.cols ml
 [Col.int IntKind.i64 tl, Col.int IntKind.i64 vl, Col.int IntKind.i64 gl]),
 (0, false, Blk.cols mo [Col.bool to])]]) (9)))
 (False)))
 (False)))
 (False)))
 (False))
 (False))
 (Kret (PV.tf false) ([[(1, false,
 Blk.cols ml
 [Col.int IntKind.i64 tl, Col.int IntKind.i64 vl, Col.int IntKind.i64 gl]),
 (0, false, Blk.cols mo [Col.bool to])]]) (3))
theorem t54_0 (test : Bool → Prop → Prop → Prop) (Kst : KS) (Kret : KR) (lp : Int) (ao no mo : Nat) (to : Nat → Bool) (al nl ml : Nat) (tl : Nat → Int) (vl : Nat → Int) (gl : Nat → Int) (x0 : Int) : run test Try.env true (xU test) true 400 ⟨54, hd Try.f54 0, zipT [0, 7, 15, 16, 17] [PV.int IntKind.i64 lp,
 PV.fn (Go.Fn.func (75)) [] [PV.ptr (PA.mk (2) (0) (0) (0))],
 PV.loose (PA.mk (0) (1) ao (0)) no, PV.int IntKind.i64 (↑no : Int),
 PV.int IntKind.i64 x0], [[(2, (true, Blk.cells [PV.loose (PA.mk (1) (3) al (0)) nl]))], [(0, (false, .cols mo [.bool to])), (1, (false, .cols ml [.int .i64 tl, .int .i64 vl, .int .i64 gl]))]], 3⟩ (proj 2 [0, 7, 15, 16, 17] Kst Kret) =
  T54_0 test Kst Kret lp ao no mo to al nl ml tl vl gl x0 := by kernel_rfl
theorem be54 (lp : Int) (ao no mo : Nat) (to : Nat → Bool) (al nl ml : Nat) (tl : Nat → Int) (vl : Nat → Int) (gl : Nat → Int) (Kst : KS) (Kret : KR) (x : St54 ⊕ Rt54) (hS : HS 2 400 ((I54 lp ao no mo to al nl ml tl vl gl)) Kst x) (hR : HR 2 400 ((V54 lp ao no mo to al nl ml tl vl gl)) (fun r => [newL (2 + 1) ((N54 lp ao no mo to al nl ml tl vl gl) r) ++ [(0, (false, .cols mo [.bool to])), (1, (false, .cols ml [.int .i64 tl, .int .i64 vl, .int .i64 gl]))]]) Kret x) (h : (bif (decide (al + nl ≤ ml ∧ nl ≤ 1000000))
 then (bif (S.any
 (fun j =>
 decide (tl (j + al) = (4 : Int)) && decide (vl (j + al) = lp) &&
 decide (gl (j + al) = (0 : Int)))
 nl)
 then (some (.inr (false)))
 else (some (.inl (.h0 ((0 : Int))))))
 else (none) : Option (St54 ⊕ Rt54)) = some x) : Te54 cond Kst Kret lp ao no mo to al nl ml tl vl gl := by
  unfold Te54
  exact bif_split h
   (fun c0 h => bif_split h
   (fun c1 h => ret_at hR _ h (fun n => n) rfl rfl rfl (rn_bool_tf rfl) rfl (entl_bor (use_lo rfl) rfl rfl (entl_bor (use_lo rfl) rfl rfl entl_nil)))
   (fun c1 h => stop_at hS _ h (fun n => bif Nat.beq n 2 then 2 else n) rfl rfl rfl ⟨(rn_int rfl), ⟨(rn_fn trivial ⟨(rn_ptr (use_own rfl) rfl rfl), trivial⟩), ⟨(rn_loose (use_lo rfl) rfl rfl rfl), ⟨(rn_int rfl), ⟨(rn_int rfl), trivial⟩⟩⟩⟩⟩ rfl (entl_b (use_own rfl) rfl (by simp) (rb_cells ⟨(rn_loose (use_lo rfl) rfl rfl rfl), trivial⟩) (entl_bor (use_lo rfl) rfl rfl (entl_bor (use_lo rfl) rfl rfl entl_nil)))))
   (fun c0 h => no_some h)
theorem b54_0 (lp : Int) (ao no mo : Nat) (to : Nat → Bool) (al nl ml : Nat) (tl : Nat → Int) (vl : Nat → Int) (gl : Nat → Int) (Kst : KS) (Kret : KR) (x : St54 ⊕ Rt54) (hS : HS 2 400 ((I54 lp ao no mo to al nl ml tl vl gl)) Kst x) (hR : HR 2 400 ((V54 lp ao no mo to al nl ml tl vl gl)) (fun r => [newL (2 + 1) ((N54 lp ao no mo to al nl ml tl vl gl) r) ++ [(0, (false, .cols mo [.bool to])), (1, (false, .cols ml [.int .i64 tl, .int .i64 vl, .int .i64 gl]))]]) Kret x) (x0 : Int) (h : (bif (decide (x0 < (↑no : Int)))
 then (bif (decide ((0 : Int) ≤ x0 ∧ x0 < (↑no : Int)))
 then (bif (decide (Int.toNat x0 + ao < mo))
 then (bif (to (Int.toNat x0 + ao))
 then (bif (decide (al + nl ≤ ml ∧ nl ≤ 1000000))
 then (bif (S.any
 (fun j =>
 decide (tl (j + al) = (2 : Int)) && decide (vl (j + al) = lp) &&
 decide (gl (j + al) = x0))
 nl)
 then (some (.inr (true)))
 else (bif (S.any
 (fun j =>
 decide (tl (j + al) = (3 : Int)) && decide (vl (j + al) = (0 : Int)) &&
 decide (gl (j + al) = x0))
 nl)
 then (some (.inr (true)))
 else (bif (lim IntKind.i64 (x0 + (1 : Int)))
 then (some (.inl (.h0 (x0 + (1 : Int)))))
 else (none))))
 else (none))
 else (bif (decide (al + nl ≤ ml ∧ nl ≤ 1000000))
 then (bif (S.any
 (fun j =>
 decide (tl (j + al) = (2 : Int)) && decide (vl (j + al) = lp) &&
 decide (gl (j + al) = x0))
 nl)
 then (some (.inr (true)))
 else (bif (S.any
 (fun j =>
 decide (tl (j + al) = (3 : Int)) && decide (vl (j + al) = (0 : Int)) &&
 decide (gl (j + al) = x0))
 nl)
 then (some (.inr (true)))
 else (bif (S.any
 (fun j =>
 decide (tl (j + al) = (1 : Int)) && decide (vl (j + al) = lp) &&
 decide (gl (j + al) = x0))
 nl)
 then (bif (lim IntKind.i64 (x0 + (1 : Int)))
 then (some (.inl (.h0 (x0 + (1 : Int)))))
 else (none))
 else (some (.inr (true))))))
 else (none)))
 else (none))
 else (none))
 else (some (.inr (false))) : Option (St54 ⊕ Rt54)) = some x) : T54_0 cond Kst Kret lp ao no mo to al nl ml tl vl gl x0 := by
  unfold T54_0
  exact bif_split h
   (fun c0 h => bif_split h
   (fun c1 h => bif_split h
   (fun c2 h => bif_split h
   (fun c3 h => bif_split h
   (fun c4 h => bif_split h
   (fun c5 h => ret_at hR _ h (fun n => n) rfl rfl rfl (rn_bool_tf rfl) rfl (entl_bor (use_lo rfl) rfl rfl (entl_bor (use_lo rfl) rfl rfl entl_nil)))
   (fun c5 h => cond_yes c4 (bif_split h
   (fun c6 h => ret_at hR _ h (fun n => n) rfl rfl rfl (rn_bool_tf rfl) rfl (entl_bor (use_lo rfl) rfl rfl (entl_bor (use_lo rfl) rfl rfl entl_nil)))
   (fun c6 h => bif_split h
   (fun c7 h => stop_at hS _ h (fun n => bif Nat.beq n 2 then 2 else n) rfl rfl rfl ⟨(rn_int rfl), ⟨(rn_fn trivial ⟨(rn_ptr (use_own rfl) rfl rfl), trivial⟩), ⟨(rn_loose (use_lo rfl) rfl rfl rfl), ⟨(rn_int rfl), ⟨(rn_int rfl), trivial⟩⟩⟩⟩⟩ rfl (entl_b (use_own rfl) rfl (by simp) (rb_cells ⟨(rn_loose (use_lo rfl) rfl rfl rfl), trivial⟩) (entl_bor (use_lo rfl) rfl rfl (entl_bor (use_lo rfl) rfl rfl entl_nil))))
   (fun c7 h => no_some h)))))
   (fun c4 h => no_some h))
   (fun c3 h => bif_split h
   (fun c4 h => bif_split h
   (fun c5 h => ret_at hR _ h (fun n => n) rfl rfl rfl (rn_bool_tf rfl) rfl (entl_bor (use_lo rfl) rfl rfl (entl_bor (use_lo rfl) rfl rfl entl_nil)))
   (fun c5 h => cond_yes c4 (bif_split h
   (fun c6 h => ret_at hR _ h (fun n => n) rfl rfl rfl (rn_bool_tf rfl) rfl (entl_bor (use_lo rfl) rfl rfl (entl_bor (use_lo rfl) rfl rfl entl_nil)))
   (fun c6 h => cond_yes c4 (bif_split h
   (fun c7 h => bif_split h
   (fun c8 h => stop_at hS _ h (fun n => bif Nat.beq n 2 then 2 else n) rfl rfl rfl ⟨(rn_int rfl), ⟨(rn_fn trivial ⟨(rn_ptr (use_own rfl) rfl rfl), trivial⟩), ⟨(rn_loose (use_lo rfl) rfl rfl rfl), ⟨(rn_int rfl), ⟨(rn_int rfl), trivial⟩⟩⟩⟩⟩ rfl (entl_b (use_own rfl) rfl (by simp) (rb_cells ⟨(rn_loose (use_lo rfl) rfl rfl rfl), trivial⟩) (entl_bor (use_lo rfl) rfl rfl (entl_bor (use_lo rfl) rfl rfl entl_nil))))
   (fun c8 h => no_some h))
   (fun c7 h => ret_at hR _ h (fun n => n) rfl rfl rfl (rn_bool_tf rfl) rfl (entl_bor (use_lo rfl) rfl rfl (entl_bor (use_lo rfl) rfl rfl entl_nil))))))))
   (fun c4 h => no_some h)))
   (fun c2 h => no_some h))
   (fun c1 h => no_some h))
   (fun c0 h => ret_at hR _ h (fun n => n) rfl rfl rfl (rn_bool_tf rfl) rfl (entl_bor (use_lo rfl) rfl rfl (entl_bor (use_lo rfl) rfl rfl entl_nil)))
theorem a54 (lp : Int) (ao no mo : Nat) (to : Nat → Bool) (al nl ml : Nat) (tl : Nat → Int) (vl : Nat → Int) (gl : Nat → Int) {r : Rt54} (h : Goes ((q54 lp ao no mo to al nl ml tl vl gl)) ((p54 lp ao no mo to al nl ml tl vl gl)) r) : CallR Try.prog 54 [.int .i64 lp, .loose ⟨0, 1, ao, 0⟩ no, .loose ⟨1, 3, al, 0⟩ nl] [[(0, (false, .cols mo [.bool to])), (1, (false, .cols ml [.int .i64 tl, .int .i64 vl, .int .i64 gl]))]] 2 ((V54 lp ao no mo to al nl ml tl vl gl) r) ((fun r => [newL (2 + 1) ((N54 lp ao no mo to al nl ml tl vl gl) r) ++ [(0, (false, .cols mo [.bool to])), (1, (false, .cols ml [.int .i64 tl, .int .i64 vl, .int .i64 gl]))]]) r) 400 ∧ ∃ F, Try.prog.funcs[54]? = some F ∧ F.body.isSome = true ∧ (F.name == "runtime.NumGoroutine") = false := by
  refine dec_calls (f := 54) (lo := 2) (hi := 400) (H := [[(0, (false, .cols mo [.bool to])), (1, (false, .cols ml [.int .i64 tl, .int .i64 vl, .int .i64 gl]))]]) (args := [.int .i64 lp, .loose ⟨0, 1, ao, 0⟩ no, .loose ⟨1, 3, al, 0⟩ nl]) Try.envOk Try.mixed xU_ok ((I54 lp ao no mo to al nl ml tl vl gl)) ((V54 lp ao no mo to al nl ml tl vl gl)) (fun r => [newL (2 + 1) ((N54 lp ao no mo to al nl ml tl vl gl) r) ++ [(0, (false, .cols mo [.bool to])), (1, (false, .cols ml [.int .i64 tl, .int .i64 vl, .int .i64 gl]))]]) (fn := mkFn Try.f54) (ts := [0, 7, 15, 16, 17]) (n := 400) rfl (by decide) (by simp) (names_of rfl) ?_ ?_ ?_ h
  · intro s; cases s <;> exact ⟨hd_ok _ _, by simp [I54], names_of rfl, Nat.le_of_ble_eq_true rfl⟩
  · intro Kst Kret x hS hR h
    exact Holds.eq (te54 cond Kst Kret lp ao no mo to al nl ml tl vl gl) (be54 lp ao no mo to al nl ml tl vl gl Kst Kret x hS hR h)
  · intro Kst Kret x hS hR s h
    cases s with
    | h0 x0 => exact Holds.eq (t54_0 cond Kst Kret lp ao no mo to al nl ml tl vl gl x0) (b54_0 lp ao no mo to al nl ml tl vl gl Kst Kret x hS hR x0 h)
noncomputable def k54 : Con := ⟨54, [.one (.plain (.int .i64)), .one (.list [.bool]), .one (.list [.int .i64, .int .i64, .int .i64])], fun (x : Int × (Nat × Nat × Nat × (Nat → Bool) × Unit) × (Nat × Nat × Nat × (Nat → Int) × (Nat → Int) × (Nat → Int) × Unit) × Unit) => (fun (lp : Int) (ao no mo : Nat) (to : Nat → Bool) (al nl ml : Nat) (tl : Nat → Int) (vl : Nat → Int) (gl : Nat → Int) => decide (al + nl ≤ ml ∧ nl ≤ 1000000 ∧ ao + no ≤ mo ∧ no ≤ 1000000)) x.1 x.2.1.1 x.2.1.2.1 x.2.1.2.2.1 x.2.1.2.2.2.1 x.2.2.1.1 x.2.2.1.2.1 x.2.2.1.2.2.1 x.2.2.1.2.2.2.1 x.2.2.1.2.2.2.2.1 x.2.2.1.2.2.2.2.2.1, fun (x : Int × (Nat × Nat × Nat × (Nat → Bool) × Unit) × (Nat × Nat × Nat × (Nat → Int) × (Nat → Int) × (Nat → Int) × Unit) × Unit) => (fun (lp : Int) (ao no mo : Nat) (to : Nat → Bool) (al nl ml : Nat) (tl : Nat → Int) (vl : Nat → Int) (gl : Nat → Int) => (V54 lp ao no mo to al nl ml tl vl gl) (S.opnB lp no (fun j => to (j + ao)) nl (fun j => tl (j + al)) (fun j => vl (j + al)) (fun j => gl (j + al)))) x.1 x.2.1.1 x.2.1.2.1 x.2.1.2.2.1 x.2.1.2.2.2.1 x.2.2.1.1 x.2.2.1.2.1 x.2.2.1.2.2.1 x.2.2.1.2.2.2.1 x.2.2.1.2.2.2.2.1 x.2.2.1.2.2.2.2.2.1, fun (x : Int × (Nat × Nat × Nat × (Nat → Bool) × Unit) × (Nat × Nat × Nat × (Nat → Int) × (Nat → Int) × (Nat → Int) × Unit) × Unit) => (fun (lp : Int) (ao no mo : Nat) (to : Nat → Bool) (al nl ml : Nat) (tl : Nat → Int) (vl : Nat → Int) (gl : Nat → Int) => (N54 lp ao no mo to al nl ml tl vl gl) (S.opnB lp no (fun j => to (j + ao)) nl (fun j => tl (j + al)) (fun j => vl (j + al)) (fun j => gl (j + al)))) x.1 x.2.1.1 x.2.1.2.1 x.2.1.2.2.1 x.2.1.2.2.2.1 x.2.2.1.1 x.2.2.1.2.1 x.2.2.1.2.2.1 x.2.2.1.2.2.2.1 x.2.2.1.2.2.2.2.1 x.2.2.1.2.2.2.2.2.1, fun _ _ => .dead⟩
theorem s54' (lp : Int) (ao no mo : Nat) (to : Nat → Bool) (al nl ml : Nat) (tl : Nat → Int) (vl : Nat → Int) (gl : Nat → Int) (hp : al + nl ≤ ml ∧ nl ≤ 1000000 ∧ ao + no ≤ mo ∧ no ≤ 1000000) : ∀ k i : Nat, i + k = no → (∀ j, j < i → S.opP lp (fun j => to (j + ao)) nl (fun j => tl (j + al)) (fun j => vl (j + al)) (fun j => gl (j + al)) j = false) → Comes (q54 lp ao no mo to al nl ml tl vl gl) (.h0 (i : Int)) (S.any (S.opP lp (fun j => to (j + ao)) nl (fun j => tl (j + al)) (fun j => vl (j + al)) (fun j => gl (j + al))) no) := by
  obtain ⟨hp1, hp2, hp3, hp4⟩ := hp
  intro k
  induction k with
  | zero =>
    intro i hi hj
    obtain rfl : no = i := by omega
    rw [any_no.mpr hj]
    apply Comes.of
    show Goes _ _ _
    (first | rw [q54] | unfold q54)
    repeat' first
      | with_reducible refine goes_if (fun h => ?_) (fun h => ?_) <;> (try simp only [lim64, imp_false, decide_eq_true_eq, decide_eq_false_iff_not, Int.toNat_natCast, toNat_pred, toNat_succ, Option.getD_some, Option.getD_none, Bool.not_eq_true', Bool.not_eq_false', Bool.and_eq_true, Bool.or_eq_true, Bool.and_eq_false_iff, Bool.or_eq_false_iff, bne_iff_ne, beq_iff_eq, bne_eq_false_iff_eq, beq_eq_false_iff_ne, ne_eq, not_and, Int.not_le, Int.not_lt, ge_iff_le, gt_iff_lt, Nat.not_lt, Nat.not_le, Bool.not_eq_true, Bool.not_eq_false, Bool.true_eq_false, Bool.false_eq_true, not_false_eq_true, not_true_eq_false] at h)
      | exact goes_none.mpr (by omega)
    all_goals first | (exfalso; omega) | exact goes_inr.mpr rfl
  | succ k ih =>
    intro i hi hj
    have ih : S.opP lp (fun j => to (j + ao)) nl (fun j => tl (j + al)) (fun j => vl (j + al)) (fun j => gl (j + al)) i = false → _ := fun hc => ih (i + 1) (by omega) (fun j hlt => by
        rcases Nat.lt_or_eq_of_le (Nat.le_of_lt_succ hlt) with h2 | h2
        · exact hj j h2
        · subst h2; exact hc)
    have ht : S.opP lp (fun j => to (j + ao)) nl (fun j => tl (j + al)) (fun j => vl (j + al)) (fun j => gl (j + al)) i = true → S.any (S.opP lp (fun j => to (j + ao)) nl (fun j => tl (j + al)) (fun j => vl (j + al)) (fun j => gl (j + al))) no = true := fun h => any_iff.mpr ⟨i, by omega, h⟩
    have hP : S.opP lp (fun j => to (j + ao)) nl (fun j => tl (j + al)) (fun j => vl (j + al)) (fun j => gl (j + al)) i = (S.any (fun j => decide (tl (j + al) = 2) && decide (vl (j + al) = lp) && decide (gl (j + al) = (i : Int))) nl || S.any (fun j => decide (tl (j + al) = 3) && decide (vl (j + al) = 0) && decide (gl (j + al) = (i : Int))) nl || (!to (i + ao) && !S.any (fun j => decide (tl (j + al) = 1) && decide (vl (j + al) = lp) && decide (gl (j + al) = (i : Int))) nl)) := rfl
    apply Comes.of
    show Goes _ _ _
    rw [q54]
    simp only [Int.toNat_natCast]
    generalize S.any (fun j => decide (tl (j + al) = 2) && decide (vl (j + al) = lp) && decide (gl (j + al) = (i : Int))) nl = A at *
    generalize S.any (fun j => decide (tl (j + al) = 3) && decide (vl (j + al) = 0) && decide (gl (j + al) = (i : Int))) nl = B at *
    generalize S.any (fun j => decide (tl (j + al) = 1) && decide (vl (j + al) = lp) && decide (gl (j + al) = (i : Int))) nl = C at *
    generalize to (i + ao) = o at *
    show Goes _ _ _
    cases A <;> cases B <;> cases C <;> cases o
    all_goals
     repeat' first
      | with_reducible refine goes_if (fun h => ?_) (fun h => ?_) <;> (try simp only [lim64, imp_false, decide_eq_true_eq, decide_eq_false_iff_not, Int.toNat_natCast, toNat_pred, toNat_succ, Option.getD_some, Option.getD_none, Bool.not_eq_true', Bool.not_eq_false', Bool.and_eq_true, Bool.or_eq_true, Bool.and_eq_false_iff, Bool.or_eq_false_iff, bne_iff_ne, beq_iff_eq, bne_eq_false_iff_eq, beq_eq_false_iff_ne, ne_eq, not_and, Int.not_le, Int.not_lt, ge_iff_le, gt_iff_lt, Nat.not_lt, Nat.not_le, Bool.not_eq_true, Bool.not_eq_false, Bool.true_eq_false, Bool.false_eq_true, not_false_eq_true, not_true_eq_false] at h)
      | exact goes_none.mpr (by omega)
     all_goals first | (exfalso; omega) | exact ih hP | exact goes_inr.mpr (ht hP).symm
theorem s54 (lp : Int) (ao no mo : Nat) (to : Nat → Bool) (al nl ml : Nat) (tl : Nat → Int) (vl : Nat → Int) (gl : Nat → Int) (hp : al + nl ≤ ml ∧ nl ≤ 1000000 ∧ ao + no ≤ mo ∧ no ≤ 1000000) : Goes ((q54 lp ao no mo to al nl ml tl vl gl)) ((p54 lp ao no mo to al nl ml tl vl gl)) (S.opnB lp no (fun j => to (j + ao)) nl (fun j => tl (j + al)) (fun j => vl (j + al)) (fun j => gl (j + al))) := by
  have hm := s54' lp ao no mo to al nl ml tl vl gl hp no 0 (Nat.zero_add _) (fun j hj => absurd hj (Nat.not_lt_zero j))
  have e : S.opnB lp no (fun j => to (j + ao)) nl (fun j => tl (j + al)) (fun j => vl (j + al)) (fun j => gl (j + al)) = (!S.any (fun j => decide (tl (j + al) = 4) && decide (vl (j + al) = lp) && decide (gl (j + al) = (0 : Int))) nl && S.any (S.opP lp (fun j => to (j + ao)) nl (fun j => tl (j + al)) (fun j => vl (j + al)) (fun j => gl (j + al))) no) := rfl
  rw [e]
  obtain ⟨hp1, hp2, hp3, hp4⟩ := hp
  unfold p54
  generalize S.any (fun j => decide (tl (j + al) = 4) && decide (vl (j + al) = lp) && decide (gl (j + al) = (0 : Int))) nl = A at *
  show Goes _ _ _
  cases A
  all_goals
   repeat' first
    | with_reducible refine goes_if (fun h => ?_) (fun h => ?_) <;> (try simp only [lim64, imp_false, decide_eq_true_eq, decide_eq_false_iff_not, Int.toNat_natCast, toNat_pred, toNat_succ, Option.getD_some, Option.getD_none, Bool.not_eq_true', Bool.not_eq_false', Bool.and_eq_true, Bool.or_eq_true, Bool.and_eq_false_iff, Bool.or_eq_false_iff, bne_iff_ne, beq_iff_eq, bne_eq_false_iff_eq, beq_eq_false_iff_ne, ne_eq, not_and, Int.not_le, Int.not_lt, ge_iff_le, gt_iff_lt, Nat.not_lt, Nat.not_le, Bool.not_eq_true, Bool.not_eq_false, Bool.true_eq_false, Bool.false_eq_true, not_false_eq_true, not_true_eq_false] at h)
    | exact goes_none.mpr (by omega)
   all_goals first | (exfalso; omega) | exact hm | exact goes_inr.mpr rfl
theorem k54_ok : k54.ok Try.prog := by
  intro x hx
  obtain ⟨lp, ⟨ao, no, mo, to, _⟩, ⟨al, nl, ml, tl, vl, gl, _⟩, _⟩ := x
  obtain ⟨h1, h2⟩ := a54 lp ao no mo to al nl ml tl vl gl (s54 lp ao no mo to al nl ml tl vl gl (of_dec hx rfl))
  exact ⟨⟨400, (by decide : 2 + 1 + 0 ≤ 400), h1⟩, h2⟩
abbrev St53 := Empty
abbrev Rt53 := Int
noncomputable def V53 (aq nq mq : Nat) (tq : Nat → ByteArray) (vq : Nat → Int) (gq : Nat → Int) (de : Int) (k1 : Int) (k2 : Int) (k3 : Int) (r : Rt53) : PV := PV.int IntKind.i64 r
noncomputable def N53 (aq nq mq : Nat) (tq : Nat → ByteArray) (vq : Nat → Int) (gq : Nat → Int) (de : Int) (k1 : Int) (k2 : Int) (k3 : Int) (r : Rt53) : List Blk := []
noncomputable def I53 (aq nq mq : Nat) (tq : Nat → ByteArray) (vq : Nat → Int) (gq : Nat → Int) (de : Int) (k1 : Int) (k2 : Int) (k3 : Int) : St53 → Hd := fun s => s.elim
noncomputable def q53 (aq nq mq : Nat) (tq : Nat → ByteArray) (vq : Nat → Int) (gq : Nat → Int) (de : Int) (k1 : Int) (k2 : Int) (k3 : Int) : St53 → Option (St53 ⊕ Rt53) := fun s => s.elim
noncomputable def p53 (aq nq mq : Nat) (tq : Nat → ByteArray) (vq : Nat → Int) (gq : Nat → Int) (de : Int) (k1 : Int) (k2 : Int) (k3 : Int) : Option (St53 ⊕ Rt53) := bif (decide (k2 ≥ (1 : Int)))
 then (bif (decide (k2 ≤ (2 : Int)))
 then (bif (k1 == (0 : Int))
 then (bif (k2 == (0 : Int))
 then (bif (k3 == (0 : Int))
 then (some (.inr ((0 : Int))))
 else (some (.inr ((1 : Int)))))
 else (some (.inr ((1 : Int)))))
 else (bif (k1 == (1 : Int))
 then (bif (lim IntKind.i64 ((↑nq : Int) - (1 : Int)))
 then (bif (decide (k3 ≥ (0 : Int)))
 then (bif (decide (k3 ≤ (↑nq : Int) - (1 : Int)))
 then (some (.inr ((0 : Int))))
 else (some (.inr ((1 : Int)))))
 else (some (.inr ((1 : Int)))))
 else (none))
 else (bif (k1 == (2 : Int))
 then (bif (lim IntKind.i64 ((↑nq : Int) - (1 : Int)))
 then (bif (decide (k3 ≥ (0 : Int)))
 then (bif (decide (k3 ≤ (↑nq : Int) - (1 : Int)))
 then (some (.inr ((0 : Int))))
 else (some (.inr ((1 : Int)))))
 else (some (.inr ((1 : Int)))))
 else (none))
 else (bif (k1 == (3 : Int))
 then (bif (k2 == (0 : Int))
 then (bif (lim IntKind.i64 ((↑nq : Int) - (1 : Int)))
 then (bif (decide (k3 ≥ (0 : Int)))
 then (bif (decide (k3 ≤ (↑nq : Int) - (1 : Int)))
 then (some (.inr ((0 : Int))))
 else (some (.inr ((1 : Int)))))
 else (some (.inr ((1 : Int)))))
 else (none))
 else (some (.inr ((1 : Int)))))
 else (bif (k1 == (4 : Int))
 then (bif (k3 == (0 : Int))
 then (some (.inr ((0 : Int))))
 else (some (.inr ((1 : Int)))))
 else (some (.inr ((1 : Int)))))))))
 else (bif (k1 == (0 : Int))
 then (bif (k2 == (0 : Int))
 then (bif (k3 == (0 : Int))
 then (some (.inr ((0 : Int))))
 else (some (.inr ((1 : Int)))))
 else (some (.inr ((1 : Int)))))
 else (bif (k1 == (1 : Int))
 then (some (.inr ((1 : Int))))
 else (bif (k1 == (2 : Int))
 then (some (.inr ((1 : Int))))
 else (bif (k1 == (3 : Int))
 then (bif (k2 == (0 : Int))
 then (bif (lim IntKind.i64 ((↑nq : Int) - (1 : Int)))
 then (bif (decide (k3 ≥ (0 : Int)))
 then (bif (decide (k3 ≤ (↑nq : Int) - (1 : Int)))
 then (some (.inr ((0 : Int))))
 else (some (.inr ((1 : Int)))))
 else (some (.inr ((1 : Int)))))
 else (none))
 else (some (.inr ((1 : Int)))))
 else (bif (k1 == (4 : Int))
 then (some (.inr ((1 : Int))))
 else (some (.inr ((1 : Int))))))))))
 else (bif (k1 == (0 : Int))
 then (bif (k2 == (0 : Int))
 then (bif (k3 == (0 : Int))
 then (some (.inr ((0 : Int))))
 else (some (.inr ((1 : Int)))))
 else (some (.inr ((1 : Int)))))
 else (bif (k1 == (1 : Int))
 then (some (.inr ((1 : Int))))
 else (bif (k1 == (2 : Int))
 then (some (.inr ((1 : Int))))
 else (bif (k1 == (3 : Int))
 then (bif (k2 == (0 : Int))
 then (bif (lim IntKind.i64 ((↑nq : Int) - (1 : Int)))
 then (bif (decide (k3 ≥ (0 : Int)))
 then (bif (decide (k3 ≤ (↑nq : Int) - (1 : Int)))
 then (some (.inr ((0 : Int))))
 else (some (.inr ((1 : Int)))))
 else (some (.inr ((1 : Int)))))
 else (none))
 else (some (.inr ((1 : Int)))))
 else (bif (k1 == (4 : Int))
 then (some (.inr ((1 : Int))))
 else (some (.inr ((1 : Int)))))))))
noncomputable def Te53 (test : Bool → Prop → Prop → Prop) (Kst : KS) (Kret : KR) (aq nq mq : Nat) (tq : Nat → ByteArray) (vq : Nat → Int) (gq : Nat → Int) (de : Int) (k1 : Int) (k2 : Int) (k3 : Int) : Prop :=
  test (decide (k2 ≥ (1 : Int)))
 (test (decide (k2 ≤ (2 : Int)))
 (test (k1 == (0 : Int))
 (test (k2 == (0 : Int))
 (test (k3 == (0 : Int))
 (Kret (PV.int IntKind.i64 (0 : Int)) ([[(0, false,
 Blk.cols mq [Col.str tq, Col.int IntKind.i64 vq, Col.int IntKind.i64 gq])]]) (3))
 (Kret (PV.int IntKind.i64 (1 : Int)) ([[(0, false,
 Blk.cols mq [Col.str tq, Col.int IntKind.i64 vq, Col.int IntKind.i64 gq])]]) (3)))
 (Kret (PV.int IntKind.i64 (1 : Int)) ([[(0, false,
 Blk.cols mq [Col.str tq, Col.int IntKind.i64 vq, Col.int IntKind.i64 gq])]]) (3)))
 (test (k1 == (1 : Int))
 (test (lim IntKind.i64 ((↑nq : Int) - (1 : Int)))
 (test (decide (k3 ≥ (0 : Int)))
 (test (decide (k3 ≤ (↑nq : Int) - (1 : Int)))
 (Kret (PV.int IntKind.i64 (0 : Int)) ([[(0, false,
 Blk.cols mq [Col.str tq, Col.int IntKind.i64 vq, Col.int IntKind.i64 gq])]]) (4))
 (Kret (PV.int IntKind.i64 (1 : Int)) ([[(0, false,
 Blk.cols mq [Col.str tq, Col.int IntKind.i64 vq, Col.int IntKind.i64 gq])]]) (4)))
 (Kret (PV.int IntKind.i64 (1 : Int)) ([[(0, false,
 Blk.cols mq [Col.str tq, Col.int IntKind.i64 vq, Col.int IntKind.i64 gq])]]) (4)))
 (False))
 (test (k1 == (2 : Int))
 (test (lim IntKind.i64 ((↑nq : Int) - (1 : Int)))
 (test (decide (k3 ≥ (0 : Int)))
 (test (decide (k3 ≤ (↑nq : Int) - (1 : Int)))
 (Kret (PV.int IntKind.i64 (0 : Int)) ([[(0, false,
 Blk.cols mq [Col.str tq, Col.int IntKind.i64 vq, Col.int IntKind.i64 gq])]]) (4))
 (Kret (PV.int IntKind.i64 (1 : Int)) ([[(0, false,
 Blk.cols mq [Col.str tq, Col.int IntKind.i64 vq, Col.int IntKind.i64 gq])]]) (4)))
 (Kret (PV.int IntKind.i64 (1 : Int)) ([[(0, false,
 Blk.cols mq [Col.str tq, Col.int IntKind.i64 vq, Col.int IntKind.i64 gq])]]) (4)))
 (False))
 (test (k1 == (3 : Int))
 (test (k2 == (0 : Int))
 (test (lim IntKind.i64 ((↑nq : Int) - (1 : Int)))
 (test (decide (k3 ≥ (0 : Int)))
 (test (decide (k3 ≤ (↑nq : Int) - (1 : Int)))
 (Kret (PV.int IntKind.i64 (0 : Int)) ([[(0, false,
 Blk.cols mq [Col.str tq, Col.int IntKind.i64 vq, Col.int IntKind.i64 gq])]]) (4))
 (Kret (PV.int IntKind.i64 (1 : Int)) ([[(0, false,
 Blk.cols mq [Col.str tq, Col.int IntKind.i64 vq, Col.int IntKind.i64 gq])]]) (4)))
 (Kret (PV.int IntKind.i64 (1 : Int)) ([[(0, false,
 Blk.cols mq [Col.str tq, Col.int IntKind.i64 vq, Col.int IntKind.i64 gq])]]) (4)))
 (False))
 (Kret (PV.int IntKind.i64 (1 : Int)) ([[(0, false,
 Blk.cols mq [Col.str tq, Col.int IntKind.i64 vq, Col.int IntKind.i64 gq])]]) (3)))
 (test (k1 == (4 : Int))
 (test (k3 == (0 : Int))
 (Kret (PV.int IntKind.i64 (0 : Int)) ([[(0, false,
 Blk.cols mq [Col.str tq, Col.int IntKind.i64 vq, Col.int IntKind.i64 gq])]]) (3))
 (Kret (PV.int IntKind.i64 (1 : Int)) ([[(0, false,
 Blk.cols mq [Col.str tq, Col.int IntKind.i64 vq, Col.int IntKind.i64 gq])]]) (3)))
 (Kret (PV.int IntKind.i64 (1 : Int)) ([[(0, false,
 Blk.cols mq [Col.str tq, Col.int IntKind.i64 vq, Col.int IntKind.i64 gq])]]) (3)))))))
 (test (k1 == (0 : Int))
 (test (k2 == (0 : Int))
 (test (k3 == (0 : Int))
 (Kret (PV.int IntKind.i64 (0 : Int)) ([[(0, false,
 Blk.cols mq [Col.str tq, Col.int IntKind.i64 vq, Col.int IntKind.i64 gq])]]) (3))
 (Kret (PV.int IntKind.i64 (1 : Int)) ([[(0, false,
 Blk.cols mq [Col.str tq, Col.int IntKind.i64 vq, Col.int IntKind.i64 gq])]]) (3)))
 (Kret (PV.int IntKind.i64 (1 : Int)) ([[(0, false,
 Blk.cols mq [Col.str tq, Col.int IntKind.i64 vq, Col.int IntKind.i64 gq])]]) (3)))
 (test (k1 == (1 : Int))
 (Kret (PV.int IntKind.i64 (1 : Int)) ([[(0, false,
 Blk.cols mq [Col.str tq, Col.int IntKind.i64 vq, Col.int IntKind.i64 gq])]]) (3))
 (test (k1 == (2 : Int))
 (Kret (PV.int IntKind.i64 (1 : Int)) ([[(0, false,
 Blk.cols mq [Col.str tq, Col.int IntKind.i64 vq, Col.int IntKind.i64 gq])]]) (3))
 (test (k1 == (3 : Int))
 (test (k2 == (0 : Int))
 (test (lim IntKind.i64 ((↑nq : Int) - (1 : Int)))
 (test (decide (k3 ≥ (0 : Int)))
 (test (decide (k3 ≤ (↑nq : Int) - (1 : Int)))
 (Kret (PV.int IntKind.i64 (0 : Int)) ([[(0, false,
 Blk.cols mq [Col.str tq, Col.int IntKind.i64 vq, Col.int IntKind.i64 gq])]]) (4))
 (Kret (PV.int IntKind.i64 (1 : Int)) ([[(0, false,
 Blk.cols mq [Col.str tq, Col.int IntKind.i64 vq, Col.int IntKind.i64 gq])]]) (4)))
 (Kret (PV.int IntKind.i64 (1 : Int)) ([[(0, false,
 Blk.cols mq [Col.str tq, Col.int IntKind.i64 vq, Col.int IntKind.i64 gq])]]) (4)))
 (False))
 (Kret (PV.int IntKind.i64 (1 : Int)) ([[(0, false,
 Blk.cols mq [Col.str tq, Col.int IntKind.i64 vq, Col.int IntKind.i64 gq])]]) (3)))
 (test (k1 == (4 : Int))
 (Kret (PV.int IntKind.i64 (1 : Int)) ([[(0, false,
 Blk.cols mq [Col.str tq, Col.int IntKind.i64 vq, Col.int IntKind.i64 gq])]]) (3))
 (Kret (PV.int IntKind.i64 (1 : Int)) ([[(0, false,
 Blk.cols mq [Col.str tq, Col.int IntKind.i64 vq, Col.int IntKind.i64 gq])]]) (3))))))))
 (test (k1 == (0 : Int))
 (test (k2 == (0 : Int))
 (test (k3 == (0 : Int))
 (Kret (PV.int IntKind.i64 (0 : Int)) ([[(0, false,
 Blk.cols mq [Col.str tq, Col.int IntKind.i64 vq, Col.int IntKind.i64 gq])]]) (3))
 (Kret (PV.int IntKind.i64 (1 : Int)) ([[(0, false,
 Blk.cols mq [Col.str tq, Col.int IntKind.i64 vq, Col.int IntKind.i64 gq])]]) (3)))
 (Kret (PV.int IntKind.i64 (1 : Int)) ([[(0, false,
 Blk.cols mq [Col.str tq, Col.int IntKind.i64 vq, Col.int IntKind.i64 gq])]]) (3)))
 (test (k1 == (1 : Int))
 (Kret (PV.int IntKind.i64 (1 : Int)) ([[(0, false,
 Blk.cols mq [Col.str tq, Col.int IntKind.i64 vq, Col.int IntKind.i64 gq])]]) (3))
 (test (k1 == (2 : Int))
 (Kret (PV.int IntKind.i64 (1 : Int)) ([[(0, false,
 Blk.cols mq [Col.str tq, Col.int IntKind.i64 vq, Col.int IntKind.i64 gq])]]) (3))
 (test (k1 == (3 : Int))
 (test (k2 == (0 : Int))
 (test (lim IntKind.i64 ((↑nq : Int) - (1 : Int)))
 (test (decide (k3 ≥ (0 : Int)))
 (test (decide (k3 ≤ (↑nq : Int) - (1 : Int)))
 (Kret (PV.int IntKind.i64 (0 : Int)) ([[(0, false,
 Blk.cols mq [Col.str tq, Col.int IntKind.i64 vq, Col.int IntKind.i64 gq])]]) (4))
 (Kret (PV.int IntKind.i64 (1 : Int)) ([[(0, false,
 Blk.cols mq [Col.str tq, Col.int IntKind.i64 vq, Col.int IntKind.i64 gq])]]) (4)))
 (Kret (PV.int IntKind.i64 (1 : Int)) ([[(0, false,
 Blk.cols mq [Col.str tq, Col.int IntKind.i64 vq, Col.int IntKind.i64 gq])]]) (4)))
 (False))
 (Kret (PV.int IntKind.i64 (1 : Int)) ([[(0, false,
 Blk.cols mq [Col.str tq, Col.int IntKind.i64 vq, Col.int IntKind.i64 gq])]]) (3)))
 (test (k1 == (4 : Int))
 (Kret (PV.int IntKind.i64 (1 : Int)) ([[(0, false,
 Blk.cols mq [Col.str tq, Col.int IntKind.i64 vq, Col.int IntKind.i64 gq])]]) (3))
 (Kret (PV.int IntKind.i64 (1 : Int)) ([[(0, false,
 Blk.cols mq [Col.str tq, Col.int IntKind.i64 vq, Col.int IntKind.i64 gq])]]) (3)))))))
theorem te53 (test : Bool → Prop → Prop → Prop) (Kst : KS) (Kret : KR) (aq nq mq : Nat) (tq : Nat → ByteArray) (vq : Nat → Int) (gq : Nat → Int) (de : Int) (k1 : Int) (k2 : Int) (k3 : Int) : run test Try.env true noX true 400 ⟨53, [.cd (mkFn Try.f53).body], argT 0 [.agg [.loose ⟨0, 3, aq, 0⟩ nq, .int .i64 de], .agg [.int .i64 k1, .int .i64 k2, .int .i64 k3]], [[], [(0, (false, .cols mq [.str tq, .int .i64 vq, .int .i64 gq]))]], 1⟩ (proj 1 [] Kst Kret) =
  Te53 test Kst Kret aq nq mq tq vq gq de k1 k2 k3 := by kernel_rfl
theorem be53 (aq nq mq : Nat) (tq : Nat → ByteArray) (vq : Nat → Int) (gq : Nat → Int) (de : Int) (k1 : Int) (k2 : Int) (k3 : Int) (Kst : KS) (Kret : KR) (x : St53 ⊕ Rt53) (hS : HS 1 400 ((I53 aq nq mq tq vq gq de k1 k2 k3)) Kst x) (hR : HR 1 400 ((V53 aq nq mq tq vq gq de k1 k2 k3)) (fun r => [newL (1 + 1) ((N53 aq nq mq tq vq gq de k1 k2 k3) r) ++ [(0, (false, .cols mq [.str tq, .int .i64 vq, .int .i64 gq]))]]) Kret x) (h : (bif (decide (k2 ≥ (1 : Int)))
 then (bif (decide (k2 ≤ (2 : Int)))
 then (bif (k1 == (0 : Int))
 then (bif (k2 == (0 : Int))
 then (bif (k3 == (0 : Int))
 then (some (.inr ((0 : Int))))
 else (some (.inr ((1 : Int)))))
 else (some (.inr ((1 : Int)))))
 else (bif (k1 == (1 : Int))
 then (bif (lim IntKind.i64 ((↑nq : Int) - (1 : Int)))
 then (bif (decide (k3 ≥ (0 : Int)))
 then (bif (decide (k3 ≤ (↑nq : Int) - (1 : Int)))
 then (some (.inr ((0 : Int))))
 else (some (.inr ((1 : Int)))))
 else (some (.inr ((1 : Int)))))
 else (none))
 else (bif (k1 == (2 : Int))
 then (bif (lim IntKind.i64 ((↑nq : Int) - (1 : Int)))
 then (bif (decide (k3 ≥ (0 : Int)))
 then (bif (decide (k3 ≤ (↑nq : Int) - (1 : Int)))
 then (some (.inr ((0 : Int))))
 else (some (.inr ((1 : Int)))))
 else (some (.inr ((1 : Int)))))
 else (none))
 else (bif (k1 == (3 : Int))
 then (bif (k2 == (0 : Int))
 then (bif (lim IntKind.i64 ((↑nq : Int) - (1 : Int)))
 then (bif (decide (k3 ≥ (0 : Int)))
 then (bif (decide (k3 ≤ (↑nq : Int) - (1 : Int)))
 then (some (.inr ((0 : Int))))
 else (some (.inr ((1 : Int)))))
 else (some (.inr ((1 : Int)))))
 else (none))
 else (some (.inr ((1 : Int)))))
 else (bif (k1 == (4 : Int))
 then (bif (k3 == (0 : Int))
 then (some (.inr ((0 : Int))))
 else (some (.inr ((1 : Int)))))
 else (some (.inr ((1 : Int)))))))))
 else (bif (k1 == (0 : Int))
 then (bif (k2 == (0 : Int))
 then (bif (k3 == (0 : Int))
 then (some (.inr ((0 : Int))))
 else (some (.inr ((1 : Int)))))
 else (some (.inr ((1 : Int)))))
 else (bif (k1 == (1 : Int))
 then (some (.inr ((1 : Int))))
 else (bif (k1 == (2 : Int))
 then (some (.inr ((1 : Int))))
 else (bif (k1 == (3 : Int))
 then (bif (k2 == (0 : Int))
 then (bif (lim IntKind.i64 ((↑nq : Int) - (1 : Int)))
 then (bif (decide (k3 ≥ (0 : Int)))
 then (bif (decide (k3 ≤ (↑nq : Int) - (1 : Int)))
 then (some (.inr ((0 : Int))))
 else (some (.inr ((1 : Int)))))
 else (some (.inr ((1 : Int)))))
 else (none))
 else (some (.inr ((1 : Int)))))
 else (bif (k1 == (4 : Int))
 then (some (.inr ((1 : Int))))
 else (some (.inr ((1 : Int))))))))))
 else (bif (k1 == (0 : Int))
 then (bif (k2 == (0 : Int))
 then (bif (k3 == (0 : Int))
 then (some (.inr ((0 : Int))))
 else (some (.inr ((1 : Int)))))
 else (some (.inr ((1 : Int)))))
 else (bif (k1 == (1 : Int))
 then (some (.inr ((1 : Int))))
 else (bif (k1 == (2 : Int))
 then (some (.inr ((1 : Int))))
 else (bif (k1 == (3 : Int))
 then (bif (k2 == (0 : Int))
 then (bif (lim IntKind.i64 ((↑nq : Int) - (1 : Int)))
 then (bif (decide (k3 ≥ (0 : Int)))
 then (bif (decide (k3 ≤ (↑nq : Int) - (1 : Int)))
 then (some (.inr ((0 : Int))))
 else (some (.inr ((1 : Int)))))
 else (some (.inr ((1 : Int)))))
 else (none))
 else (some (.inr ((1 : Int)))))
 else (bif (k1 == (4 : Int))
 then (some (.inr ((1 : Int))))
 else (some (.inr ((1 : Int))))))))) : Option (St53 ⊕ Rt53)) = some x) : Te53 cond Kst Kret aq nq mq tq vq gq de k1 k2 k3 := by
  unfold Te53
  exact bif_split h
   (fun c0 h => bif_split h
   (fun c1 h => bif_split h
   (fun c2 h => bif_split h
   (fun c3 h => bif_split h
   (fun c4 h => ret_at hR _ h (fun n => n) rfl rfl rfl (rn_int rfl) rfl (entl_bor (use_lo rfl) rfl rfl entl_nil))
   (fun c4 h => ret_at hR _ h (fun n => n) rfl rfl rfl (rn_int rfl) rfl (entl_bor (use_lo rfl) rfl rfl entl_nil)))
   (fun c3 h => ret_at hR _ h (fun n => n) rfl rfl rfl (rn_int rfl) rfl (entl_bor (use_lo rfl) rfl rfl entl_nil)))
   (fun c2 h => bif_split h
   (fun c3 h => bif_split h
   (fun c4 h => bif_split h
   (fun c5 h => bif_split h
   (fun c6 h => ret_at hR _ h (fun n => n) rfl rfl rfl (rn_int rfl) rfl (entl_bor (use_lo rfl) rfl rfl entl_nil))
   (fun c6 h => ret_at hR _ h (fun n => n) rfl rfl rfl (rn_int rfl) rfl (entl_bor (use_lo rfl) rfl rfl entl_nil)))
   (fun c5 h => ret_at hR _ h (fun n => n) rfl rfl rfl (rn_int rfl) rfl (entl_bor (use_lo rfl) rfl rfl entl_nil)))
   (fun c4 h => no_some h))
   (fun c3 h => bif_split h
   (fun c4 h => bif_split h
   (fun c5 h => bif_split h
   (fun c6 h => bif_split h
   (fun c7 h => ret_at hR _ h (fun n => n) rfl rfl rfl (rn_int rfl) rfl (entl_bor (use_lo rfl) rfl rfl entl_nil))
   (fun c7 h => ret_at hR _ h (fun n => n) rfl rfl rfl (rn_int rfl) rfl (entl_bor (use_lo rfl) rfl rfl entl_nil)))
   (fun c6 h => ret_at hR _ h (fun n => n) rfl rfl rfl (rn_int rfl) rfl (entl_bor (use_lo rfl) rfl rfl entl_nil)))
   (fun c5 h => no_some h))
   (fun c4 h => bif_split h
   (fun c5 h => bif_split h
   (fun c6 h => bif_split h
   (fun c7 h => bif_split h
   (fun c8 h => bif_split h
   (fun c9 h => ret_at hR _ h (fun n => n) rfl rfl rfl (rn_int rfl) rfl (entl_bor (use_lo rfl) rfl rfl entl_nil))
   (fun c9 h => ret_at hR _ h (fun n => n) rfl rfl rfl (rn_int rfl) rfl (entl_bor (use_lo rfl) rfl rfl entl_nil)))
   (fun c8 h => ret_at hR _ h (fun n => n) rfl rfl rfl (rn_int rfl) rfl (entl_bor (use_lo rfl) rfl rfl entl_nil)))
   (fun c7 h => no_some h))
   (fun c6 h => ret_at hR _ h (fun n => n) rfl rfl rfl (rn_int rfl) rfl (entl_bor (use_lo rfl) rfl rfl entl_nil)))
   (fun c5 h => bif_split h
   (fun c6 h => bif_split h
   (fun c7 h => ret_at hR _ h (fun n => n) rfl rfl rfl (rn_int rfl) rfl (entl_bor (use_lo rfl) rfl rfl entl_nil))
   (fun c7 h => ret_at hR _ h (fun n => n) rfl rfl rfl (rn_int rfl) rfl (entl_bor (use_lo rfl) rfl rfl entl_nil)))
   (fun c6 h => ret_at hR _ h (fun n => n) rfl rfl rfl (rn_int rfl) rfl (entl_bor (use_lo rfl) rfl rfl entl_nil)))))))
   (fun c1 h => bif_split h
   (fun c2 h => bif_split h
   (fun c3 h => bif_split h
   (fun c4 h => ret_at hR _ h (fun n => n) rfl rfl rfl (rn_int rfl) rfl (entl_bor (use_lo rfl) rfl rfl entl_nil))
   (fun c4 h => ret_at hR _ h (fun n => n) rfl rfl rfl (rn_int rfl) rfl (entl_bor (use_lo rfl) rfl rfl entl_nil)))
   (fun c3 h => ret_at hR _ h (fun n => n) rfl rfl rfl (rn_int rfl) rfl (entl_bor (use_lo rfl) rfl rfl entl_nil)))
   (fun c2 h => bif_split h
   (fun c3 h => ret_at hR _ h (fun n => n) rfl rfl rfl (rn_int rfl) rfl (entl_bor (use_lo rfl) rfl rfl entl_nil))
   (fun c3 h => bif_split h
   (fun c4 h => ret_at hR _ h (fun n => n) rfl rfl rfl (rn_int rfl) rfl (entl_bor (use_lo rfl) rfl rfl entl_nil))
   (fun c4 h => bif_split h
   (fun c5 h => bif_split h
   (fun c6 h => bif_split h
   (fun c7 h => bif_split h
   (fun c8 h => bif_split h
   (fun c9 h => ret_at hR _ h (fun n => n) rfl rfl rfl (rn_int rfl) rfl (entl_bor (use_lo rfl) rfl rfl entl_nil))
   (fun c9 h => ret_at hR _ h (fun n => n) rfl rfl rfl (rn_int rfl) rfl (entl_bor (use_lo rfl) rfl rfl entl_nil)))
   (fun c8 h => ret_at hR _ h (fun n => n) rfl rfl rfl (rn_int rfl) rfl (entl_bor (use_lo rfl) rfl rfl entl_nil)))
   (fun c7 h => no_some h))
   (fun c6 h => ret_at hR _ h (fun n => n) rfl rfl rfl (rn_int rfl) rfl (entl_bor (use_lo rfl) rfl rfl entl_nil)))
   (fun c5 h => bif_split h
   (fun c6 h => ret_at hR _ h (fun n => n) rfl rfl rfl (rn_int rfl) rfl (entl_bor (use_lo rfl) rfl rfl entl_nil))
   (fun c6 h => ret_at hR _ h (fun n => n) rfl rfl rfl (rn_int rfl) rfl (entl_bor (use_lo rfl) rfl rfl entl_nil))))))))
   (fun c0 h => bif_split h
   (fun c1 h => bif_split h
   (fun c2 h => bif_split h
   (fun c3 h => ret_at hR _ h (fun n => n) rfl rfl rfl (rn_int rfl) rfl (entl_bor (use_lo rfl) rfl rfl entl_nil))
   (fun c3 h => ret_at hR _ h (fun n => n) rfl rfl rfl (rn_int rfl) rfl (entl_bor (use_lo rfl) rfl rfl entl_nil)))
   (fun c2 h => ret_at hR _ h (fun n => n) rfl rfl rfl (rn_int rfl) rfl (entl_bor (use_lo rfl) rfl rfl entl_nil)))
   (fun c1 h => bif_split h
   (fun c2 h => ret_at hR _ h (fun n => n) rfl rfl rfl (rn_int rfl) rfl (entl_bor (use_lo rfl) rfl rfl entl_nil))
   (fun c2 h => bif_split h
   (fun c3 h => ret_at hR _ h (fun n => n) rfl rfl rfl (rn_int rfl) rfl (entl_bor (use_lo rfl) rfl rfl entl_nil))
   (fun c3 h => bif_split h
   (fun c4 h => bif_split h
   (fun c5 h => bif_split h
   (fun c6 h => bif_split h
   (fun c7 h => bif_split h
   (fun c8 h => ret_at hR _ h (fun n => n) rfl rfl rfl (rn_int rfl) rfl (entl_bor (use_lo rfl) rfl rfl entl_nil))
   (fun c8 h => ret_at hR _ h (fun n => n) rfl rfl rfl (rn_int rfl) rfl (entl_bor (use_lo rfl) rfl rfl entl_nil)))
   (fun c7 h => ret_at hR _ h (fun n => n) rfl rfl rfl (rn_int rfl) rfl (entl_bor (use_lo rfl) rfl rfl entl_nil)))
   (fun c6 h => no_some h))
   (fun c5 h => ret_at hR _ h (fun n => n) rfl rfl rfl (rn_int rfl) rfl (entl_bor (use_lo rfl) rfl rfl entl_nil)))
   (fun c4 h => bif_split h
   (fun c5 h => ret_at hR _ h (fun n => n) rfl rfl rfl (rn_int rfl) rfl (entl_bor (use_lo rfl) rfl rfl entl_nil))
   (fun c5 h => ret_at hR _ h (fun n => n) rfl rfl rfl (rn_int rfl) rfl (entl_bor (use_lo rfl) rfl rfl entl_nil)))))))
theorem a53 (aq nq mq : Nat) (tq : Nat → ByteArray) (vq : Nat → Int) (gq : Nat → Int) (de : Int) (k1 : Int) (k2 : Int) (k3 : Int) {r : Rt53} (h : Goes ((q53 aq nq mq tq vq gq de k1 k2 k3)) ((p53 aq nq mq tq vq gq de k1 k2 k3)) r) : CallR Try.prog 53 [.agg [.loose ⟨0, 3, aq, 0⟩ nq, .int .i64 de], .agg [.int .i64 k1, .int .i64 k2, .int .i64 k3]] [[(0, (false, .cols mq [.str tq, .int .i64 vq, .int .i64 gq]))]] 1 ((V53 aq nq mq tq vq gq de k1 k2 k3) r) ((fun r => [newL (1 + 1) ((N53 aq nq mq tq vq gq de k1 k2 k3) r) ++ [(0, (false, .cols mq [.str tq, .int .i64 vq, .int .i64 gq]))]]) r) 400 ∧ ∃ F, Try.prog.funcs[53]? = some F ∧ F.body.isSome = true ∧ (F.name == "runtime.NumGoroutine") = false := by
  refine dec_calls (f := 53) (lo := 1) (hi := 400) (H := [[(0, (false, .cols mq [.str tq, .int .i64 vq, .int .i64 gq]))]]) (args := [.agg [.loose ⟨0, 3, aq, 0⟩ nq, .int .i64 de], .agg [.int .i64 k1, .int .i64 k2, .int .i64 k3]]) Try.envOk Try.mixed noX_ok ((I53 aq nq mq tq vq gq de k1 k2 k3)) ((V53 aq nq mq tq vq gq de k1 k2 k3)) (fun r => [newL (1 + 1) ((N53 aq nq mq tq vq gq de k1 k2 k3) r) ++ [(0, (false, .cols mq [.str tq, .int .i64 vq, .int .i64 gq]))]]) (fn := mkFn Try.f53) (ts := []) (n := 400) rfl (by decide) (by simp) (names_of rfl) ?_ ?_ ?_ h
  · intro s; exact s.elim
  · intro Kst Kret x hS hR h
    exact Holds.eq (te53 cond Kst Kret aq nq mq tq vq gq de k1 k2 k3) (be53 aq nq mq tq vq gq de k1 k2 k3 Kst Kret x hS hR h)
  · intro Kst Kret x hS hR s h; exact s.elim
noncomputable def k53 : Con := ⟨53, [.agg [.list [.str, .int .i64, .int .i64], .plain (.int .i64)], .agg [.plain (.int .i64), .plain (.int .i64), .plain (.int .i64)]], fun (x : ((Nat × Nat × Nat × (Nat → ByteArray) × (Nat → Int) × (Nat → Int) × Unit) × Int × Unit) × (Int × Int × Int × Unit) × Unit) => (fun (aq nq mq : Nat) (tq : Nat → ByteArray) (vq : Nat → Int) (gq : Nat → Int) (de : Int) (k1 : Int) (k2 : Int) (k3 : Int) => decide (nq ≤ 100000)) x.1.1.1 x.1.1.2.1 x.1.1.2.2.1 x.1.1.2.2.2.1 x.1.1.2.2.2.2.1 x.1.1.2.2.2.2.2.1 x.1.2.1 x.2.1.1 x.2.1.2.1 x.2.1.2.2.1, fun (x : ((Nat × Nat × Nat × (Nat → ByteArray) × (Nat → Int) × (Nat → Int) × Unit) × Int × Unit) × (Int × Int × Int × Unit) × Unit) => (fun (aq nq mq : Nat) (tq : Nat → ByteArray) (vq : Nat → Int) (gq : Nat → Int) (de : Int) (k1 : Int) (k2 : Int) (k3 : Int) => (V53 aq nq mq tq vq gq de k1 k2 k3) (S.failE nq k1 k2 k3)) x.1.1.1 x.1.1.2.1 x.1.1.2.2.1 x.1.1.2.2.2.1 x.1.1.2.2.2.2.1 x.1.1.2.2.2.2.2.1 x.1.2.1 x.2.1.1 x.2.1.2.1 x.2.1.2.2.1, fun (x : ((Nat × Nat × Nat × (Nat → ByteArray) × (Nat → Int) × (Nat → Int) × Unit) × Int × Unit) × (Int × Int × Int × Unit) × Unit) => (fun (aq nq mq : Nat) (tq : Nat → ByteArray) (vq : Nat → Int) (gq : Nat → Int) (de : Int) (k1 : Int) (k2 : Int) (k3 : Int) => (N53 aq nq mq tq vq gq de k1 k2 k3) (S.failE nq k1 k2 k3)) x.1.1.1 x.1.1.2.1 x.1.1.2.2.1 x.1.1.2.2.2.1 x.1.1.2.2.2.2.1 x.1.1.2.2.2.2.2.1 x.1.2.1 x.2.1.1 x.2.1.2.1 x.2.1.2.2.1, fun _ _ => .dead⟩
theorem fail_t {n : Nat} {k l p : Int} (h : S.okF n k l p) : S.failE n k l p = 0 := if_pos h
theorem fail_f {n : Nat} {k l p : Int} (h : ¬ S.okF n k l p) : S.failE n k l p = 1 := if_neg h
theorem s53 (aq nq mq : Nat) (tq : Nat → ByteArray) (vq : Nat → Int) (gq : Nat → Int) (de : Int) (k1 : Int) (k2 : Int) (k3 : Int) (hp : nq ≤ 100000) : Goes ((q53 aq nq mq tq vq gq de k1 k2 k3)) ((p53 aq nq mq tq vq gq de k1 k2 k3)) (S.failE nq k1 k2 k3) := by
  show Goes _ _ _
  unfold p53
  repeat' first
    | with_reducible refine goes_if (fun h => ?_) (fun h => ?_) <;> (try simp only [lim64, imp_false, decide_eq_true_eq, decide_eq_false_iff_not, Int.toNat_natCast, toNat_pred, toNat_succ, Option.getD_some, Option.getD_none, Bool.not_eq_true', Bool.not_eq_false', Bool.and_eq_true, Bool.or_eq_true, Bool.and_eq_false_iff, Bool.or_eq_false_iff, bne_iff_ne, beq_iff_eq, bne_eq_false_iff_eq, beq_eq_false_iff_ne, ne_eq, not_and, Int.not_le, Int.not_lt, ge_iff_le, gt_iff_lt, Nat.not_lt, Nat.not_le, Bool.not_eq_true, Bool.not_eq_false, Bool.true_eq_false, Bool.false_eq_true, not_false_eq_true, not_true_eq_false] at h)
    | exact goes_none.mpr (by omega)
  all_goals first | (exfalso; omega) | (refine goes_inr.mpr ?_; first | exact (fail_t (by unfold S.okF; omega)).symm | exact (fail_f (by unfold S.okF; omega)).symm)
theorem k53_ok : k53.ok Try.prog := by
  intro x hx
  obtain ⟨⟨⟨aq, nq, mq, tq, vq, gq, _⟩, de, _⟩, ⟨k1, k2, k3, _⟩, _⟩ := x
  obtain ⟨h1, h2⟩ := a53 aq nq mq tq vq gq de k1 k2 k3 (s53 aq nq mq tq vq gq de k1 k2 k3 (of_dec hx rfl))
  exact ⟨⟨400, (by decide : 1 + 1 + 0 ≤ 400), h1⟩, h2⟩
namespace S
def all (p : Nat → Bool) (n : Nat) : Bool := (List.range n).all p
def tA (v g : Nat → Int) (de st : Int) : Nat → Int
  | 0 => de
  | i + 1 => tA v g de st i + (if st ≤ (i : Int) then v i + g i else 0)
def cB (v g : Nat → Int) (st : Int) (i : Nat) : Int := if st = 0 then v i + g i else if i = 0 then g i else if (i : Int) < st then v i + g i else if (i : Int) = st then v i else 0
def tB (v g : Nat → Int) (de st : Int) : Nat → Int
  | 0 => de
  | i + 1 => tB v g de st i + cB v g st i
end S
theorem all_iff {p : Nat → Bool} {n : Nat} : S.all p n = true ↔ ∀ j, j < n → p j = true := by simp [S.all]
theorem any_succ {p : Nat → Bool} {n : Nat} : S.any p (n + 1) = (S.any p n || p n) := by simp [S.any, List.range_succ]
section
variable {v g : Nat → Int} {de st : Int} {n : Nat}
theorem tA_b (hd : 0 ≤ de ∧ de ≤ 1000000) (h : ∀ j, j < n → (0 ≤ v j ∧ v j ≤ 1000000) ∧ 0 ≤ g j ∧ g j ≤ 1000000) : ∀ i, i ≤ n → 0 ≤ S.tA v g de st i ∧ S.tA v g de st i ≤ 1000000 + 2000000 * (i : Int)
  | 0, _ => by simp only [S.tA]; omega
  | i + 1, hi => by
    have ih := tA_b hd h i (by omega)
    have := h i (by omega)
    simp only [S.tA]
    split <;> omega
theorem cB_b (h : (0 ≤ v n ∧ v n ≤ 1000000) ∧ 0 ≤ g n ∧ g n ≤ 1000000) : 0 ≤ S.cB v g st n ∧ S.cB v g st n ≤ 2000000 := by
  unfold S.cB
  (repeat' split) <;> omega
theorem tB_b (hd : 0 ≤ de ∧ de ≤ 1000000) (h : ∀ j, j < n → (0 ≤ v j ∧ v j ≤ 1000000) ∧ 0 ≤ g j ∧ g j ≤ 1000000) : ∀ i, i ≤ n → 0 ≤ S.tB v g de st i ∧ S.tB v g de st i ≤ 1000000 + 2000000 * (i : Int)
  | 0, _ => by simp only [S.tB]; omega
  | i + 1, hi => by
    have ih := tB_b hd h i (by omega)
    have := cB_b (st := st) (h i (by omega))
    simp only [S.tB]
    omega
end
inductive St58 where
  | h0 (x0 : Int) (x1 : List Bool)
abbrev Rt58 := List Bool
noncomputable def V58 (aq nq mq : Nat) (tq : Nat → ByteArray) (vq : Nat → Int) (gq : Nat → Int) (de : Int) (al nl ml : Nat) (tl : Nat → Int) (r : Rt58) : PV := PV.own (3) (1) (List.length r)
noncomputable def N58 (aq nq mq : Nat) (tq : Nat → ByteArray) (vq : Nat → Int) (gq : Nat → Int) (de : Int) (al nl ml : Nat) (tl : Nat → Int) (r : Rt58) : List Blk := [Blk.cols (List.length r) [Col.bool fun j => S.at' r j]]
noncomputable def I58 (aq nq mq : Nat) (tq : Nat → ByteArray) (vq : Nat → Int) (gq : Nat → Int) (de : Int) (al nl ml : Nat) (tl : Nat → Int) : St58 → Hd
  | .h0 x0 x1 => ⟨hd Try.f58 0, [PV.own (2) (1) (List.length x1),
 PV.loose (PA.mk (1) (1) al (0)) nl, PV.int IntKind.i64 (↑nl : Int),
 PV.int IntKind.i64 x0], [[(2, (true, Blk.cols (List.length x1) [Col.bool fun j => S.at' x1 j]))], [(0, (false, .cols mq [.str tq, .int .i64 vq, .int .i64 gq])), (1, (false, .cols ml [.int .i64 tl]))]], 3⟩
noncomputable def q58 (aq nq mq : Nat) (tq : Nat → ByteArray) (vq : Nat → Int) (gq : Nat → Int) (de : Int) (al nl ml : Nat) (tl : Nat → Int) : St58 → Option (St58 ⊕ Rt58)
  | .h0 x0 x1 => bif (decide (x0 < (↑nl : Int)))
 then (bif (decide ((0 : Int) ≤ x0 ∧ x0 < (↑nl : Int)))
 then (bif (decide (Int.toNat x0 + al < ml))
 then (bif (decide ((0 : Int) ≤ tl (Int.toNat x0 + al) ∧ tl (Int.toNat x0 + al) < (↑(List.length x1) : Int)))
 then (bif (decide (Int.toNat (tl (Int.toNat x0 + al)) < List.length x1))
 then (bif (lim IntKind.i64 (x0 + (1 : Int)))
 then (some (.inl (.h0 (x0 + (1 : Int)) (S.mkl (List.length x1) fun j =>
 bif Nat.beq j (Int.toNat (tl (Int.toNat x0 + al))) then false else S.at' x1 j))))
 else (none))
 else (none))
 else (none))
 else (none))
 else (none))
 else (some (.inr (x1)))
noncomputable def p58 (aq nq mq : Nat) (tq : Nat → ByteArray) (vq : Nat → Int) (gq : Nat → Int) (de : Int) (al nl ml : Nat) (tl : Nat → Int) : Option (St58 ⊕ Rt58) := bif (decide
 ((1 ≤ 1 ∧ 1 ≤ 1000) ∧ (0 : Int) ≤ (↑nq : Int) ∧ (↑nq : Int) ≤ (1000 : Int)))
 then (some (.inl (.h0 ((0 : Int)) (S.mkl (1 * nq) fun j => S.lit [true] false (j % 1)))))
 else (none)
noncomputable def Te58 (test : Bool → Prop → Prop → Prop) (Kst : KS) (Kret : KR) (aq nq mq : Nat) (tq : Nat → ByteArray) (vq : Nat → Int) (gq : Nat → Int) (de : Int) (al nl ml : Nat) (tl : Nat → Int) : Prop :=
  test (decide
 ((1 ≤ 1 ∧ 1 ≤ 1000) ∧ (0 : Int) ≤ (↑nq : Int) ∧ (↑nq : Int) ≤ (1000 : Int)))
 (Kst (hd Try.f58 0) ([PV.own (5) (1)
 (List.length (S.mkl (1 * nq) fun j => S.lit [true] false (j % 1))),
 PV.loose (PA.mk (1) (1) al (0)) nl, PV.int IntKind.i64 (↑nl : Int),
 PV.int IntKind.i64 (0 : Int)]) ([[(1, false, Blk.cols ml [Col.int IntKind.i64 tl]),
 (0, false,
 Blk.cols mq [Col.str tq, Col.int IntKind.i64 vq, Col.int IntKind.i64 gq]),
 (5, true,
 Blk.cols
 (List.length (S.mkl (1 * nq) fun j => S.lit [true] false (j % 1)))
 [Col.bool fun j =>
 S.at'
 (S.mkl (1 * nq) fun j => S.lit [true] false (j % 1)) j])]]) (6))
 (False)
theorem te58 (test : Bool → Prop → Prop → Prop) (Kst : KS) (Kret : KR) (aq nq mq : Nat) (tq : Nat → ByteArray) (vq : Nat → Int) (gq : Nat → Int) (de : Int) (al nl ml : Nat) (tl : Nat → Int) : run test Try.env true (xR test) true 400 ⟨58, [.cd (mkFn Try.f58).body], argT 0 [.agg [.loose ⟨0, 3, aq, 0⟩ nq, .int .i64 de], .loose ⟨1, 1, al, 0⟩ nl], [[], [(0, (false, .cols mq [.str tq, .int .i64 vq, .int .i64 gq])), (1, (false, .cols ml [.int .i64 tl]))]], 2⟩ (proj 2 [5, 13, 14, 15] Kst Kret) =
  Te58 test Kst Kret aq nq mq tq vq gq de al nl ml tl := by kernel_rfl
noncomputable def T58_0 (test : Bool → Prop → Prop → Prop) (Kst : KS) (Kret : KR) (aq nq mq : Nat) (tq : Nat → ByteArray) (vq : Nat → Int) (gq : Nat → Int) (de : Int) (al nl ml : Nat) (tl : Nat → Int) (x0 : Int) (x1 : List Bool) : Prop :=
  test (decide (x0 < (↑nl : Int)))
 (test (decide ((0 : Int) ≤ x0 ∧ x0 < (↑nl : Int)))
 (test (decide (Int.toNat x0 + al < ml))
 (test (decide ((0 : Int) ≤ tl (Int.toNat x0 + al) ∧ tl (Int.toNat x0 + al) < (↑(List.length x1) : Int)))
 (test (decide (Int.toNat (tl (Int.toNat x0 + al)) < List.length x1))
 (test (lim IntKind.i64 (x0 + (1 : Int)))
 (Kst (hd Try.f58 0) ([PV.own (2) (1) (List.length x1),
 PV.loose (PA.mk (1) (1) al (0)) nl, PV.int IntKind.i64 (↑nl : Int),
 PV.int IntKind.i64 (x0 + (1 : Int))]) ([[(1, false, Blk.cols ml [Col.int IntKind.i64 tl]),
 (0, false,
 Blk.cols mq [Col.str tq, Col.int IntKind.i64 vq, Col.int IntKind.i64 gq]),
 (2, true,
 Blk.cols (List.length x1)
 [Col.bool fun j =>
 bif Nat.beq j (Int.toNat (tl (Int.toNat x0 + al))) then false else S.at' x1 j])]]) (3))
 (False))
 (False))
 (False))
 (False))
 (False))
 (Kret (PV.own (2) (1) (List.length x1)) ([[(1, false, Blk.cols ml [Col.int IntKind.i64 tl]),
 (0, false,
 Blk.cols mq [Col.str tq, Col.int IntKind.i64 vq, Col.int IntKind.i64 gq]),
 (2, true, Blk.cols (List.length x1) [Col.bool fun j => S.at' x1 j])]]) (3))
theorem t58_0 (test : Bool → Prop → Prop → Prop) (Kst : KS) (Kret : KR) (aq nq mq : Nat) (tq : Nat → ByteArray) (vq : Nat → Int) (gq : Nat → Int) (de : Int) (al nl ml : Nat) (tl : Nat → Int) (x0 : Int) (x1 : List Bool) : run test Try.env true (xR test) true 400 ⟨58, hd Try.f58 0, zipT [5, 13, 14, 15] [PV.own (2) (1) (List.length x1),
 PV.loose (PA.mk (1) (1) al (0)) nl, PV.int IntKind.i64 (↑nl : Int),
 PV.int IntKind.i64 x0], [[(2, (true, Blk.cols (List.length x1) [Col.bool fun j => S.at' x1 j]))], [(0, (false, .cols mq [.str tq, .int .i64 vq, .int .i64 gq])), (1, (false, .cols ml [.int .i64 tl]))]], 3⟩ (proj 2 [5, 13, 14, 15] Kst Kret) =
  T58_0 test Kst Kret aq nq mq tq vq gq de al nl ml tl x0 x1 := by kernel_rfl
theorem be58 (aq nq mq : Nat) (tq : Nat → ByteArray) (vq : Nat → Int) (gq : Nat → Int) (de : Int) (al nl ml : Nat) (tl : Nat → Int) (Kst : KS) (Kret : KR) (x : St58 ⊕ Rt58) (hS : HS 2 400 ((I58 aq nq mq tq vq gq de al nl ml tl)) Kst x) (hR : HR 2 400 ((V58 aq nq mq tq vq gq de al nl ml tl)) (fun r => [newL (2 + 1) ((N58 aq nq mq tq vq gq de al nl ml tl) r) ++ [(0, (false, .cols mq [.str tq, .int .i64 vq, .int .i64 gq])), (1, (false, .cols ml [.int .i64 tl]))]]) Kret x) (h : (bif (decide
 ((1 ≤ 1 ∧ 1 ≤ 1000) ∧ (0 : Int) ≤ (↑nq : Int) ∧ (↑nq : Int) ≤ (1000 : Int)))
 then (some (.inl (.h0 ((0 : Int)) (S.mkl (1 * nq) fun j => S.lit [true] false (j % 1)))))
 else (none) : Option (St58 ⊕ Rt58)) = some x) : Te58 cond Kst Kret aq nq mq tq vq gq de al nl ml tl := by
  unfold Te58
  exact bif_split h
   (fun c0 h => stop_at hS _ h (fun n => bif Nat.beq n 2 then 5 else n) rfl rfl rfl ⟨(rn_own (use_own rfl) rfl rfl), ⟨(rn_loose (use_lo rfl) rfl rfl rfl), ⟨(rn_int rfl), ⟨(rn_int rfl), trivial⟩⟩⟩⟩ rfl (entl_new (use_own rfl) rfl (Nat.le_of_eq rfl) (rcs_bool (fun _ _ => rfl) rcs_nil) (entl_bor (use_lo rfl) rfl rfl (entl_bor (use_lo rfl) rfl rfl entl_nil))))
   (fun c0 h => no_some h)
theorem b58_0 (aq nq mq : Nat) (tq : Nat → ByteArray) (vq : Nat → Int) (gq : Nat → Int) (de : Int) (al nl ml : Nat) (tl : Nat → Int) (Kst : KS) (Kret : KR) (x : St58 ⊕ Rt58) (hS : HS 2 400 ((I58 aq nq mq tq vq gq de al nl ml tl)) Kst x) (hR : HR 2 400 ((V58 aq nq mq tq vq gq de al nl ml tl)) (fun r => [newL (2 + 1) ((N58 aq nq mq tq vq gq de al nl ml tl) r) ++ [(0, (false, .cols mq [.str tq, .int .i64 vq, .int .i64 gq])), (1, (false, .cols ml [.int .i64 tl]))]]) Kret x) (x0 : Int) (x1 : List Bool) (h : (bif (decide (x0 < (↑nl : Int)))
 then (bif (decide ((0 : Int) ≤ x0 ∧ x0 < (↑nl : Int)))
 then (bif (decide (Int.toNat x0 + al < ml))
 then (bif (decide ((0 : Int) ≤ tl (Int.toNat x0 + al) ∧ tl (Int.toNat x0 + al) < (↑(List.length x1) : Int)))
 then (bif (decide (Int.toNat (tl (Int.toNat x0 + al)) < List.length x1))
 then (bif (lim IntKind.i64 (x0 + (1 : Int)))
 then (some (.inl (.h0 (x0 + (1 : Int)) (S.mkl (List.length x1) fun j =>
 bif Nat.beq j (Int.toNat (tl (Int.toNat x0 + al))) then false else S.at' x1 j))))
 else (none))
 else (none))
 else (none))
 else (none))
 else (none))
 else (some (.inr (x1))) : Option (St58 ⊕ Rt58)) = some x) : T58_0 cond Kst Kret aq nq mq tq vq gq de al nl ml tl x0 x1 := by
  unfold T58_0
  exact bif_split h
   (fun c0 h => bif_split h
   (fun c1 h => bif_split h
   (fun c2 h => bif_split h
   (fun c3 h => bif_split h
   (fun c4 h => bif_split h
   (fun c5 h => stop_at hS _ h (fun n => bif Nat.beq n 2 then 2 else n) rfl rfl rfl ⟨(rn_own (use_own rfl) rfl mkl_len), ⟨(rn_loose (use_lo rfl) rfl rfl rfl), ⟨(rn_int rfl), ⟨(rn_int rfl), trivial⟩⟩⟩⟩ rfl (entl_new (use_own rfl) rfl (Nat.le_of_eq mkl_len) (rcs_bool (fun _ hj => col_mkl (fun (t : Bool) => t) hj) rcs_nil) (entl_bor (use_lo rfl) rfl rfl (entl_bor (use_lo rfl) rfl rfl entl_nil))))
   (fun c5 h => no_some h))
   (fun c4 h => no_some h))
   (fun c3 h => no_some h))
   (fun c2 h => no_some h))
   (fun c1 h => no_some h))
   (fun c0 h => ret_at hR _ h (fun n => bif Nat.beq n 3 then 2 else n) rfl rfl rfl (rn_own (use_own rfl) rfl rfl) rfl (entl_new (use_own rfl) rfl (Nat.le_of_eq rfl) (rcs_bool (fun _ _ => rfl) rcs_nil) (entl_bor (use_lo rfl) rfl rfl (entl_bor (use_lo rfl) rfl rfl entl_nil))))
theorem a58 (aq nq mq : Nat) (tq : Nat → ByteArray) (vq : Nat → Int) (gq : Nat → Int) (de : Int) (al nl ml : Nat) (tl : Nat → Int) {r : Rt58} (h : Goes ((q58 aq nq mq tq vq gq de al nl ml tl)) ((p58 aq nq mq tq vq gq de al nl ml tl)) r) : CallR Try.prog 58 [.agg [.loose ⟨0, 3, aq, 0⟩ nq, .int .i64 de], .loose ⟨1, 1, al, 0⟩ nl] [[(0, (false, .cols mq [.str tq, .int .i64 vq, .int .i64 gq])), (1, (false, .cols ml [.int .i64 tl]))]] 2 ((V58 aq nq mq tq vq gq de al nl ml tl) r) ((fun r => [newL (2 + 1) ((N58 aq nq mq tq vq gq de al nl ml tl) r) ++ [(0, (false, .cols mq [.str tq, .int .i64 vq, .int .i64 gq])), (1, (false, .cols ml [.int .i64 tl]))]]) r) 400 ∧ ∃ F, Try.prog.funcs[58]? = some F ∧ F.body.isSome = true ∧ (F.name == "runtime.NumGoroutine") = false := by
  refine dec_calls (f := 58) (lo := 2) (hi := 400) (H := [[(0, (false, .cols mq [.str tq, .int .i64 vq, .int .i64 gq])), (1, (false, .cols ml [.int .i64 tl]))]]) (args := [.agg [.loose ⟨0, 3, aq, 0⟩ nq, .int .i64 de], .loose ⟨1, 1, al, 0⟩ nl]) Try.envOk Try.mixed xR_ok ((I58 aq nq mq tq vq gq de al nl ml tl)) ((V58 aq nq mq tq vq gq de al nl ml tl)) (fun r => [newL (2 + 1) ((N58 aq nq mq tq vq gq de al nl ml tl) r) ++ [(0, (false, .cols mq [.str tq, .int .i64 vq, .int .i64 gq])), (1, (false, .cols ml [.int .i64 tl]))]]) (fn := mkFn Try.f58) (ts := [5, 13, 14, 15]) (n := 400) rfl (by decide) (by simp) (names_of rfl) ?_ ?_ ?_ h
  · intro s; cases s <;> exact ⟨hd_ok _ _, by simp [I58], names_of rfl, Nat.le_of_ble_eq_true rfl⟩
  · intro Kst Kret x hS hR h
    exact Holds.eq (te58 cond Kst Kret aq nq mq tq vq gq de al nl ml tl) (be58 aq nq mq tq vq gq de al nl ml tl Kst Kret x hS hR h)
  · intro Kst Kret x hS hR s h
    cases s with
    | h0 x0 x1 => exact Holds.eq (t58_0 cond Kst Kret aq nq mq tq vq gq de al nl ml tl x0 x1) (b58_0 aq nq mq tq vq gq de al nl ml tl Kst Kret x hS hR x0 x1 h)
noncomputable def k58 : Con := ⟨58, [.agg [.list [.str, .int .i64, .int .i64], .plain (.int .i64)], .one (.list [.int .i64])], fun (x : ((Nat × Nat × Nat × (Nat → ByteArray) × (Nat → Int) × (Nat → Int) × Unit) × Int × Unit) × (Nat × Nat × Nat × (Nat → Int) × Unit) × Unit) => (fun (aq nq mq : Nat) (tq : Nat → ByteArray) (vq : Nat → Int) (gq : Nat → Int) (de : Int) (al nl ml : Nat) (tl : Nat → Int) => decide (al + nl ≤ ml ∧ nl ≤ 1000000 ∧ nq ≤ 1000 ∧ S.all (fun j => decide (0 ≤ tl (j + al) ∧ tl (j + al) < (nq : Int))) nl = true)) x.1.1.1 x.1.1.2.1 x.1.1.2.2.1 x.1.1.2.2.2.1 x.1.1.2.2.2.2.1 x.1.1.2.2.2.2.2.1 x.1.2.1 x.2.1.1 x.2.1.2.1 x.2.1.2.2.1 x.2.1.2.2.2.1, fun (x : ((Nat × Nat × Nat × (Nat → ByteArray) × (Nat → Int) × (Nat → Int) × Unit) × Int × Unit) × (Nat × Nat × Nat × (Nat → Int) × Unit) × Unit) => (fun (aq nq mq : Nat) (tq : Nat → ByteArray) (vq : Nat → Int) (gq : Nat → Int) (de : Int) (al nl ml : Nat) (tl : Nat → Int) => (V58 aq nq mq tq vq gq de al nl ml tl) (S.mkl nq (fun r => !S.any (fun j => decide (tl (j + al) = (r : Int))) nl))) x.1.1.1 x.1.1.2.1 x.1.1.2.2.1 x.1.1.2.2.2.1 x.1.1.2.2.2.2.1 x.1.1.2.2.2.2.2.1 x.1.2.1 x.2.1.1 x.2.1.2.1 x.2.1.2.2.1 x.2.1.2.2.2.1, fun (x : ((Nat × Nat × Nat × (Nat → ByteArray) × (Nat → Int) × (Nat → Int) × Unit) × Int × Unit) × (Nat × Nat × Nat × (Nat → Int) × Unit) × Unit) => (fun (aq nq mq : Nat) (tq : Nat → ByteArray) (vq : Nat → Int) (gq : Nat → Int) (de : Int) (al nl ml : Nat) (tl : Nat → Int) => (N58 aq nq mq tq vq gq de al nl ml tl) (S.mkl nq (fun r => !S.any (fun j => decide (tl (j + al) = (r : Int))) nl))) x.1.1.1 x.1.1.2.1 x.1.1.2.2.1 x.1.1.2.2.2.1 x.1.1.2.2.2.2.1 x.1.1.2.2.2.2.2.1 x.1.2.1 x.2.1.1 x.2.1.2.1 x.2.1.2.2.1 x.2.1.2.2.2.1, fun _ _ => .dead⟩
theorem s58' (aq nq mq : Nat) (tq : Nat → ByteArray) (vq : Nat → Int) (gq : Nat → Int) (de : Int) (al nl ml : Nat) (tl : Nat → Int) (hp : al + nl ≤ ml ∧ nl ≤ 1000000 ∧ nq ≤ 1000 ∧ S.all (fun j => decide (0 ≤ tl (j + al) ∧ tl (j + al) < (nq : Int))) nl = true) : ∀ (k i : Nat) (L : List Bool), i + k = nl → Holds (L = S.mkl nq (fun r => !S.any (fun j => decide (tl (j + al) = (r : Int))) i)) → Comes (q58 aq nq mq tq vq gq de al nl ml tl) (.h0 (i : Int) L) (S.mkl nq (fun r => !S.any (fun j => decide (tl (j + al) = (r : Int))) nl)) := by
  obtain ⟨hp1, hp2, hp3, hp4⟩ := hp
  intro k
  induction k with
  | zero =>
    intro i L hi eL
    obtain rfl : nl = i := by omega
    apply Comes.of
    show Goes _ _ _
    (first | rw [q58] | unfold q58)
    repeat' first
      | with_reducible refine goes_if (fun h => ?_) (fun h => ?_) <;> (try simp only [lim64, imp_false, decide_eq_true_eq, decide_eq_false_iff_not, Int.toNat_natCast, toNat_pred, toNat_succ, Option.getD_some, Option.getD_none, Bool.not_eq_true', Bool.not_eq_false', Bool.and_eq_true, Bool.or_eq_true, Bool.and_eq_false_iff, Bool.or_eq_false_iff, bne_iff_ne, beq_iff_eq, bne_eq_false_iff_eq, beq_eq_false_iff_ne, ne_eq, not_and, Int.not_le, Int.not_lt, ge_iff_le, gt_iff_lt, Nat.not_lt, Nat.not_le, Bool.not_eq_true, Bool.not_eq_false, Bool.true_eq_false, Bool.false_eq_true, not_false_eq_true, not_true_eq_false] at h)
      | exact goes_none.mpr (by omega)
    all_goals first | (exfalso; omega) | exact goes_inr.mpr eL.get
  | succ k ih =>
    intro i L hi eL
    have hL : L.length = nq := by rw [eL.get, mkl_len]
    have ht := of_decide_eq_true (all_iff.mp hp4 i (by omega))
    have ih := ih (i + 1) (S.mkl L.length fun j => bif Nat.beq j (Int.toNat (tl (i + al))) then false else S.at' L j) (by omega) ⟨by
      rw [hL]
      refine mkl_congr fun j hj => ?_
      rw [any_succ, eL.get, at_mkl hj]
      by_cases h : j = (tl (i + al)).toNat
      · rw [h, Nat.beq_refl, cond_true, decide_eq_true (show tl (i + al) = (((tl (i + al)).toNat : Nat) : Int) by omega), Bool.or_true, Bool.not_true]
      · rw [nbeq_no h, cond_false, decide_eq_false (show ¬ tl (i + al) = (j : Int) by omega), Bool.or_false]⟩
    apply Comes.of
    show Goes _ _ _
    (first | rw [q58] | unfold q58)
    try simp only [Int.toNat_natCast]
    try show Goes _ _ _
    repeat' first
      | with_reducible refine goes_if (fun h => ?_) (fun h => ?_) <;> (try simp only [lim64, imp_false, decide_eq_true_eq, decide_eq_false_iff_not, Int.toNat_natCast, toNat_pred, toNat_succ, Option.getD_some, Option.getD_none, Bool.not_eq_true', Bool.not_eq_false', Bool.and_eq_true, Bool.or_eq_true, Bool.and_eq_false_iff, Bool.or_eq_false_iff, bne_iff_ne, beq_iff_eq, bne_eq_false_iff_eq, beq_eq_false_iff_ne, ne_eq, not_and, Int.not_le, Int.not_lt, ge_iff_le, gt_iff_lt, Nat.not_lt, Nat.not_le, Bool.not_eq_true, Bool.not_eq_false, Bool.true_eq_false, Bool.false_eq_true, not_false_eq_true, not_true_eq_false] at h)
      | exact goes_none.mpr (by omega)
    all_goals first | (exfalso; omega) | exact ih
theorem s58 (aq nq mq : Nat) (tq : Nat → ByteArray) (vq : Nat → Int) (gq : Nat → Int) (de : Int) (al nl ml : Nat) (tl : Nat → Int) (hp : al + nl ≤ ml ∧ nl ≤ 1000000 ∧ nq ≤ 1000 ∧ S.all (fun j => decide (0 ≤ tl (j + al) ∧ tl (j + al) < (nq : Int))) nl = true) : Goes ((q58 aq nq mq tq vq gq de al nl ml tl)) ((p58 aq nq mq tq vq gq de al nl ml tl)) (S.mkl nq (fun r => !S.any (fun j => decide (tl (j + al) = (r : Int))) nl)) := by
  have hm := s58' aq nq mq tq vq gq de al nl ml tl hp nl 0 _ (Nat.zero_add _) ⟨(show S.mkl (1 * nq) (fun j => S.lit [true] false (j % 1)) = S.mkl nq (fun r => !S.any (fun j => decide (tl (j + al) = (r : Int))) 0) by
    rw [Nat.one_mul]
    refine mkl_congr fun j hj => ?_
    rw [Nat.mod_one]; rfl)⟩
  obtain ⟨hp1, hp2, hp3, hp4⟩ := hp
  show Goes _ _ _
  unfold p58
  repeat' first
    | with_reducible refine goes_if (fun h => ?_) (fun h => ?_) <;> (try simp only [lim64, imp_false, decide_eq_true_eq, decide_eq_false_iff_not, Int.toNat_natCast, toNat_pred, toNat_succ, Option.getD_some, Option.getD_none, Bool.not_eq_true', Bool.not_eq_false', Bool.and_eq_true, Bool.or_eq_true, Bool.and_eq_false_iff, Bool.or_eq_false_iff, bne_iff_ne, beq_iff_eq, bne_eq_false_iff_eq, beq_eq_false_iff_ne, ne_eq, not_and, Int.not_le, Int.not_lt, ge_iff_le, gt_iff_lt, Nat.not_lt, Nat.not_le, Bool.not_eq_true, Bool.not_eq_false, Bool.true_eq_false, Bool.false_eq_true, not_false_eq_true, not_true_eq_false] at h)
    | exact goes_none.mpr (by omega)
  all_goals first | (exfalso; omega) | exact hm
theorem k58_ok : k58.ok Try.prog := by
  intro x hx
  obtain ⟨⟨⟨aq, nq, mq, tq, vq, gq, _⟩, de, _⟩, ⟨al, nl, ml, tl, _⟩, _⟩ := x
  obtain ⟨h1, h2⟩ := a58 aq nq mq tq vq gq de al nl ml tl (s58 aq nq mq tq vq gq de al nl ml tl (of_dec hx rfl))
  exact ⟨⟨400, (by decide : 2 + 1 + 1 ≤ 400), h1⟩, h2⟩
inductive St66 where
  | h0 (x0 : Int) (x1 : List Bool)
abbrev Rt66 := List Bool
noncomputable def V66 (aq nq mq : Nat) (tq : Nat → ByteArray) (vq : Nat → Int) (gq : Nat → Int) (de : Int) (st : Int) (r : Rt66) : PV := PV.own (2) (1) (List.length r)
noncomputable def N66 (aq nq mq : Nat) (tq : Nat → ByteArray) (vq : Nat → Int) (gq : Nat → Int) (de : Int) (st : Int) (r : Rt66) : List Blk := [Blk.cols (List.length r) [Col.bool fun j => S.at' r j]]
noncomputable def I66 (aq nq mq : Nat) (tq : Nat → ByteArray) (vq : Nat → Int) (gq : Nat → Int) (de : Int) (st : Int) : St66 → Hd
  | .h0 x0 x1 => ⟨hd Try.f66 0, [PV.int IntKind.i64 st, PV.own (1) (1) (List.length x1), PV.int IntKind.i64 x0], [[(1, (true, Blk.cols (List.length x1) [Col.bool fun j => S.at' x1 j]))], [(0, (false, .cols mq [.str tq, .int .i64 vq, .int .i64 gq]))]], 2⟩
noncomputable def q66 (aq nq mq : Nat) (tq : Nat → ByteArray) (vq : Nat → Int) (gq : Nat → Int) (de : Int) (st : Int) : St66 → Option (St66 ⊕ Rt66)
  | .h0 x0 x1 => bif (decide (x0 < (↑(List.length x1) : Int)))
 then (bif (x0 != st)
 then (bif (decide ((0 : Int) ≤ x0 ∧ x0 < (↑(List.length x1) : Int)))
 then (bif (decide (Int.toNat x0 < List.length x1))
 then (bif (lim IntKind.i64 (x0 + (1 : Int)))
 then (some (.inl (.h0 (x0 + (1 : Int)) (S.mkl (List.length x1) fun j => bif Nat.beq j (Int.toNat x0) then true else S.at' x1 j))))
 else (none))
 else (none))
 else (none))
 else (bif (decide ((0 : Int) ≤ x0 ∧ x0 < (↑(List.length x1) : Int)))
 then (bif (decide (Int.toNat x0 < List.length x1))
 then (bif (lim IntKind.i64 (x0 + (1 : Int)))
 then (some (.inl (.h0 (x0 + (1 : Int)) (S.mkl (List.length x1) fun j => bif Nat.beq j (Int.toNat x0) then false else S.at' x1 j))))
 else (none))
 else (none))
 else (none)))
 else (some (.inr (x1)))
noncomputable def p66 (aq nq mq : Nat) (tq : Nat → ByteArray) (vq : Nat → Int) (gq : Nat → Int) (de : Int) (st : Int) : Option (St66 ⊕ Rt66) := bif (decide ((0 : Int) ≤ (↑nq : Int) ∧ (↑nq : Int) ≤ (↑nq : Int) ∧ (↑nq : Int) ≤ (1000000 : Int)))
 then (some (.inl (.h0 ((0 : Int)) (S.mkl nq fun j => false))))
 else (none)
noncomputable def Te66 (test : Bool → Prop → Prop → Prop) (Kst : KS) (Kret : KR) (aq nq mq : Nat) (tq : Nat → ByteArray) (vq : Nat → Int) (gq : Nat → Int) (de : Int) (st : Int) : Prop :=
  test (decide ((0 : Int) ≤ (↑nq : Int) ∧ (↑nq : Int) ≤ (↑nq : Int) ∧ (↑nq : Int) ≤ (1000000 : Int)))
 (Kst (hd Try.f66 0) ([PV.int IntKind.i64 st, PV.own (2) (1) nq, PV.int IntKind.i64 (0 : Int)]) ([[(0, false,
 Blk.cols mq [Col.str tq, Col.int IntKind.i64 vq, Col.int IntKind.i64 gq]),
 (2, true, Blk.cols nq [Col.bool fun (x : Nat) => false])]]) (3))
 (False)
theorem te66 (test : Bool → Prop → Prop → Prop) (Kst : KS) (Kret : KR) (aq nq mq : Nat) (tq : Nat → ByteArray) (vq : Nat → Int) (gq : Nat → Int) (de : Int) (st : Int) : run test Try.env true noX true 400 ⟨66, [.cd (mkFn Try.f66).body], argT 0 [.agg [.loose ⟨0, 3, aq, 0⟩ nq, .int .i64 de], .int .i64 st], [[], [(0, (false, .cols mq [.str tq, .int .i64 vq, .int .i64 gq]))]], 1⟩ (proj 1 [1, 5, 6] Kst Kret) =
  Te66 test Kst Kret aq nq mq tq vq gq de st := by kernel_rfl
noncomputable def T66_0 (test : Bool → Prop → Prop → Prop) (Kst : KS) (Kret : KR) (aq nq mq : Nat) (tq : Nat → ByteArray) (vq : Nat → Int) (gq : Nat → Int) (de : Int) (st : Int) (x0 : Int) (x1 : List Bool) : Prop :=
  test (decide (x0 < (↑(List.length x1) : Int)))
 (test (x0 != st)
 (test (decide ((0 : Int) ≤ x0 ∧ x0 < (↑(List.length x1) : Int)))
 (test (decide (Int.toNat x0 < List.length x1))
 (test (lim IntKind.i64 (x0 + (1 : Int)))
 (Kst (hd Try.f66 0) ([PV.int IntKind.i64 st, PV.own (1) (1) (List.length x1),
 PV.int IntKind.i64 (x0 + (1 : Int))]) ([[(0, false,
 Blk.cols mq [Col.str tq, Col.int IntKind.i64 vq, Col.int IntKind.i64 gq]),
 (1, true,
 Blk.cols (List.length x1)
 [Col.bool fun j => bif Nat.beq j (Int.toNat x0) then true else S.at' x1 j])]]) (2))
 (False))
 (False))
 (False))
 (test (decide ((0 : Int) ≤ x0 ∧ x0 < (↑(List.length x1) : Int)))
 (test (decide (Int.toNat x0 < List.length x1))
 (test (lim IntKind.i64 (x0 + (1 : Int)))
 (Kst (hd Try.f66 0) ([PV.int IntKind.i64 st, PV.own (1) (1) (List.length x1),
 PV.int IntKind.i64 (x0 + (1 : Int))]) ([[(0, false,
 Blk.cols mq [Col.str tq, Col.int IntKind.i64 vq, Col.int IntKind.i64 gq]),
 (1, true,
 Blk.cols (List.length x1)
 [Col.bool fun j => bif Nat.beq j (Int.toNat x0) then false else S.at' x1 j])]]) (2))
 (False))
 (False))
 (False)))
 (Kret (PV.own (1) (1) (List.length x1)) ([[(0, false,
 Blk.cols mq [Col.str tq, Col.int IntKind.i64 vq, Col.int IntKind.i64 gq]),
 (1, true, Blk.cols (List.length x1) [Col.bool fun j => S.at' x1 j])]]) (2))
theorem t66_0 (test : Bool → Prop → Prop → Prop) (Kst : KS) (Kret : KR) (aq nq mq : Nat) (tq : Nat → ByteArray) (vq : Nat → Int) (gq : Nat → Int) (de : Int) (st : Int) (x0 : Int) (x1 : List Bool) : run test Try.env true noX true 400 ⟨66, hd Try.f66 0, zipT [1, 5, 6] [PV.int IntKind.i64 st, PV.own (1) (1) (List.length x1), PV.int IntKind.i64 x0], [[(1, (true, Blk.cols (List.length x1) [Col.bool fun j => S.at' x1 j]))], [(0, (false, .cols mq [.str tq, .int .i64 vq, .int .i64 gq]))]], 2⟩ (proj 1 [1, 5, 6] Kst Kret) =
  T66_0 test Kst Kret aq nq mq tq vq gq de st x0 x1 := by kernel_rfl
theorem be66 (aq nq mq : Nat) (tq : Nat → ByteArray) (vq : Nat → Int) (gq : Nat → Int) (de : Int) (st : Int) (Kst : KS) (Kret : KR) (x : St66 ⊕ Rt66) (hS : HS 1 400 ((I66 aq nq mq tq vq gq de st)) Kst x) (hR : HR 1 400 ((V66 aq nq mq tq vq gq de st)) (fun r => [newL (1 + 1) ((N66 aq nq mq tq vq gq de st) r) ++ [(0, (false, .cols mq [.str tq, .int .i64 vq, .int .i64 gq]))]]) Kret x) (h : (bif (decide ((0 : Int) ≤ (↑nq : Int) ∧ (↑nq : Int) ≤ (↑nq : Int) ∧ (↑nq : Int) ≤ (1000000 : Int)))
 then (some (.inl (.h0 ((0 : Int)) (S.mkl nq fun j => false))))
 else (none) : Option (St66 ⊕ Rt66)) = some x) : Te66 cond Kst Kret aq nq mq tq vq gq de st := by
  unfold Te66
  exact bif_split h
   (fun c0 h => stop_at hS _ h (fun n => bif Nat.beq n 1 then 2 else n) rfl rfl rfl ⟨(rn_int rfl), ⟨(rn_own (use_own rfl) rfl mkl_len), ⟨(rn_int rfl), trivial⟩⟩⟩ rfl (entl_new (use_own rfl) rfl (Nat.le_of_eq mkl_len) (rcs_bool (fun _ hj => col_mkl (fun (t : Bool) => t) hj) rcs_nil) (entl_bor (use_lo rfl) rfl rfl entl_nil)))
   (fun c0 h => no_some h)
theorem b66_0 (aq nq mq : Nat) (tq : Nat → ByteArray) (vq : Nat → Int) (gq : Nat → Int) (de : Int) (st : Int) (Kst : KS) (Kret : KR) (x : St66 ⊕ Rt66) (hS : HS 1 400 ((I66 aq nq mq tq vq gq de st)) Kst x) (hR : HR 1 400 ((V66 aq nq mq tq vq gq de st)) (fun r => [newL (1 + 1) ((N66 aq nq mq tq vq gq de st) r) ++ [(0, (false, .cols mq [.str tq, .int .i64 vq, .int .i64 gq]))]]) Kret x) (x0 : Int) (x1 : List Bool) (h : (bif (decide (x0 < (↑(List.length x1) : Int)))
 then (bif (x0 != st)
 then (bif (decide ((0 : Int) ≤ x0 ∧ x0 < (↑(List.length x1) : Int)))
 then (bif (decide (Int.toNat x0 < List.length x1))
 then (bif (lim IntKind.i64 (x0 + (1 : Int)))
 then (some (.inl (.h0 (x0 + (1 : Int)) (S.mkl (List.length x1) fun j => bif Nat.beq j (Int.toNat x0) then true else S.at' x1 j))))
 else (none))
 else (none))
 else (none))
 else (bif (decide ((0 : Int) ≤ x0 ∧ x0 < (↑(List.length x1) : Int)))
 then (bif (decide (Int.toNat x0 < List.length x1))
 then (bif (lim IntKind.i64 (x0 + (1 : Int)))
 then (some (.inl (.h0 (x0 + (1 : Int)) (S.mkl (List.length x1) fun j => bif Nat.beq j (Int.toNat x0) then false else S.at' x1 j))))
 else (none))
 else (none))
 else (none)))
 else (some (.inr (x1))) : Option (St66 ⊕ Rt66)) = some x) : T66_0 cond Kst Kret aq nq mq tq vq gq de st x0 x1 := by
  unfold T66_0
  exact bif_split h
   (fun c0 h => bif_split h
   (fun c1 h => bif_split h
   (fun c2 h => bif_split h
   (fun c3 h => bif_split h
   (fun c4 h => stop_at hS _ h (fun n => bif Nat.beq n 1 then 1 else n) rfl rfl rfl ⟨(rn_int rfl), ⟨(rn_own (use_own rfl) rfl mkl_len), ⟨(rn_int rfl), trivial⟩⟩⟩ rfl (entl_new (use_own rfl) rfl (Nat.le_of_eq mkl_len) (rcs_bool (fun _ hj => col_mkl (fun (t : Bool) => t) hj) rcs_nil) (entl_bor (use_lo rfl) rfl rfl entl_nil)))
   (fun c4 h => no_some h))
   (fun c3 h => no_some h))
   (fun c2 h => no_some h))
   (fun c1 h => bif_split h
   (fun c2 h => bif_split h
   (fun c3 h => bif_split h
   (fun c4 h => stop_at hS _ h (fun n => bif Nat.beq n 1 then 1 else n) rfl rfl rfl ⟨(rn_int rfl), ⟨(rn_own (use_own rfl) rfl mkl_len), ⟨(rn_int rfl), trivial⟩⟩⟩ rfl (entl_new (use_own rfl) rfl (Nat.le_of_eq mkl_len) (rcs_bool (fun _ hj => col_mkl (fun (t : Bool) => t) hj) rcs_nil) (entl_bor (use_lo rfl) rfl rfl entl_nil)))
   (fun c4 h => no_some h))
   (fun c3 h => no_some h))
   (fun c2 h => no_some h)))
   (fun c0 h => ret_at hR _ h (fun n => bif Nat.beq n 2 then 1 else n) rfl rfl rfl (rn_own (use_own rfl) rfl rfl) rfl (entl_new (use_own rfl) rfl (Nat.le_of_eq rfl) (rcs_bool (fun _ _ => rfl) rcs_nil) (entl_bor (use_lo rfl) rfl rfl entl_nil)))
theorem a66 (aq nq mq : Nat) (tq : Nat → ByteArray) (vq : Nat → Int) (gq : Nat → Int) (de : Int) (st : Int) {r : Rt66} (h : Goes ((q66 aq nq mq tq vq gq de st)) ((p66 aq nq mq tq vq gq de st)) r) : CallR Try.prog 66 [.agg [.loose ⟨0, 3, aq, 0⟩ nq, .int .i64 de], .int .i64 st] [[(0, (false, .cols mq [.str tq, .int .i64 vq, .int .i64 gq]))]] 1 ((V66 aq nq mq tq vq gq de st) r) ((fun r => [newL (1 + 1) ((N66 aq nq mq tq vq gq de st) r) ++ [(0, (false, .cols mq [.str tq, .int .i64 vq, .int .i64 gq]))]]) r) 400 ∧ ∃ F, Try.prog.funcs[66]? = some F ∧ F.body.isSome = true ∧ (F.name == "runtime.NumGoroutine") = false := by
  refine dec_calls (f := 66) (lo := 1) (hi := 400) (H := [[(0, (false, .cols mq [.str tq, .int .i64 vq, .int .i64 gq]))]]) (args := [.agg [.loose ⟨0, 3, aq, 0⟩ nq, .int .i64 de], .int .i64 st]) Try.envOk Try.mixed noX_ok ((I66 aq nq mq tq vq gq de st)) ((V66 aq nq mq tq vq gq de st)) (fun r => [newL (1 + 1) ((N66 aq nq mq tq vq gq de st) r) ++ [(0, (false, .cols mq [.str tq, .int .i64 vq, .int .i64 gq]))]]) (fn := mkFn Try.f66) (ts := [1, 5, 6]) (n := 400) rfl (by decide) (by simp) (names_of rfl) ?_ ?_ ?_ h
  · intro s; cases s <;> exact ⟨hd_ok _ _, by simp [I66], names_of rfl, Nat.le_of_ble_eq_true rfl⟩
  · intro Kst Kret x hS hR h
    exact Holds.eq (te66 cond Kst Kret aq nq mq tq vq gq de st) (be66 aq nq mq tq vq gq de st Kst Kret x hS hR h)
  · intro Kst Kret x hS hR s h
    cases s with
    | h0 x0 x1 => exact Holds.eq (t66_0 cond Kst Kret aq nq mq tq vq gq de st x0 x1) (b66_0 aq nq mq tq vq gq de st Kst Kret x hS hR x0 x1 h)
noncomputable def k66 : Con := ⟨66, [.agg [.list [.str, .int .i64, .int .i64], .plain (.int .i64)], .one (.plain (.int .i64))], fun (x : ((Nat × Nat × Nat × (Nat → ByteArray) × (Nat → Int) × (Nat → Int) × Unit) × Int × Unit) × Int × Unit) => (fun (aq nq mq : Nat) (tq : Nat → ByteArray) (vq : Nat → Int) (gq : Nat → Int) (de : Int) (st : Int) => decide (nq ≤ 1000000)) x.1.1.1 x.1.1.2.1 x.1.1.2.2.1 x.1.1.2.2.2.1 x.1.1.2.2.2.2.1 x.1.1.2.2.2.2.2.1 x.1.2.1 x.2.1, fun (x : ((Nat × Nat × Nat × (Nat → ByteArray) × (Nat → Int) × (Nat → Int) × Unit) × Int × Unit) × Int × Unit) => (fun (aq nq mq : Nat) (tq : Nat → ByteArray) (vq : Nat → Int) (gq : Nat → Int) (de : Int) (st : Int) => (V66 aq nq mq tq vq gq de st) (S.mkl nq (fun r => decide ((r : Int) ≠ st)))) x.1.1.1 x.1.1.2.1 x.1.1.2.2.1 x.1.1.2.2.2.1 x.1.1.2.2.2.2.1 x.1.1.2.2.2.2.2.1 x.1.2.1 x.2.1, fun (x : ((Nat × Nat × Nat × (Nat → ByteArray) × (Nat → Int) × (Nat → Int) × Unit) × Int × Unit) × Int × Unit) => (fun (aq nq mq : Nat) (tq : Nat → ByteArray) (vq : Nat → Int) (gq : Nat → Int) (de : Int) (st : Int) => (N66 aq nq mq tq vq gq de st) (S.mkl nq (fun r => decide ((r : Int) ≠ st)))) x.1.1.1 x.1.1.2.1 x.1.1.2.2.1 x.1.1.2.2.2.1 x.1.1.2.2.2.2.1 x.1.1.2.2.2.2.2.1 x.1.2.1 x.2.1, fun _ _ => .dead⟩
theorem s66' (aq nq mq : Nat) (tq : Nat → ByteArray) (vq : Nat → Int) (gq : Nat → Int) (de : Int) (st : Int) (hp : nq ≤ 1000000) : ∀ (k i : Nat) (L : List Bool), i + k = nq → Holds (L = S.mkl nq (fun r => if r < i then decide ((r : Int) ≠ st) else false)) → Comes (q66 aq nq mq tq vq gq de st) (.h0 (i : Int) L) (S.mkl nq (fun r => decide ((r : Int) ≠ st))) := by
  intro k
  induction k with
  | zero =>
    intro i L hi eL
    obtain rfl : nq = i := by omega
    have hL : L.length = nq := by rw [eL.get, mkl_len]
    have e : L = S.mkl nq (fun r => decide ((r : Int) ≠ st)) := by rw [eL.get]; exact mkl_congr fun j hj => if_pos hj
    apply Comes.of
    show Goes _ _ _
    (first | rw [q66] | unfold q66)
    repeat' first
      | with_reducible refine goes_if (fun h => ?_) (fun h => ?_) <;> (try simp only [lim64, imp_false, decide_eq_true_eq, decide_eq_false_iff_not, Int.toNat_natCast, toNat_pred, toNat_succ, Option.getD_some, Option.getD_none, Bool.not_eq_true', Bool.not_eq_false', Bool.and_eq_true, Bool.or_eq_true, Bool.and_eq_false_iff, Bool.or_eq_false_iff, bne_iff_ne, beq_iff_eq, bne_eq_false_iff_eq, beq_eq_false_iff_ne, ne_eq, not_and, Int.not_le, Int.not_lt, ge_iff_le, gt_iff_lt, Nat.not_lt, Nat.not_le, Bool.not_eq_true, Bool.not_eq_false, Bool.true_eq_false, Bool.false_eq_true, not_false_eq_true, not_true_eq_false] at h)
      | exact goes_none.mpr (by omega)
    all_goals first | (exfalso; omega) | exact goes_inr.mpr e
  | succ k ih =>
    intro i L hi eL
    have hL : L.length = nq := by rw [eL.get, mkl_len]
    have ih := fun (v : Bool) (hv : v = decide ((i : Int) ≠ st)) => ih (i + 1) (S.mkl L.length fun j => bif Nat.beq j i then v else S.at' L j) (by omega) ⟨by
      rw [hL]
      refine mkl_congr fun j hj => ?_
      rw [eL.get, at_mkl hj]
      by_cases h : j = i
      · rw [h, Nat.beq_refl, cond_true, if_pos (Nat.lt_succ_self i)]; exact hv
      · rw [nbeq_no h, cond_false]
        by_cases h2 : j < i
        · rw [if_pos h2, if_pos (by omega)]
        · rw [if_neg h2, if_neg (by omega)]⟩
    by_cases hc : (i : Int) = st
    · have ih := ih false (decide_eq_false (not_not_intro hc)).symm
      apply Comes.of
      show Goes _ _ _
      (first | rw [q66] | unfold q66)
      try simp only [Int.toNat_natCast]
      try show Goes _ _ _
      repeat' first
        | with_reducible refine goes_if (fun h => ?_) (fun h => ?_) <;> (try simp only [lim64, imp_false, decide_eq_true_eq, decide_eq_false_iff_not, Int.toNat_natCast, toNat_pred, toNat_succ, Option.getD_some, Option.getD_none, Bool.not_eq_true', Bool.not_eq_false', Bool.and_eq_true, Bool.or_eq_true, Bool.and_eq_false_iff, Bool.or_eq_false_iff, bne_iff_ne, beq_iff_eq, bne_eq_false_iff_eq, beq_eq_false_iff_ne, ne_eq, not_and, Int.not_le, Int.not_lt, ge_iff_le, gt_iff_lt, Nat.not_lt, Nat.not_le, Bool.not_eq_true, Bool.not_eq_false, Bool.true_eq_false, Bool.false_eq_true, not_false_eq_true, not_true_eq_false] at h)
        | exact goes_none.mpr (by omega)
      all_goals first | (exfalso; omega) | exact ih | (exfalso; simp_all; done)
    · have ih := ih true (decide_eq_true hc).symm
      apply Comes.of
      show Goes _ _ _
      (first | rw [q66] | unfold q66)
      try simp only [Int.toNat_natCast]
      try show Goes _ _ _
      repeat' first
        | with_reducible refine goes_if (fun h => ?_) (fun h => ?_) <;> (try simp only [lim64, imp_false, decide_eq_true_eq, decide_eq_false_iff_not, Int.toNat_natCast, toNat_pred, toNat_succ, Option.getD_some, Option.getD_none, Bool.not_eq_true', Bool.not_eq_false', Bool.and_eq_true, Bool.or_eq_true, Bool.and_eq_false_iff, Bool.or_eq_false_iff, bne_iff_ne, beq_iff_eq, bne_eq_false_iff_eq, beq_eq_false_iff_ne, ne_eq, not_and, Int.not_le, Int.not_lt, ge_iff_le, gt_iff_lt, Nat.not_lt, Nat.not_le, Bool.not_eq_true, Bool.not_eq_false, Bool.true_eq_false, Bool.false_eq_true, not_false_eq_true, not_true_eq_false] at h)
        | exact goes_none.mpr (by omega)
      all_goals first | (exfalso; omega) | exact ih | (exfalso; simp_all; done)
theorem s66 (aq nq mq : Nat) (tq : Nat → ByteArray) (vq : Nat → Int) (gq : Nat → Int) (de : Int) (st : Int) (hp : nq ≤ 1000000) : Goes ((q66 aq nq mq tq vq gq de st)) ((p66 aq nq mq tq vq gq de st)) (S.mkl nq (fun r => decide ((r : Int) ≠ st))) := by
  have hm := s66' aq nq mq tq vq gq de st hp nq 0 _ (Nat.zero_add _) ⟨(show S.mkl nq (fun j => false) = S.mkl nq (fun r => if r < 0 then decide ((r : Int) ≠ st) else false) from mkl_congr fun j hj => (if_neg (Nat.not_lt_zero j)).symm)⟩
  show Goes _ _ _
  unfold p66
  repeat' first
    | with_reducible refine goes_if (fun h => ?_) (fun h => ?_) <;> (try simp only [lim64, imp_false, decide_eq_true_eq, decide_eq_false_iff_not, Int.toNat_natCast, toNat_pred, toNat_succ, Option.getD_some, Option.getD_none, Bool.not_eq_true', Bool.not_eq_false', Bool.and_eq_true, Bool.or_eq_true, Bool.and_eq_false_iff, Bool.or_eq_false_iff, bne_iff_ne, beq_iff_eq, bne_eq_false_iff_eq, beq_eq_false_iff_ne, ne_eq, not_and, Int.not_le, Int.not_lt, ge_iff_le, gt_iff_lt, Nat.not_lt, Nat.not_le, Bool.not_eq_true, Bool.not_eq_false, Bool.true_eq_false, Bool.false_eq_true, not_false_eq_true, not_true_eq_false] at h)
    | exact goes_none.mpr (by omega)
  all_goals first | (exfalso; omega) | exact hm
theorem k66_ok : k66.ok Try.prog := by
  intro x hx
  obtain ⟨⟨⟨aq, nq, mq, tq, vq, gq, _⟩, de, _⟩, st, _⟩ := x
  obtain ⟨h1, h2⟩ := a66 aq nq mq tq vq gq de st (s66 aq nq mq tq vq gq de st (of_dec hx rfl))
  exact ⟨⟨400, (by decide : 1 + 1 + 1 ≤ 400), h1⟩, h2⟩
inductive St69 where
  | h0 (x0 : Int) (x1 : Int) (x2 : Int)
abbrev Rt69 := Int × Int
noncomputable def V69 (aq nq mq : Nat) (tq : Nat → ByteArray) (vq : Nat → Int) (gq : Nat → Int) (de : Int) (st : Int) (r : Rt69) : PV := PV.tup [PV.int IntKind.i64 r.1, PV.int IntKind.i64 r.2]
noncomputable def N69 (aq nq mq : Nat) (tq : Nat → ByteArray) (vq : Nat → Int) (gq : Nat → Int) (de : Int) (st : Int) (r : Rt69) : List Blk := []
noncomputable def I69 (aq nq mq : Nat) (tq : Nat → ByteArray) (vq : Nat → Int) (gq : Nat → Int) (de : Int) (st : Int) : St69 → Hd
  | .h0 x0 x1 x2 => ⟨hd Try.f69 0, [PV.int IntKind.i64 st, PV.int IntKind.i64 x0, PV.int IntKind.i64 x1,
 PV.loose (PA.mk (0) (3) aq (0)) nq, PV.int IntKind.i64 (↑nq : Int),
 PV.int IntKind.i64 x2], [[], [(0, (false, .cols mq [.str tq, .int .i64 vq, .int .i64 gq]))]], 1⟩
noncomputable def q69 (aq nq mq : Nat) (tq : Nat → ByteArray) (vq : Nat → Int) (gq : Nat → Int) (de : Int) (st : Int) : St69 → Option (St69 ⊕ Rt69)
  | .h0 x0 x1 x2 => bif (decide (x2 < (↑nq : Int)))
 then (bif (decide ((0 : Int) ≤ x2 ∧ x2 < (↑nq : Int)))
 then (bif (decide (Int.toNat x2 + aq < mq))
 then (bif (decide (x2 ≥ st))
 then (bif (lim IntKind.i64 (vq (Int.toNat x2 + aq) + gq (Int.toNat x2 + aq)))
 then (bif (lim IntKind.i64 (x0 + (vq (Int.toNat x2 + aq) + gq (Int.toNat x2 + aq))))
 then (bif (st == (0 : Int))
 then (bif (lim IntKind.i64 (x1 + (vq (Int.toNat x2 + aq) + gq (Int.toNat x2 + aq))))
 then (bif (lim IntKind.i64 (x2 + (1 : Int)))
 then (some (.inl (.h0 (x0 + (vq (Int.toNat x2 + aq) + gq (Int.toNat x2 + aq))) (x1 + (vq (Int.toNat x2 + aq) + gq (Int.toNat x2 + aq))) (x2 + (1 : Int)))))
 else (none))
 else (none))
 else (bif (x2 == (0 : Int))
 then (bif (lim IntKind.i64 (x1 + gq (Int.toNat x2 + aq)))
 then (bif (lim IntKind.i64 (x2 + (1 : Int)))
 then (some (.inl (.h0 (x0 + (vq (Int.toNat x2 + aq) + gq (Int.toNat x2 + aq))) (x1 + gq (Int.toNat x2 + aq)) (x2 + (1 : Int)))))
 else (none))
 else (none))
 else (bif (decide (x2 < st))
 then (bif (lim IntKind.i64 (x1 + (vq (Int.toNat x2 + aq) + gq (Int.toNat x2 + aq))))
 then (bif (lim IntKind.i64 (x2 + (1 : Int)))
 then (some (.inl (.h0 (x0 + (vq (Int.toNat x2 + aq) + gq (Int.toNat x2 + aq))) (x1 + (vq (Int.toNat x2 + aq) + gq (Int.toNat x2 + aq))) (x2 + (1 : Int)))))
 else (none))
 else (none))
 else (bif (x2 == st)
 then (bif (lim IntKind.i64 (x1 + vq (Int.toNat x2 + aq)))
 then (bif (lim IntKind.i64 (x2 + (1 : Int)))
 then (some (.inl (.h0 (x0 + (vq (Int.toNat x2 + aq) + gq (Int.toNat x2 + aq))) (x1 + vq (Int.toNat x2 + aq)) (x2 + (1 : Int)))))
 else (none))
 else (none))
 else (bif (lim IntKind.i64 (x2 + (1 : Int)))
 then (some (.inl (.h0 (x0 + (vq (Int.toNat x2 + aq) + gq (Int.toNat x2 + aq))) (x1) (x2 + (1 : Int)))))
 else (none))))))
 else (none))
 else (none))
 else (bif (st == (0 : Int))
 then (bif (lim IntKind.i64 (vq (Int.toNat x2 + aq) + gq (Int.toNat x2 + aq)))
 then (bif (lim IntKind.i64 (x1 + (vq (Int.toNat x2 + aq) + gq (Int.toNat x2 + aq))))
 then (bif (lim IntKind.i64 (x2 + (1 : Int)))
 then (some (.inl (.h0 (x0) (x1 + (vq (Int.toNat x2 + aq) + gq (Int.toNat x2 + aq))) (x2 + (1 : Int)))))
 else (none))
 else (none))
 else (none))
 else (bif (x2 == (0 : Int))
 then (bif (lim IntKind.i64 (x1 + gq (Int.toNat x2 + aq)))
 then (bif (lim IntKind.i64 (x2 + (1 : Int)))
 then (some (.inl (.h0 (x0) (x1 + gq (Int.toNat x2 + aq)) (x2 + (1 : Int)))))
 else (none))
 else (none))
 else (bif (decide (x2 < st))
 then (bif (lim IntKind.i64 (vq (Int.toNat x2 + aq) + gq (Int.toNat x2 + aq)))
 then (bif (lim IntKind.i64 (x1 + (vq (Int.toNat x2 + aq) + gq (Int.toNat x2 + aq))))
 then (bif (lim IntKind.i64 (x2 + (1 : Int)))
 then (some (.inl (.h0 (x0) (x1 + (vq (Int.toNat x2 + aq) + gq (Int.toNat x2 + aq))) (x2 + (1 : Int)))))
 else (none))
 else (none))
 else (none))
 else (bif (x2 == st)
 then (bif (lim IntKind.i64 (x1 + vq (Int.toNat x2 + aq)))
 then (bif (lim IntKind.i64 (x2 + (1 : Int)))
 then (some (.inl (.h0 (x0) (x1 + vq (Int.toNat x2 + aq)) (x2 + (1 : Int)))))
 else (none))
 else (none))
 else (bif (lim IntKind.i64 (x2 + (1 : Int)))
 then (some (.inl (.h0 (x0) (x1) (x2 + (1 : Int)))))
 else (none)))))))
 else (none))
 else (none))
 else (some (.inr (x0, x1)))
noncomputable def p69 (aq nq mq : Nat) (tq : Nat → ByteArray) (vq : Nat → Int) (gq : Nat → Int) (de : Int) (st : Int) : Option (St69 ⊕ Rt69) := some (.inl (.h0 (de) (de) ((0 : Int))))
noncomputable def Te69 (test : Bool → Prop → Prop → Prop) (Kst : KS) (Kret : KR) (aq nq mq : Nat) (tq : Nat → ByteArray) (vq : Nat → Int) (gq : Nat → Int) (de : Int) (st : Int) : Prop :=
  Kst (hd Try.f69 0) ([PV.int IntKind.i64 st, PV.int IntKind.i64 de, PV.int IntKind.i64 de,
 PV.loose (PA.mk (0) (3) aq (0)) nq, PV.int IntKind.i64 (↑nq : Int),
 PV.int IntKind.i64 (0 : Int)]) ([[(0, false,
 Blk.cols mq [Col.str tq, Col.int IntKind.i64 vq, Col.int IntKind.i64 gq])]]) (2)
theorem te69 (test : Bool → Prop → Prop → Prop) (Kst : KS) (Kret : KR) (aq nq mq : Nat) (tq : Nat → ByteArray) (vq : Nat → Int) (gq : Nat → Int) (de : Int) (st : Int) : run test Try.env true noX true 400 ⟨69, [.cd (mkFn Try.f69).body], argT 0 [.agg [.loose ⟨0, 3, aq, 0⟩ nq, .int .i64 de], .int .i64 st], [[], [(0, (false, .cols mq [.str tq, .int .i64 vq, .int .i64 gq]))]], 1⟩ (proj 1 [1, 6, 7, 15, 16, 17] Kst Kret) =
  Te69 test Kst Kret aq nq mq tq vq gq de st := by kernel_rfl
noncomputable def T69_0 (test : Bool → Prop → Prop → Prop) (Kst : KS) (Kret : KR) (aq nq mq : Nat) (tq : Nat → ByteArray) (vq : Nat → Int) (gq : Nat → Int) (de : Int) (st : Int) (x0 : Int) (x1 : Int) (x2 : Int) : Prop :=
  test (decide (x2 < (↑nq : Int)))
 (test (decide ((0 : Int) ≤ x2 ∧ x2 < (↑nq : Int)))
 (test (decide (Int.toNat x2 + aq < mq))
 (test (decide (Int.toNat x2 + aq < mq))
 (test (decide (Int.toNat x2 + aq < mq))
 (test (decide (x2 ≥ st))
 (test (lim IntKind.i64 (vq (Int.toNat x2 + aq) + gq (Int.toNat x2 + aq)))
 (test (lim IntKind.i64 (x0 + (vq (Int.toNat x2 + aq) + gq (Int.toNat x2 + aq))))
 (test (st == (0 : Int))
 (test (lim IntKind.i64 (vq (Int.toNat x2 + aq) + gq (Int.toNat x2 + aq)))
 (test (lim IntKind.i64 (x1 + (vq (Int.toNat x2 + aq) + gq (Int.toNat x2 + aq))))
 (test (lim IntKind.i64 (x2 + (1 : Int)))
 (Kst (hd Try.f69 0) ([PV.int IntKind.i64 st, PV.int IntKind.i64 (x0 + (vq (Int.toNat x2 + aq) + gq (Int.toNat x2 + aq))),
 PV.int IntKind.i64 (x1 + (vq (Int.toNat x2 + aq) + gq (Int.toNat x2 + aq))),
 PV.loose (PA.mk (0) (3) aq (0)) nq, PV.int IntKind.i64 (↑nq : Int),
 PV.int IntKind.i64 (x2 + (1 : Int))]) ([[(0, false,
 Blk.cols mq [Col.str tq, Col.int IntKind.i64 vq, Col.int IntKind.i64 gq])]]) (2))
 (False))
 (False))
 (False))
 (test (x2 == (0 : Int))
 (test (lim IntKind.i64 (x1 + gq (Int.toNat x2 + aq)))
 (test (lim IntKind.i64 (x2 + (1 : Int)))
 (Kst (hd Try.f69 0) ([PV.int IntKind.i64 st, PV.int IntKind.i64 (x0 + (vq (Int.toNat x2 + aq) + gq (Int.toNat x2 + aq))),
 PV.int IntKind.i64 (x1 + gq (Int.toNat x2 + aq)),
 PV.loose (PA.mk (0) (3) aq (0)) nq, PV.int IntKind.i64 (↑nq : Int),
 PV.int IntKind.i64 (x2 + (1 : Int))]) ([[(0, false,
 Blk.cols mq [Col.str tq, Col.int IntKind.i64 vq, Col.int IntKind.i64 gq])]]) (2))
 (False))
 (False))
 (test (decide (x2 < st))
 (test (lim IntKind.i64 (vq (Int.toNat x2 + aq) + gq (Int.toNat x2 + aq)))
 (test (lim IntKind.i64 (x1 + (vq (Int.toNat x2 + aq) + gq (Int.toNat x2 + aq))))
 (test (lim IntKind.i64 (x2 + (1 : Int)))
 (Kst (hd Try.f69 0) ([PV.int IntKind.i64 st, PV.int IntKind.i64 (x0 + (vq (Int.toNat x2 + aq) + gq (Int.toNat x2 + aq))),
 PV.int IntKind.i64 (x1 + (vq (Int.toNat x2 + aq) + gq (Int.toNat x2 + aq))),
 PV.loose (PA.mk (0) (3) aq (0)) nq, PV.int IntKind.i64 (↑nq : Int),
 PV.int IntKind.i64 (x2 + (1 : Int))]) ([[(0, false,
 Blk.cols mq [Col.str tq, Col.int IntKind.i64 vq, Col.int IntKind.i64 gq])]]) (2))
 (False))
 (False))
 (False))
 (test (x2 == st)
 (test (lim IntKind.i64 (x1 + vq (Int.toNat x2 + aq)))
 (test (lim IntKind.i64 (x2 + (1 : Int)))
 (Kst (hd Try.f69 0) ([PV.int IntKind.i64 st, PV.int IntKind.i64 (x0 + (vq (Int.toNat x2 + aq) + gq (Int.toNat x2 + aq))),
 PV.int IntKind.i64 (x1 + vq (Int.toNat x2 + aq)),
 PV.loose (PA.mk (0) (3) aq (0)) nq, PV.int IntKind.i64 (↑nq : Int),
 PV.int IntKind.i64 (x2 + (1 : Int))]) ([[(0, false,
 Blk.cols mq [Col.str tq, Col.int IntKind.i64 vq, Col.int IntKind.i64 gq])]]) (2))
 (False))
 (False))
 (test (lim IntKind.i64 (x2 + (1 : Int)))
 (Kst (hd Try.f69 0) ([PV.int IntKind.i64 st, PV.int IntKind.i64 (x0 + (vq (Int.toNat x2 + aq) + gq (Int.toNat x2 + aq))),
 PV.int IntKind.i64 x1, PV.loose (PA.mk (0) (3) aq (0)) nq,
 PV.int IntKind.i64 (↑nq : Int), PV.int IntKind.i64 (x2 + (1 : Int))]) ([[(0, false,
 Blk.cols mq [Col.str tq, Col.int IntKind.i64 vq, Col.int IntKind.i64 gq])]]) (2))
 (False))))))
 (False))
 (False))
 (test (st == (0 : Int))
 (test (lim IntKind.i64 (vq (Int.toNat x2 + aq) + gq (Int.toNat x2 + aq)))
 (test (lim IntKind.i64 (x1 + (vq (Int.toNat x2 + aq) + gq (Int.toNat x2 + aq))))
 (test (lim IntKind.i64 (x2 + (1 : Int)))
 (Kst (hd Try.f69 0) ([PV.int IntKind.i64 st, PV.int IntKind.i64 x0,
 PV.int IntKind.i64 (x1 + (vq (Int.toNat x2 + aq) + gq (Int.toNat x2 + aq))),
 PV.loose (PA.mk (0) (3) aq (0)) nq, PV.int IntKind.i64 (↑nq : Int),
 PV.int IntKind.i64 (x2 + (1 : Int))]) ([[(0, false,
 Blk.cols mq [Col.str tq, Col.int IntKind.i64 vq, Col.int IntKind.i64 gq])]]) (2))
 (False))
 (False))
 (False))
 (test (x2 == (0 : Int))
 (test (lim IntKind.i64 (x1 + gq (Int.toNat x2 + aq)))
 (test (lim IntKind.i64 (x2 + (1 : Int)))
 (Kst (hd Try.f69 0) ([PV.int IntKind.i64 st, PV.int IntKind.i64 x0,
 PV.int IntKind.i64 (x1 + gq (Int.toNat x2 + aq)),
 PV.loose (PA.mk (0) (3) aq (0)) nq, PV.int IntKind.i64 (↑nq : Int),
 PV.int IntKind.i64 (x2 + (1 : Int))]) ([[(0, false,
 Blk.cols mq [Col.str tq, Col.int IntKind.i64 vq, Col.int IntKind.i64 gq])]]) (2))
 (False))
 (False))
 (test (decide (x2 < st))
 (test (lim IntKind.i64 (vq (Int.toNat x2 + aq) + gq (Int.toNat x2 + aq)))
 (test (lim IntKind.i64 (x1 + (vq (Int.toNat x2 + aq) + gq (Int.toNat x2 + aq))))
 (test (lim IntKind.i64 (x2 + (1 : Int)))
 (Kst (hd Try.f69 0) ([PV.int IntKind.i64 st, PV.int IntKind.i64 x0,
 PV.int IntKind.i64 (x1 + (vq (Int.toNat x2 + aq) + gq (Int.toNat x2 + aq))),
 PV.loose (PA.mk (0) (3) aq (0)) nq, PV.int IntKind.i64 (↑nq : Int),
 PV.int IntKind.i64 (x2 + (1 : Int))]) ([[(0, false,
 Blk.cols mq [Col.str tq, Col.int IntKind.i64 vq, Col.int IntKind.i64 gq])]]) (2))
 (False))
 (False))
 (False))
 (test (x2 == st)
 (test (lim IntKind.i64 (x1 + vq (Int.toNat x2 + aq)))
 (test (lim IntKind.i64 (x2 + (1 : Int)))
 (Kst (hd Try.f69 0) ([PV.int IntKind.i64 st, PV.int IntKind.i64 x0,
 PV.int IntKind.i64 (x1 + vq (Int.toNat x2 + aq)),
 PV.loose (PA.mk (0) (3) aq (0)) nq, PV.int IntKind.i64 (↑nq : Int),
 PV.int IntKind.i64 (x2 + (1 : Int))]) ([[(0, false,
 Blk.cols mq [Col.str tq, Col.int IntKind.i64 vq, Col.int IntKind.i64 gq])]]) (2))
 (False))
 (False))
 (test (lim IntKind.i64 (x2 + (1 : Int)))
 (Kst (hd Try.f69 0) ([PV.int IntKind.i64 st, PV.int IntKind.i64 x0, PV.int IntKind.i64 x1,
 PV.loose (PA.mk (0) (3) aq (0)) nq, PV.int IntKind.i64 (↑nq : Int),
 PV.int IntKind.i64 (x2 + (1 : Int))]) ([[(0, false,
 Blk.cols mq [Col.str tq, Col.int IntKind.i64 vq, Col.int IntKind.i64 gq])]]) (2))
 (False)))))))
 (False))
 (False))
 (False))
 (False))
 (Kret (PV.tup [PV.int IntKind.i64 x0, PV.int IntKind.i64 x1]) ([[(0, false,
 Blk.cols mq [Col.str tq, Col.int IntKind.i64 vq, Col.int IntKind.i64 gq])]]) (1))
theorem t69_0 (test : Bool → Prop → Prop → Prop) (Kst : KS) (Kret : KR) (aq nq mq : Nat) (tq : Nat → ByteArray) (vq : Nat → Int) (gq : Nat → Int) (de : Int) (st : Int) (x0 : Int) (x1 : Int) (x2 : Int) : run test Try.env true noX true 400 ⟨69, hd Try.f69 0, zipT [1, 6, 7, 15, 16, 17] [PV.int IntKind.i64 st, PV.int IntKind.i64 x0, PV.int IntKind.i64 x1,
 PV.loose (PA.mk (0) (3) aq (0)) nq, PV.int IntKind.i64 (↑nq : Int),
 PV.int IntKind.i64 x2], [[], [(0, (false, .cols mq [.str tq, .int .i64 vq, .int .i64 gq]))]], 1⟩ (proj 1 [1, 6, 7, 15, 16, 17] Kst Kret) =
  T69_0 test Kst Kret aq nq mq tq vq gq de st x0 x1 x2 := by kernel_rfl
theorem be69 (aq nq mq : Nat) (tq : Nat → ByteArray) (vq : Nat → Int) (gq : Nat → Int) (de : Int) (st : Int) (Kst : KS) (Kret : KR) (x : St69 ⊕ Rt69) (hS : HS 1 400 ((I69 aq nq mq tq vq gq de st)) Kst x) (hR : HR 1 400 ((V69 aq nq mq tq vq gq de st)) (fun r => [newL (1 + 1) ((N69 aq nq mq tq vq gq de st) r) ++ [(0, (false, .cols mq [.str tq, .int .i64 vq, .int .i64 gq]))]]) Kret x) (h : (some (.inl (.h0 (de) (de) ((0 : Int)))) : Option (St69 ⊕ Rt69)) = some x) : Te69 cond Kst Kret aq nq mq tq vq gq de st := by
  unfold Te69
  exact stop_at hS _ h (fun n => n) rfl rfl rfl ⟨(rn_int rfl), ⟨(rn_int rfl), ⟨(rn_int rfl), ⟨(rn_loose (use_lo rfl) rfl rfl rfl), ⟨(rn_int rfl), ⟨(rn_int rfl), trivial⟩⟩⟩⟩⟩⟩ rfl (entl_bor (use_lo rfl) rfl rfl entl_nil)
theorem b69_0 (aq nq mq : Nat) (tq : Nat → ByteArray) (vq : Nat → Int) (gq : Nat → Int) (de : Int) (st : Int) (Kst : KS) (Kret : KR) (x : St69 ⊕ Rt69) (hS : HS 1 400 ((I69 aq nq mq tq vq gq de st)) Kst x) (hR : HR 1 400 ((V69 aq nq mq tq vq gq de st)) (fun r => [newL (1 + 1) ((N69 aq nq mq tq vq gq de st) r) ++ [(0, (false, .cols mq [.str tq, .int .i64 vq, .int .i64 gq]))]]) Kret x) (x0 : Int) (x1 : Int) (x2 : Int) (h : (bif (decide (x2 < (↑nq : Int)))
 then (bif (decide ((0 : Int) ≤ x2 ∧ x2 < (↑nq : Int)))
 then (bif (decide (Int.toNat x2 + aq < mq))
 then (bif (decide (x2 ≥ st))
 then (bif (lim IntKind.i64 (vq (Int.toNat x2 + aq) + gq (Int.toNat x2 + aq)))
 then (bif (lim IntKind.i64 (x0 + (vq (Int.toNat x2 + aq) + gq (Int.toNat x2 + aq))))
 then (bif (st == (0 : Int))
 then (bif (lim IntKind.i64 (x1 + (vq (Int.toNat x2 + aq) + gq (Int.toNat x2 + aq))))
 then (bif (lim IntKind.i64 (x2 + (1 : Int)))
 then (some (.inl (.h0 (x0 + (vq (Int.toNat x2 + aq) + gq (Int.toNat x2 + aq))) (x1 + (vq (Int.toNat x2 + aq) + gq (Int.toNat x2 + aq))) (x2 + (1 : Int)))))
 else (none))
 else (none))
 else (bif (x2 == (0 : Int))
 then (bif (lim IntKind.i64 (x1 + gq (Int.toNat x2 + aq)))
 then (bif (lim IntKind.i64 (x2 + (1 : Int)))
 then (some (.inl (.h0 (x0 + (vq (Int.toNat x2 + aq) + gq (Int.toNat x2 + aq))) (x1 + gq (Int.toNat x2 + aq)) (x2 + (1 : Int)))))
 else (none))
 else (none))
 else (bif (decide (x2 < st))
 then (bif (lim IntKind.i64 (x1 + (vq (Int.toNat x2 + aq) + gq (Int.toNat x2 + aq))))
 then (bif (lim IntKind.i64 (x2 + (1 : Int)))
 then (some (.inl (.h0 (x0 + (vq (Int.toNat x2 + aq) + gq (Int.toNat x2 + aq))) (x1 + (vq (Int.toNat x2 + aq) + gq (Int.toNat x2 + aq))) (x2 + (1 : Int)))))
 else (none))
 else (none))
 else (bif (x2 == st)
 then (bif (lim IntKind.i64 (x1 + vq (Int.toNat x2 + aq)))
 then (bif (lim IntKind.i64 (x2 + (1 : Int)))
 then (some (.inl (.h0 (x0 + (vq (Int.toNat x2 + aq) + gq (Int.toNat x2 + aq))) (x1 + vq (Int.toNat x2 + aq)) (x2 + (1 : Int)))))
 else (none))
 else (none))
 else (bif (lim IntKind.i64 (x2 + (1 : Int)))
 then (some (.inl (.h0 (x0 + (vq (Int.toNat x2 + aq) + gq (Int.toNat x2 + aq))) (x1) (x2 + (1 : Int)))))
 else (none))))))
 else (none))
 else (none))
 else (bif (st == (0 : Int))
 then (bif (lim IntKind.i64 (vq (Int.toNat x2 + aq) + gq (Int.toNat x2 + aq)))
 then (bif (lim IntKind.i64 (x1 + (vq (Int.toNat x2 + aq) + gq (Int.toNat x2 + aq))))
 then (bif (lim IntKind.i64 (x2 + (1 : Int)))
 then (some (.inl (.h0 (x0) (x1 + (vq (Int.toNat x2 + aq) + gq (Int.toNat x2 + aq))) (x2 + (1 : Int)))))
 else (none))
 else (none))
 else (none))
 else (bif (x2 == (0 : Int))
 then (bif (lim IntKind.i64 (x1 + gq (Int.toNat x2 + aq)))
 then (bif (lim IntKind.i64 (x2 + (1 : Int)))
 then (some (.inl (.h0 (x0) (x1 + gq (Int.toNat x2 + aq)) (x2 + (1 : Int)))))
 else (none))
 else (none))
 else (bif (decide (x2 < st))
 then (bif (lim IntKind.i64 (vq (Int.toNat x2 + aq) + gq (Int.toNat x2 + aq)))
 then (bif (lim IntKind.i64 (x1 + (vq (Int.toNat x2 + aq) + gq (Int.toNat x2 + aq))))
 then (bif (lim IntKind.i64 (x2 + (1 : Int)))
 then (some (.inl (.h0 (x0) (x1 + (vq (Int.toNat x2 + aq) + gq (Int.toNat x2 + aq))) (x2 + (1 : Int)))))
 else (none))
 else (none))
 else (none))
 else (bif (x2 == st)
 then (bif (lim IntKind.i64 (x1 + vq (Int.toNat x2 + aq)))
 then (bif (lim IntKind.i64 (x2 + (1 : Int)))
 then (some (.inl (.h0 (x0) (x1 + vq (Int.toNat x2 + aq)) (x2 + (1 : Int)))))
 else (none))
 else (none))
 else (bif (lim IntKind.i64 (x2 + (1 : Int)))
 then (some (.inl (.h0 (x0) (x1) (x2 + (1 : Int)))))
 else (none)))))))
 else (none))
 else (none))
 else (some (.inr (x0, x1))) : Option (St69 ⊕ Rt69)) = some x) : T69_0 cond Kst Kret aq nq mq tq vq gq de st x0 x1 x2 := by
  unfold T69_0
  exact bif_split h
   (fun c0 h => bif_split h
   (fun c1 h => bif_split h
   (fun c2 h => cond_yes c2 (cond_yes c2 (bif_split h
   (fun c3 h => bif_split h
   (fun c4 h => bif_split h
   (fun c5 h => bif_split h
   (fun c6 h => cond_yes c4 (bif_split h
   (fun c7 h => bif_split h
   (fun c8 h => stop_at hS _ h (fun n => n) rfl rfl rfl ⟨(rn_int rfl), ⟨(rn_int rfl), ⟨(rn_int rfl), ⟨(rn_loose (use_lo rfl) rfl rfl rfl), ⟨(rn_int rfl), ⟨(rn_int rfl), trivial⟩⟩⟩⟩⟩⟩ rfl (entl_bor (use_lo rfl) rfl rfl entl_nil))
   (fun c8 h => no_some h))
   (fun c7 h => no_some h)))
   (fun c6 h => bif_split h
   (fun c7 h => bif_split h
   (fun c8 h => bif_split h
   (fun c9 h => stop_at hS _ h (fun n => n) rfl rfl rfl ⟨(rn_int rfl), ⟨(rn_int rfl), ⟨(rn_int rfl), ⟨(rn_loose (use_lo rfl) rfl rfl rfl), ⟨(rn_int rfl), ⟨(rn_int rfl), trivial⟩⟩⟩⟩⟩⟩ rfl (entl_bor (use_lo rfl) rfl rfl entl_nil))
   (fun c9 h => no_some h))
   (fun c8 h => no_some h))
   (fun c7 h => bif_split h
   (fun c8 h => cond_yes c4 (bif_split h
   (fun c9 h => bif_split h
   (fun c10 h => stop_at hS _ h (fun n => n) rfl rfl rfl ⟨(rn_int rfl), ⟨(rn_int rfl), ⟨(rn_int rfl), ⟨(rn_loose (use_lo rfl) rfl rfl rfl), ⟨(rn_int rfl), ⟨(rn_int rfl), trivial⟩⟩⟩⟩⟩⟩ rfl (entl_bor (use_lo rfl) rfl rfl entl_nil))
   (fun c10 h => no_some h))
   (fun c9 h => no_some h)))
   (fun c8 h => bif_split h
   (fun c9 h => bif_split h
   (fun c10 h => bif_split h
   (fun c11 h => stop_at hS _ h (fun n => n) rfl rfl rfl ⟨(rn_int rfl), ⟨(rn_int rfl), ⟨(rn_int rfl), ⟨(rn_loose (use_lo rfl) rfl rfl rfl), ⟨(rn_int rfl), ⟨(rn_int rfl), trivial⟩⟩⟩⟩⟩⟩ rfl (entl_bor (use_lo rfl) rfl rfl entl_nil))
   (fun c11 h => no_some h))
   (fun c10 h => no_some h))
   (fun c9 h => bif_split h
   (fun c10 h => stop_at hS _ h (fun n => n) rfl rfl rfl ⟨(rn_int rfl), ⟨(rn_int rfl), ⟨(rn_int rfl), ⟨(rn_loose (use_lo rfl) rfl rfl rfl), ⟨(rn_int rfl), ⟨(rn_int rfl), trivial⟩⟩⟩⟩⟩⟩ rfl (entl_bor (use_lo rfl) rfl rfl entl_nil))
   (fun c10 h => no_some h))))))
   (fun c5 h => no_some h))
   (fun c4 h => no_some h))
   (fun c3 h => bif_split h
   (fun c4 h => bif_split h
   (fun c5 h => bif_split h
   (fun c6 h => bif_split h
   (fun c7 h => stop_at hS _ h (fun n => n) rfl rfl rfl ⟨(rn_int rfl), ⟨(rn_int rfl), ⟨(rn_int rfl), ⟨(rn_loose (use_lo rfl) rfl rfl rfl), ⟨(rn_int rfl), ⟨(rn_int rfl), trivial⟩⟩⟩⟩⟩⟩ rfl (entl_bor (use_lo rfl) rfl rfl entl_nil))
   (fun c7 h => no_some h))
   (fun c6 h => no_some h))
   (fun c5 h => no_some h))
   (fun c4 h => bif_split h
   (fun c5 h => bif_split h
   (fun c6 h => bif_split h
   (fun c7 h => stop_at hS _ h (fun n => n) rfl rfl rfl ⟨(rn_int rfl), ⟨(rn_int rfl), ⟨(rn_int rfl), ⟨(rn_loose (use_lo rfl) rfl rfl rfl), ⟨(rn_int rfl), ⟨(rn_int rfl), trivial⟩⟩⟩⟩⟩⟩ rfl (entl_bor (use_lo rfl) rfl rfl entl_nil))
   (fun c7 h => no_some h))
   (fun c6 h => no_some h))
   (fun c5 h => bif_split h
   (fun c6 h => bif_split h
   (fun c7 h => bif_split h
   (fun c8 h => bif_split h
   (fun c9 h => stop_at hS _ h (fun n => n) rfl rfl rfl ⟨(rn_int rfl), ⟨(rn_int rfl), ⟨(rn_int rfl), ⟨(rn_loose (use_lo rfl) rfl rfl rfl), ⟨(rn_int rfl), ⟨(rn_int rfl), trivial⟩⟩⟩⟩⟩⟩ rfl (entl_bor (use_lo rfl) rfl rfl entl_nil))
   (fun c9 h => no_some h))
   (fun c8 h => no_some h))
   (fun c7 h => no_some h))
   (fun c6 h => bif_split h
   (fun c7 h => bif_split h
   (fun c8 h => bif_split h
   (fun c9 h => stop_at hS _ h (fun n => n) rfl rfl rfl ⟨(rn_int rfl), ⟨(rn_int rfl), ⟨(rn_int rfl), ⟨(rn_loose (use_lo rfl) rfl rfl rfl), ⟨(rn_int rfl), ⟨(rn_int rfl), trivial⟩⟩⟩⟩⟩⟩ rfl (entl_bor (use_lo rfl) rfl rfl entl_nil))
   (fun c9 h => no_some h))
   (fun c8 h => no_some h))
   (fun c7 h => bif_split h
   (fun c8 h => stop_at hS _ h (fun n => n) rfl rfl rfl ⟨(rn_int rfl), ⟨(rn_int rfl), ⟨(rn_int rfl), ⟨(rn_loose (use_lo rfl) rfl rfl rfl), ⟨(rn_int rfl), ⟨(rn_int rfl), trivial⟩⟩⟩⟩⟩⟩ rfl (entl_bor (use_lo rfl) rfl rfl entl_nil))
   (fun c8 h => no_some h)))))))))
   (fun c2 h => no_some h))
   (fun c1 h => no_some h))
   (fun c0 h => ret_at hR _ h (fun n => n) rfl rfl rfl (rn_tup ⟨(rn_int rfl), (rn_int rfl), trivial⟩) rfl (entl_bor (use_lo rfl) rfl rfl entl_nil))
theorem a69 (aq nq mq : Nat) (tq : Nat → ByteArray) (vq : Nat → Int) (gq : Nat → Int) (de : Int) (st : Int) {r : Rt69} (h : Goes ((q69 aq nq mq tq vq gq de st)) ((p69 aq nq mq tq vq gq de st)) r) : CallR Try.prog 69 [.agg [.loose ⟨0, 3, aq, 0⟩ nq, .int .i64 de], .int .i64 st] [[(0, (false, .cols mq [.str tq, .int .i64 vq, .int .i64 gq]))]] 1 ((V69 aq nq mq tq vq gq de st) r) ((fun r => [newL (1 + 1) ((N69 aq nq mq tq vq gq de st) r) ++ [(0, (false, .cols mq [.str tq, .int .i64 vq, .int .i64 gq]))]]) r) 400 ∧ ∃ F, Try.prog.funcs[69]? = some F ∧ F.body.isSome = true ∧ (F.name == "runtime.NumGoroutine") = false := by
  refine dec_calls (f := 69) (lo := 1) (hi := 400) (H := [[(0, (false, .cols mq [.str tq, .int .i64 vq, .int .i64 gq]))]]) (args := [.agg [.loose ⟨0, 3, aq, 0⟩ nq, .int .i64 de], .int .i64 st]) Try.envOk Try.mixed noX_ok ((I69 aq nq mq tq vq gq de st)) ((V69 aq nq mq tq vq gq de st)) (fun r => [newL (1 + 1) ((N69 aq nq mq tq vq gq de st) r) ++ [(0, (false, .cols mq [.str tq, .int .i64 vq, .int .i64 gq]))]]) (fn := mkFn Try.f69) (ts := [1, 6, 7, 15, 16, 17]) (n := 400) rfl (by decide) (by simp) (names_of rfl) ?_ ?_ ?_ h
  · intro s; cases s <;> exact ⟨hd_ok _ _, by simp [I69], names_of rfl, Nat.le_of_ble_eq_true rfl⟩
  · intro Kst Kret x hS hR h
    exact Holds.eq (te69 cond Kst Kret aq nq mq tq vq gq de st) (be69 aq nq mq tq vq gq de st Kst Kret x hS hR h)
  · intro Kst Kret x hS hR s h
    cases s with
    | h0 x0 x1 x2 => exact Holds.eq (t69_0 cond Kst Kret aq nq mq tq vq gq de st x0 x1 x2) (b69_0 aq nq mq tq vq gq de st Kst Kret x hS hR x0 x1 x2 h)
noncomputable def k69 : Con := ⟨69, [.agg [.list [.str, .int .i64, .int .i64], .plain (.int .i64)], .one (.plain (.int .i64))], fun (x : ((Nat × Nat × Nat × (Nat → ByteArray) × (Nat → Int) × (Nat → Int) × Unit) × Int × Unit) × Int × Unit) => (fun (aq nq mq : Nat) (tq : Nat → ByteArray) (vq : Nat → Int) (gq : Nat → Int) (de : Int) (st : Int) => decide ((aq + nq ≤ mq) ∧ (S.netE nq (fun j => tq (j + aq)) (fun j => vq (j + aq)) (fun j => gq (j + aq)) de) = 0 ∧ 0 ≤ st ∧ st < (nq : Int))) x.1.1.1 x.1.1.2.1 x.1.1.2.2.1 x.1.1.2.2.2.1 x.1.1.2.2.2.2.1 x.1.1.2.2.2.2.2.1 x.1.2.1 x.2.1, fun (x : ((Nat × Nat × Nat × (Nat → ByteArray) × (Nat → Int) × (Nat → Int) × Unit) × Int × Unit) × Int × Unit) => (fun (aq nq mq : Nat) (tq : Nat → ByteArray) (vq : Nat → Int) (gq : Nat → Int) (de : Int) (st : Int) => (V69 aq nq mq tq vq gq de st) ((S.tA (fun j => vq (j + aq)) (fun j => gq (j + aq)) de st nq, S.tB (fun j => vq (j + aq)) (fun j => gq (j + aq)) de st nq))) x.1.1.1 x.1.1.2.1 x.1.1.2.2.1 x.1.1.2.2.2.1 x.1.1.2.2.2.2.1 x.1.1.2.2.2.2.2.1 x.1.2.1 x.2.1, fun (x : ((Nat × Nat × Nat × (Nat → ByteArray) × (Nat → Int) × (Nat → Int) × Unit) × Int × Unit) × Int × Unit) => (fun (aq nq mq : Nat) (tq : Nat → ByteArray) (vq : Nat → Int) (gq : Nat → Int) (de : Int) (st : Int) => (N69 aq nq mq tq vq gq de st) ((S.tA (fun j => vq (j + aq)) (fun j => gq (j + aq)) de st nq, S.tB (fun j => vq (j + aq)) (fun j => gq (j + aq)) de st nq))) x.1.1.1 x.1.1.2.1 x.1.1.2.2.1 x.1.1.2.2.2.1 x.1.1.2.2.2.2.1 x.1.1.2.2.2.2.2.1 x.1.2.1 x.2.1, fun _ _ => .dead⟩
theorem s69' (aq nq mq : Nat) (tq : Nat → ByteArray) (vq : Nat → Int) (gq : Nat → Int) (de : Int) (st : Int) (hp : (aq + nq ≤ mq) ∧ (S.netE nq (fun j => tq (j + aq)) (fun j => vq (j + aq)) (fun j => gq (j + aq)) de) = 0 ∧ 0 ≤ st ∧ st < (nq : Int)) : ∀ (k i : Nat), i + k = nq → Comes (q69 aq nq mq tq vq gq de st) (.h0 (S.tA (fun j => vq (j + aq)) (fun j => gq (j + aq)) de st i) (S.tB (fun j => vq (j + aq)) (fun j => gq (j + aq)) de st i) (i : Int)) (S.tA (fun j => vq (j + aq)) (fun j => gq (j + aq)) de st nq, S.tB (fun j => vq (j + aq)) (fun j => gq (j + aq)) de st nq) := by
  obtain ⟨hp1, hv, hs1, hs2⟩ := hp
  obtain ⟨v1, v2, v3⟩ := net_ok hv
  intro k
  induction k with
  | zero =>
    intro i hi
    obtain rfl : nq = i := by omega
    apply Comes.of
    show Goes _ _ _
    (first | rw [q69] | unfold q69)
    repeat' first
      | with_reducible refine goes_if (fun h => ?_) (fun h => ?_) <;> (try simp only [lim64, imp_false, decide_eq_true_eq, decide_eq_false_iff_not, Int.toNat_natCast, toNat_pred, toNat_succ, Option.getD_some, Option.getD_none, Bool.not_eq_true', Bool.not_eq_false', Bool.and_eq_true, Bool.or_eq_true, Bool.and_eq_false_iff, Bool.or_eq_false_iff, bne_iff_ne, beq_iff_eq, bne_eq_false_iff_eq, beq_eq_false_iff_ne, ne_eq, not_and, Int.not_le, Int.not_lt, ge_iff_le, gt_iff_lt, Nat.not_lt, Nat.not_le, Bool.not_eq_true, Bool.not_eq_false, Bool.true_eq_false, Bool.false_eq_true, not_false_eq_true, not_true_eq_false] at h)
      | exact goes_none.mpr (by omega)
    all_goals first | (exfalso; omega) | exact goes_inr.mpr rfl
  | succ k ih =>
    intro i hi
    have ih := ih (i + 1) (by omega)
    have hA := tA_b (st := st) v2 v3 i (by omega)
    have hB := tB_b (st := st) v2 v3 i (by omega)
    have hx := v3 i (by omega)
    try dsimp only at hx
    have eA : S.tA (fun j => vq (j + aq)) (fun j => gq (j + aq)) de st (i + 1) = S.tA (fun j => vq (j + aq)) (fun j => gq (j + aq)) de st i + (if st ≤ (i : Int) then vq (i + aq) + gq (i + aq) else 0) := rfl
    have eB : S.tB (fun j => vq (j + aq)) (fun j => gq (j + aq)) de st (i + 1) = S.tB (fun j => vq (j + aq)) (fun j => gq (j + aq)) de st i + (if st = 0 then vq (i + aq) + gq (i + aq) else if i = 0 then gq (i + aq) else if (i : Int) < st then vq (i + aq) + gq (i + aq) else if (i : Int) = st then vq (i + aq) else 0) := rfl
    rw [eA, eB] at ih
    generalize S.tA (fun j => vq (j + aq)) (fun j => gq (j + aq)) de st nq = RA at *
    generalize S.tB (fun j => vq (j + aq)) (fun j => gq (j + aq)) de st nq = RB at *
    generalize S.tA (fun j => vq (j + aq)) (fun j => gq (j + aq)) de st i = A at *
    generalize S.tB (fun j => vq (j + aq)) (fun j => gq (j + aq)) de st i = B at *
    clear eA eB
    apply Comes.of
    show Goes _ _ _
    (first | rw [q69] | unfold q69)
    try simp only [Int.toNat_natCast]
    try show Goes _ _ _
    repeat' first
      | with_reducible refine goes_if (fun h => ?_) (fun h => ?_) <;> (try simp only [lim64, imp_false, decide_eq_true_eq, decide_eq_false_iff_not, Int.toNat_natCast, toNat_pred, toNat_succ, Option.getD_some, Option.getD_none, Bool.not_eq_true', Bool.not_eq_false', Bool.and_eq_true, Bool.or_eq_true, Bool.and_eq_false_iff, Bool.or_eq_false_iff, bne_iff_ne, beq_iff_eq, bne_eq_false_iff_eq, beq_eq_false_iff_ne, ne_eq, not_and, Int.not_le, Int.not_lt, ge_iff_le, gt_iff_lt, Nat.not_lt, Nat.not_le, Bool.not_eq_true, Bool.not_eq_false, Bool.true_eq_false, Bool.false_eq_true, not_false_eq_true, not_true_eq_false] at h)
      | exact goes_none.mpr (by omega)
    all_goals first
      | (exfalso; omega)
      | (refine Eq.mpr (congrArg (fun s => Comes _ s _) ?_) ih; congr 1 <;> (repeat' split) <;> omega)
theorem s69 (aq nq mq : Nat) (tq : Nat → ByteArray) (vq : Nat → Int) (gq : Nat → Int) (de : Int) (st : Int) (hp : (aq + nq ≤ mq) ∧ (S.netE nq (fun j => tq (j + aq)) (fun j => vq (j + aq)) (fun j => gq (j + aq)) de) = 0 ∧ 0 ≤ st ∧ st < (nq : Int)) : Goes ((q69 aq nq mq tq vq gq de st)) ((p69 aq nq mq tq vq gq de st)) ((S.tA (fun j => vq (j + aq)) (fun j => gq (j + aq)) de st nq, S.tB (fun j => vq (j + aq)) (fun j => gq (j + aq)) de st nq)) := by
  have hm := s69' aq nq mq tq vq gq de st hp nq 0 (Nat.zero_add _)
  exact hm
theorem k69_ok : k69.ok Try.prog := by
  intro x hx
  obtain ⟨⟨⟨aq, nq, mq, tq, vq, gq, _⟩, de, _⟩, st, _⟩ := x
  obtain ⟨h1, h2⟩ := a69 aq nq mq tq vq gq de st (s69 aq nq mq tq vq gq de st (of_dec hx rfl))
  exact ⟨⟨400, (by decide : 1 + 1 + 0 ≤ 400), h1⟩, h2⟩
noncomputable def xY (test : Bool → Prop → Prop → Prop) : Ext := consX test [k58, k66, k69, k54]
theorem xY_ok : ExtOk Try.prog (xY cond) := consX_ok ⟨k58_ok, k66_ok, k69_ok, k54_ok, trivial⟩
namespace S
def opL (lp : Int) (n : Nat) (st k l p : Int) : Bool := opnB lp n (fun i => decide ((i : Int) ≠ st)) 1 (fun _ => k) (fun _ => l) (fun _ => p)
def latI (n : Nat) (v g : Nat → Int) (de st k l p : Int) : Int := if opL 1 n (-1) k l p = true ∨ opL 2 n (-1) k l p = true then 0 else if opL 1 n st k l p = false then tB v g de st n else if opL 2 n st k l p = false then tA v g de st n else min (tA v g de st n) (tB v g de st n)
def safB (n : Nat) (loc : Nat → Bool) (nf : Nat) (k l p : Nat → Int) : Bool := opnB 1 n loc nf k l p || opnB 2 n loc nf k l p
end S
theorem any_one {p : Nat → Bool} : S.any p 1 = p 0 := by simp [S.any]
theorem any_zero {p : Nat → Bool} : S.any p 0 = false := rfl
theorem opn_one {lp : Int} {n : Nat} {st k l p : Int} {F : Nat → Bool} {K L P : Nat → Int} (hF : ∀ r, r < n → F r = decide ((r : Int) ≠ st)) (hK : K 0 = k) (hL : L 0 = l) (hP : P 0 = p) : S.opnB lp n (fun j => S.at' (S.mkl n F) j) 1 K L P = S.opL lp n st k l p := by
  unfold S.opL
  exact opnB_congr (fun j hj => by rw [at_mkl hj]; exact hF j hj) (fun j hj => by rw [show j = 0 by omega]; exact ⟨hK, hL, hP⟩)
theorem has_one {k l p a c d : Int} : S.hasF 1 (fun _ => k) (fun _ => l) (fun _ => p) a c d = decide (k = a ∧ l = c ∧ p = d) := by
  unfold S.hasF
  rw [any_one, Bool.decide_and, Bool.decide_and, Bool.and_assoc]
abbrev St47 := Empty
abbrev Rt47 := Int
noncomputable def V47 (aq nq mq : Nat) (tq : Nat → ByteArray) (vq : Nat → Int) (gq : Nat → Int) (de : Int) (st : Int) (k1 : Int) (k2 : Int) (k3 : Int) (r : Rt47) : PV := PV.int IntKind.i64 r
noncomputable def N47 (aq nq mq : Nat) (tq : Nat → ByteArray) (vq : Nat → Int) (gq : Nat → Int) (de : Int) (st : Int) (k1 : Int) (k2 : Int) (k3 : Int) (r : Rt47) : List Blk := []
noncomputable def I47 (aq nq mq : Nat) (tq : Nat → ByteArray) (vq : Nat → Int) (gq : Nat → Int) (de : Int) (st : Int) (k1 : Int) (k2 : Int) (k3 : Int) : St47 → Hd := fun s => s.elim
noncomputable def q47 (aq nq mq : Nat) (tq : Nat → ByteArray) (vq : Nat → Int) (gq : Nat → Int) (de : Int) (st : Int) (k1 : Int) (k2 : Int) (k3 : Int) : St47 → Option (St47 ⊕ Rt47) := fun s => s.elim
noncomputable def p47 (aq nq mq : Nat) (tq : Nat → ByteArray) (vq : Nat → Int) (gq : Nat → Int) (de : Int) (st : Int) (k1 : Int) (k2 : Int) (k3 : Int) : Option (St47 ⊕ Rt47) := bif (decide
 (0 ≤ 0 ∧
 0 ≤ 1000000 ∧
 nq ≤ 1000 ∧
 S.all (fun j => decide ((0 : Int) ≤ (0 : Int) ∧ (0 : Int) < (↑nq : Int))) (0) =
 true))
 then (bif (decide
 (1 ≤ 1 ∧
 1 ≤ 1000000 ∧
 nq ≤ 1000 ∧
 S.all
 (fun j =>
 decide ((0 : Int) ≤ S.lit [st] (0 : Int) j ∧ S.lit [st] (0 : Int) j < (↑nq : Int)))
 (1) =
 true))
 then (bif (decide
 (1 ≤ 1 ∧
 1 ≤ 1000000 ∧
 0 +
 List.length
 (S.mkl nq fun (r : Nat) =>
 !S.any (fun j => decide ((0 : Int) = (↑r : Int))) (0)) ≤
 List.length
 (S.mkl nq fun (r : Nat) =>
 !S.any (fun j => decide ((0 : Int) = (↑r : Int))) (0)) ∧
 List.length
 (S.mkl nq fun (r : Nat) =>
 !S.any (fun j => decide ((0 : Int) = (↑r : Int))) (0)) ≤
 1000000))
 then (bif (S.opnB (1 : Int)
 (List.length
 (S.mkl nq fun (r : Nat) =>
 !S.any (fun j => decide ((0 : Int) = (↑r : Int))) (0)))
 (fun j =>
 S.at'
 (S.mkl nq fun (r : Nat) =>
 !S.any (fun j => decide ((0 : Int) = (↑r : Int))) (0))
 j)
 (1) (fun j => S.lit [k1] (0 : Int) j) (fun j => S.lit [k2] (0 : Int) j)
 fun j => S.lit [k3] (0 : Int) j)
 then (some (.inr ((0 : Int))))
 else (bif (S.opnB (2 : Int)
 (List.length
 (S.mkl nq fun (r : Nat) =>
 !S.any (fun j => decide ((0 : Int) = (↑r : Int))) (0)))
 (fun j =>
 S.at'
 (S.mkl nq fun (r : Nat) =>
 !S.any (fun j => decide ((0 : Int) = (↑r : Int))) (0))
 j)
 (1) (fun j => S.lit [k1] (0 : Int) j) (fun j => S.lit [k2] (0 : Int) j)
 fun j => S.lit [k3] (0 : Int) j)
 then (some (.inr ((0 : Int))))
 else (bif (decide
 (aq + nq ≤ mq ∧
 S.netE nq (fun j => tq (j + aq)) (fun j => vq (j + aq)) (fun j => gq (j + aq)) de =
 (0 : Int) ∧
 (0 : Int) ≤ st ∧ st < (↑nq : Int)))
 then (bif (decide
 (1 ≤ 1 ∧
 1 ≤ 1000000 ∧
 0 +
 List.length
 (S.mkl nq fun (r : Nat) =>
 !S.any (fun j => decide (S.lit [st] (0 : Int) j = (↑r : Int)))
 (1)) ≤
 List.length
 (S.mkl nq fun (r : Nat) =>
 !S.any (fun j => decide (S.lit [st] (0 : Int) j = (↑r : Int)))
 (1)) ∧
 List.length
 (S.mkl nq fun (r : Nat) =>
 !S.any (fun j => decide (S.lit [st] (0 : Int) j = (↑r : Int)))
 (1)) ≤
 1000000))
 then (bif (S.opnB (1 : Int)
 (List.length
 (S.mkl nq fun (r : Nat) =>
 !S.any (fun j => decide (S.lit [st] (0 : Int) j = (↑r : Int))) (1)))
 (fun j =>
 S.at'
 (S.mkl nq fun (r : Nat) =>
 !S.any (fun j => decide (S.lit [st] (0 : Int) j = (↑r : Int))) (1))
 j)
 (1) (fun j => S.lit [k1] (0 : Int) j) (fun j => S.lit [k2] (0 : Int) j)
 fun j => S.lit [k3] (0 : Int) j)
 then (bif (S.opnB (2 : Int)
 (List.length
 (S.mkl nq fun (r : Nat) =>
 !S.any (fun j => decide (S.lit [st] (0 : Int) j = (↑r : Int))) (1)))
 (fun j =>
 S.at'
 (S.mkl nq fun (r : Nat) =>
 !S.any (fun j => decide (S.lit [st] (0 : Int) j = (↑r : Int))) (1))
 j)
 (1) (fun j => S.lit [k1] (0 : Int) j) (fun j => S.lit [k2] (0 : Int) j)
 fun j => S.lit [k3] (0 : Int) j)
 then (some (.inr (Min.min (S.tA (fun j => vq (j + aq)) (fun j => gq (j + aq)) de st nq)
 (S.tB (fun j => vq (j + aq)) (fun j => gq (j + aq)) de st nq))))
 else (some (.inr (S.tA (fun j => vq (j + aq)) (fun j => gq (j + aq)) de st nq))))
 else (some (.inr (S.tB (fun j => vq (j + aq)) (fun j => gq (j + aq)) de st nq))))
 else (none))
 else (none))))
 else (none))
 else (none))
 else (none)
noncomputable def Te47 (test : Bool → Prop → Prop → Prop) (Kst : KS) (Kret : KR) (aq nq mq : Nat) (tq : Nat → ByteArray) (vq : Nat → Int) (gq : Nat → Int) (de : Int) (st : Int) (k1 : Int) (k2 : Int) (k3 : Int) : Prop :=
  test (decide
 (0 ≤ 0 ∧
 0 ≤ 1000000 ∧
 nq ≤ 1000 ∧
 S.all (fun j => decide ((0 : Int) ≤ (0 : Int) ∧ (0 : Int) < (↑nq : Int))) (0) =
 true))
 (test (decide
 (1 ≤ 1 ∧
 1 ≤ 1000000 ∧
 nq ≤ 1000 ∧
 S.all
 (fun j =>
 decide ((0 : Int) ≤ S.lit [st] (0 : Int) j ∧ S.lit [st] (0 : Int) j < (↑nq : Int)))
 (1) =
 true))
 (test (decide
 (1 ≤ 1 ∧
 1 ≤ 1000000 ∧
 0 +
 List.length
 (S.mkl nq fun (r : Nat) =>
 !S.any (fun j => decide ((0 : Int) = (↑r : Int))) (0)) ≤
 List.length
 (S.mkl nq fun (r : Nat) =>
 !S.any (fun j => decide ((0 : Int) = (↑r : Int))) (0)) ∧
 List.length
 (S.mkl nq fun (r : Nat) =>
 !S.any (fun j => decide ((0 : Int) = (↑r : Int))) (0)) ≤
 1000000))
 (test (S.opnB (1 : Int)
 (List.length
 (S.mkl nq fun (r : Nat) =>
 !S.any (fun j => decide ((0 : Int) = (↑r : Int))) (0)))
 (fun j =>
 S.at'
 (S.mkl nq fun (r : Nat) =>
 !S.any (fun j => decide ((0 : Int) = (↑r : Int))) (0))
 j)
 (1) (fun j => S.lit [k1] (0 : Int) j) (fun j => S.lit [k2] (0 : Int) j)
 fun j => S.lit [k3] (0 : Int) j)
 (Kret (PV.int IntKind.i64 (0 : Int)) ([[(0, false,
 Blk.cols mq [Col.str tq, Col.int IntKind.i64 vq, Col.int IntKind.i64 gq])]]) (10))
 (test (decide
 (1 ≤ 1 ∧
 1 ≤ 1000000 ∧
 0 +
 List.length
 (S.mkl nq fun (r : Nat) =>
 !S.any (fun j => decide ((0 : Int) = (↑r : Int))) (0)) ≤
 List.length
 (S.mkl nq fun (r : Nat) =>
 !S.any (fun j => decide ((0 : Int) = (↑r : Int))) (0)) ∧
 List.length
 (S.mkl nq fun (r : Nat) =>
 !S.any (fun j => decide ((0 : Int) = (↑r : Int))) (0)) ≤
 1000000))
 (test (S.opnB (2 : Int)
 (List.length
 (S.mkl nq fun (r : Nat) =>
 !S.any (fun j => decide ((0 : Int) = (↑r : Int))) (0)))
 (fun j =>
 S.at'
 (S.mkl nq fun (r : Nat) =>
 !S.any (fun j => decide ((0 : Int) = (↑r : Int))) (0))
 j)
 (1) (fun j => S.lit [k1] (0 : Int) j) (fun j => S.lit [k2] (0 : Int) j)
 fun j => S.lit [k3] (0 : Int) j)
 (Kret (PV.int IntKind.i64 (0 : Int)) ([[(0, false,
 Blk.cols mq [Col.str tq, Col.int IntKind.i64 vq, Col.int IntKind.i64 gq])]]) (12))
 (test (decide
 (aq + nq ≤ mq ∧
 S.netE nq (fun j => tq (j + aq)) (fun j => vq (j + aq)) (fun j => gq (j + aq)) de =
 (0 : Int) ∧
 (0 : Int) ≤ st ∧ st < (↑nq : Int)))
 (test (decide
 (1 ≤ 1 ∧
 1 ≤ 1000000 ∧
 0 +
 List.length
 (S.mkl nq fun (r : Nat) =>
 !S.any (fun j => decide (S.lit [st] (0 : Int) j = (↑r : Int)))
 (1)) ≤
 List.length
 (S.mkl nq fun (r : Nat) =>
 !S.any (fun j => decide (S.lit [st] (0 : Int) j = (↑r : Int)))
 (1)) ∧
 List.length
 (S.mkl nq fun (r : Nat) =>
 !S.any (fun j => decide (S.lit [st] (0 : Int) j = (↑r : Int)))
 (1)) ≤
 1000000))
 (test (S.opnB (1 : Int)
 (List.length
 (S.mkl nq fun (r : Nat) =>
 !S.any (fun j => decide (S.lit [st] (0 : Int) j = (↑r : Int))) (1)))
 (fun j =>
 S.at'
 (S.mkl nq fun (r : Nat) =>
 !S.any (fun j => decide (S.lit [st] (0 : Int) j = (↑r : Int))) (1))
 j)
 (1) (fun j => S.lit [k1] (0 : Int) j) (fun j => S.lit [k2] (0 : Int) j)
 fun j => S.lit [k3] (0 : Int) j)
 (test (decide
 (1 ≤ 1 ∧
 1 ≤ 1000000 ∧
 0 +
 List.length
 (S.mkl nq fun (r : Nat) =>
 !S.any (fun j => decide (S.lit [st] (0 : Int) j = (↑r : Int)))
 (1)) ≤
 List.length
 (S.mkl nq fun (r : Nat) =>
 !S.any (fun j => decide (S.lit [st] (0 : Int) j = (↑r : Int)))
 (1)) ∧
 List.length
 (S.mkl nq fun (r : Nat) =>
 !S.any (fun j => decide (S.lit [st] (0 : Int) j = (↑r : Int)))
 (1)) ≤
 1000000))
 (test (S.opnB (2 : Int)
 (List.length
 (S.mkl nq fun (r : Nat) =>
 !S.any (fun j => decide (S.lit [st] (0 : Int) j = (↑r : Int))) (1)))
 (fun j =>
 S.at'
 (S.mkl nq fun (r : Nat) =>
 !S.any (fun j => decide (S.lit [st] (0 : Int) j = (↑r : Int))) (1))
 j)
 (1) (fun j => S.lit [k1] (0 : Int) j) (fun j => S.lit [k2] (0 : Int) j)
 fun j => S.lit [k3] (0 : Int) j)
 (Kret (PV.int IntKind.i64
 (Min.min (S.tA (fun j => vq (j + aq)) (fun j => gq (j + aq)) de st nq)
 (S.tB (fun j => vq (j + aq)) (fun j => gq (j + aq)) de st nq))) ([[(0, false,
 Blk.cols mq [Col.str tq, Col.int IntKind.i64 vq, Col.int IntKind.i64 gq])]]) (17))
 (Kret (PV.int IntKind.i64 (S.tA (fun j => vq (j + aq)) (fun j => gq (j + aq)) de st nq)) ([[(0, false,
 Blk.cols mq [Col.str tq, Col.int IntKind.i64 vq, Col.int IntKind.i64 gq])]]) (17)))
 (False))
 (Kret (PV.int IntKind.i64 (S.tB (fun j => vq (j + aq)) (fun j => gq (j + aq)) de st nq)) ([[(0, false,
 Blk.cols mq [Col.str tq, Col.int IntKind.i64 vq, Col.int IntKind.i64 gq])]]) (15)))
 (False))
 (False)))
 (False)))
 (False))
 (False))
 (False)
theorem te47 (test : Bool → Prop → Prop → Prop) (Kst : KS) (Kret : KR) (aq nq mq : Nat) (tq : Nat → ByteArray) (vq : Nat → Int) (gq : Nat → Int) (de : Int) (st : Int) (k1 : Int) (k2 : Int) (k3 : Int) : run test Try.env true (xY test) true 400 ⟨47, [.cd (mkFn Try.f47).body], argT 0 [.agg [.loose ⟨0, 3, aq, 0⟩ nq, .int .i64 de], .int .i64 st, .agg [.int .i64 k1, .int .i64 k2, .int .i64 k3]], [[], [(0, (false, .cols mq [.str tq, .int .i64 vq, .int .i64 gq]))]], 1⟩ (proj 1 [] Kst Kret) =
  Te47 test Kst Kret aq nq mq tq vq gq de st k1 k2 k3 := by kernel_rfl
theorem be47 (aq nq mq : Nat) (tq : Nat → ByteArray) (vq : Nat → Int) (gq : Nat → Int) (de : Int) (st : Int) (k1 : Int) (k2 : Int) (k3 : Int) (Kst : KS) (Kret : KR) (x : St47 ⊕ Rt47) (hS : HS 1 400 ((I47 aq nq mq tq vq gq de st k1 k2 k3)) Kst x) (hR : HR 1 400 ((V47 aq nq mq tq vq gq de st k1 k2 k3)) (fun r => [newL (1 + 1) ((N47 aq nq mq tq vq gq de st k1 k2 k3) r) ++ [(0, (false, .cols mq [.str tq, .int .i64 vq, .int .i64 gq]))]]) Kret x) (h : (bif (decide
 (0 ≤ 0 ∧
 0 ≤ 1000000 ∧
 nq ≤ 1000 ∧
 S.all (fun j => decide ((0 : Int) ≤ (0 : Int) ∧ (0 : Int) < (↑nq : Int))) (0) =
 true))
 then (bif (decide
 (1 ≤ 1 ∧
 1 ≤ 1000000 ∧
 nq ≤ 1000 ∧
 S.all
 (fun j =>
 decide ((0 : Int) ≤ S.lit [st] (0 : Int) j ∧ S.lit [st] (0 : Int) j < (↑nq : Int)))
 (1) =
 true))
 then (bif (decide
 (1 ≤ 1 ∧
 1 ≤ 1000000 ∧
 0 +
 List.length
 (S.mkl nq fun (r : Nat) =>
 !S.any (fun j => decide ((0 : Int) = (↑r : Int))) (0)) ≤
 List.length
 (S.mkl nq fun (r : Nat) =>
 !S.any (fun j => decide ((0 : Int) = (↑r : Int))) (0)) ∧
 List.length
 (S.mkl nq fun (r : Nat) =>
 !S.any (fun j => decide ((0 : Int) = (↑r : Int))) (0)) ≤
 1000000))
 then (bif (S.opnB (1 : Int)
 (List.length
 (S.mkl nq fun (r : Nat) =>
 !S.any (fun j => decide ((0 : Int) = (↑r : Int))) (0)))
 (fun j =>
 S.at'
 (S.mkl nq fun (r : Nat) =>
 !S.any (fun j => decide ((0 : Int) = (↑r : Int))) (0))
 j)
 (1) (fun j => S.lit [k1] (0 : Int) j) (fun j => S.lit [k2] (0 : Int) j)
 fun j => S.lit [k3] (0 : Int) j)
 then (some (.inr ((0 : Int))))
 else (bif (S.opnB (2 : Int)
 (List.length
 (S.mkl nq fun (r : Nat) =>
 !S.any (fun j => decide ((0 : Int) = (↑r : Int))) (0)))
 (fun j =>
 S.at'
 (S.mkl nq fun (r : Nat) =>
 !S.any (fun j => decide ((0 : Int) = (↑r : Int))) (0))
 j)
 (1) (fun j => S.lit [k1] (0 : Int) j) (fun j => S.lit [k2] (0 : Int) j)
 fun j => S.lit [k3] (0 : Int) j)
 then (some (.inr ((0 : Int))))
 else (bif (decide
 (aq + nq ≤ mq ∧
 S.netE nq (fun j => tq (j + aq)) (fun j => vq (j + aq)) (fun j => gq (j + aq)) de =
 (0 : Int) ∧
 (0 : Int) ≤ st ∧ st < (↑nq : Int)))
 then (bif (decide
 (1 ≤ 1 ∧
 1 ≤ 1000000 ∧
 0 +
 List.length
 (S.mkl nq fun (r : Nat) =>
 !S.any (fun j => decide (S.lit [st] (0 : Int) j = (↑r : Int)))
 (1)) ≤
 List.length
 (S.mkl nq fun (r : Nat) =>
 !S.any (fun j => decide (S.lit [st] (0 : Int) j = (↑r : Int)))
 (1)) ∧
 List.length
 (S.mkl nq fun (r : Nat) =>
 !S.any (fun j => decide (S.lit [st] (0 : Int) j = (↑r : Int)))
 (1)) ≤
 1000000))
 then (bif (S.opnB (1 : Int)
 (List.length
 (S.mkl nq fun (r : Nat) =>
 !S.any (fun j => decide (S.lit [st] (0 : Int) j = (↑r : Int))) (1)))
 (fun j =>
 S.at'
 (S.mkl nq fun (r : Nat) =>
 !S.any (fun j => decide (S.lit [st] (0 : Int) j = (↑r : Int))) (1))
 j)
 (1) (fun j => S.lit [k1] (0 : Int) j) (fun j => S.lit [k2] (0 : Int) j)
 fun j => S.lit [k3] (0 : Int) j)
 then (bif (S.opnB (2 : Int)
 (List.length
 (S.mkl nq fun (r : Nat) =>
 !S.any (fun j => decide (S.lit [st] (0 : Int) j = (↑r : Int))) (1)))
 (fun j =>
 S.at'
 (S.mkl nq fun (r : Nat) =>
 !S.any (fun j => decide (S.lit [st] (0 : Int) j = (↑r : Int))) (1))
 j)
 (1) (fun j => S.lit [k1] (0 : Int) j) (fun j => S.lit [k2] (0 : Int) j)
 fun j => S.lit [k3] (0 : Int) j)
 then (some (.inr (Min.min (S.tA (fun j => vq (j + aq)) (fun j => gq (j + aq)) de st nq)
 (S.tB (fun j => vq (j + aq)) (fun j => gq (j + aq)) de st nq))))
 else (some (.inr (S.tA (fun j => vq (j + aq)) (fun j => gq (j + aq)) de st nq))))
 else (some (.inr (S.tB (fun j => vq (j + aq)) (fun j => gq (j + aq)) de st nq))))
 else (none))
 else (none))))
 else (none))
 else (none))
 else (none) : Option (St47 ⊕ Rt47)) = some x) : Te47 cond Kst Kret aq nq mq tq vq gq de st k1 k2 k3 := by
  unfold Te47
  exact bif_split h
   (fun c0 h => bif_split h
   (fun c1 h => bif_split h
   (fun c2 h => bif_split h
   (fun c3 h => ret_at hR _ h (fun n => n) rfl rfl rfl (rn_int rfl) rfl (entl_bor (use_lo rfl) rfl rfl entl_nil))
   (fun c3 h => cond_yes c2 (bif_split h
   (fun c4 h => ret_at hR _ h (fun n => n) rfl rfl rfl (rn_int rfl) rfl (entl_bor (use_lo rfl) rfl rfl entl_nil))
   (fun c4 h => bif_split h
   (fun c5 h => bif_split h
   (fun c6 h => bif_split h
   (fun c7 h => cond_yes c6 (bif_split h
   (fun c8 h => ret_at hR _ h (fun n => n) rfl rfl rfl (rn_int rfl) rfl (entl_bor (use_lo rfl) rfl rfl entl_nil))
   (fun c8 h => ret_at hR _ h (fun n => n) rfl rfl rfl (rn_int rfl) rfl (entl_bor (use_lo rfl) rfl rfl entl_nil))))
   (fun c7 h => ret_at hR _ h (fun n => n) rfl rfl rfl (rn_int rfl) rfl (entl_bor (use_lo rfl) rfl rfl entl_nil)))
   (fun c6 h => no_some h))
   (fun c5 h => no_some h)))))
   (fun c2 h => no_some h))
   (fun c1 h => no_some h))
   (fun c0 h => no_some h)
theorem a47 (aq nq mq : Nat) (tq : Nat → ByteArray) (vq : Nat → Int) (gq : Nat → Int) (de : Int) (st : Int) (k1 : Int) (k2 : Int) (k3 : Int) {r : Rt47} (h : Goes ((q47 aq nq mq tq vq gq de st k1 k2 k3)) ((p47 aq nq mq tq vq gq de st k1 k2 k3)) r) : CallR Try.prog 47 [.agg [.loose ⟨0, 3, aq, 0⟩ nq, .int .i64 de], .int .i64 st, .agg [.int .i64 k1, .int .i64 k2, .int .i64 k3]] [[(0, (false, .cols mq [.str tq, .int .i64 vq, .int .i64 gq]))]] 1 ((V47 aq nq mq tq vq gq de st k1 k2 k3) r) ((fun r => [newL (1 + 1) ((N47 aq nq mq tq vq gq de st k1 k2 k3) r) ++ [(0, (false, .cols mq [.str tq, .int .i64 vq, .int .i64 gq]))]]) r) 400 ∧ ∃ F, Try.prog.funcs[47]? = some F ∧ F.body.isSome = true ∧ (F.name == "runtime.NumGoroutine") = false := by
  refine dec_calls (f := 47) (lo := 1) (hi := 400) (H := [[(0, (false, .cols mq [.str tq, .int .i64 vq, .int .i64 gq]))]]) (args := [.agg [.loose ⟨0, 3, aq, 0⟩ nq, .int .i64 de], .int .i64 st, .agg [.int .i64 k1, .int .i64 k2, .int .i64 k3]]) Try.envOk Try.mixed xY_ok ((I47 aq nq mq tq vq gq de st k1 k2 k3)) ((V47 aq nq mq tq vq gq de st k1 k2 k3)) (fun r => [newL (1 + 1) ((N47 aq nq mq tq vq gq de st k1 k2 k3) r) ++ [(0, (false, .cols mq [.str tq, .int .i64 vq, .int .i64 gq]))]]) (fn := mkFn Try.f47) (ts := []) (n := 400) rfl (by decide) (by simp) (names_of rfl) ?_ ?_ ?_ h
  · intro s; exact s.elim
  · intro Kst Kret x hS hR h
    exact Holds.eq (te47 cond Kst Kret aq nq mq tq vq gq de st k1 k2 k3) (be47 aq nq mq tq vq gq de st k1 k2 k3 Kst Kret x hS hR h)
  · intro Kst Kret x hS hR s h; exact s.elim
noncomputable def k47 : Con := ⟨47, [.agg [.list [.str, .int .i64, .int .i64], .plain (.int .i64)], .one (.plain (.int .i64)), .agg [.plain (.int .i64), .plain (.int .i64), .plain (.int .i64)]], fun (x : ((Nat × Nat × Nat × (Nat → ByteArray) × (Nat → Int) × (Nat → Int) × Unit) × Int × Unit) × Int × (Int × Int × Int × Unit) × Unit) => (fun (aq nq mq : Nat) (tq : Nat → ByteArray) (vq : Nat → Int) (gq : Nat → Int) (de : Int) (st : Int) (k1 : Int) (k2 : Int) (k3 : Int) => decide ((aq + nq ≤ mq) ∧ (S.netE nq (fun j => tq (j + aq)) (fun j => vq (j + aq)) (fun j => gq (j + aq)) de) = 0 ∧ 0 ≤ st ∧ st < (nq : Int))) x.1.1.1 x.1.1.2.1 x.1.1.2.2.1 x.1.1.2.2.2.1 x.1.1.2.2.2.2.1 x.1.1.2.2.2.2.2.1 x.1.2.1 x.2.1 x.2.2.1.1 x.2.2.1.2.1 x.2.2.1.2.2.1, fun (x : ((Nat × Nat × Nat × (Nat → ByteArray) × (Nat → Int) × (Nat → Int) × Unit) × Int × Unit) × Int × (Int × Int × Int × Unit) × Unit) => (fun (aq nq mq : Nat) (tq : Nat → ByteArray) (vq : Nat → Int) (gq : Nat → Int) (de : Int) (st : Int) (k1 : Int) (k2 : Int) (k3 : Int) => (V47 aq nq mq tq vq gq de st k1 k2 k3) (S.latI nq (fun j => vq (j + aq)) (fun j => gq (j + aq)) de st k1 k2 k3)) x.1.1.1 x.1.1.2.1 x.1.1.2.2.1 x.1.1.2.2.2.1 x.1.1.2.2.2.2.1 x.1.1.2.2.2.2.2.1 x.1.2.1 x.2.1 x.2.2.1.1 x.2.2.1.2.1 x.2.2.1.2.2.1, fun (x : ((Nat × Nat × Nat × (Nat → ByteArray) × (Nat → Int) × (Nat → Int) × Unit) × Int × Unit) × Int × (Int × Int × Int × Unit) × Unit) => (fun (aq nq mq : Nat) (tq : Nat → ByteArray) (vq : Nat → Int) (gq : Nat → Int) (de : Int) (st : Int) (k1 : Int) (k2 : Int) (k3 : Int) => (N47 aq nq mq tq vq gq de st k1 k2 k3) (S.latI nq (fun j => vq (j + aq)) (fun j => gq (j + aq)) de st k1 k2 k3)) x.1.1.1 x.1.1.2.1 x.1.1.2.2.1 x.1.1.2.2.2.1 x.1.1.2.2.2.2.1 x.1.1.2.2.2.2.2.1 x.1.2.1 x.2.1 x.2.2.1.1 x.2.2.1.2.1 x.2.2.1.2.2.1, fun _ _ => .dead⟩
theorem s47 (aq nq mq : Nat) (tq : Nat → ByteArray) (vq : Nat → Int) (gq : Nat → Int) (de : Int) (st : Int) (k1 : Int) (k2 : Int) (k3 : Int) (hp : (aq + nq ≤ mq) ∧ (S.netE nq (fun j => tq (j + aq)) (fun j => vq (j + aq)) (fun j => gq (j + aq)) de) = 0 ∧ 0 ≤ st ∧ st < (nq : Int)) : Goes ((q47 aq nq mq tq vq gq de st k1 k2 k3)) ((p47 aq nq mq tq vq gq de st k1 k2 k3)) (S.latI nq (fun j => vq (j + aq)) (fun j => gq (j + aq)) de st k1 k2 k3) := by
  obtain ⟨hp1, hv, hs1, hs2⟩ := hp
  obtain ⟨v1, v2, v3⟩ := net_ok hv
  have e0 : ∀ lp, S.opnB lp nq (fun j => S.at' (S.mkl nq (fun (r : Nat) => !S.any (fun j => decide ((0 : Int) = (r : Int))) 0)) j) 1 (fun j => S.lit [k1] 0 j) (fun j => S.lit [k2] 0 j) (fun j => S.lit [k3] 0 j) = S.opL lp nq (-1) k1 k2 k3 := fun lp => opn_one (fun r hr => by
    rw [any_zero, decide_eq_true (show (r : Int) ≠ -1 by omega)]; rfl) rfl rfl rfl
  have e1 : ∀ lp, S.opnB lp nq (fun j => S.at' (S.mkl nq (fun (r : Nat) => !S.any (fun j => decide (S.lit [st] 0 j = (r : Int))) 1)) j) 1 (fun j => S.lit [k1] 0 j) (fun j => S.lit [k2] 0 j) (fun j => S.lit [k3] 0 j) = S.opL lp nq st k1 k2 k3 := fun lp => opn_one (fun r hr => by
    rw [any_one]
    show (!decide (st = (r : Int))) = decide ((r : Int) ≠ st)
    rw [← decide_not]
    exact decide_eq_decide.mpr ⟨fun h e => h e.symm, fun h e => h e.symm⟩) rfl rfl rfl
  have h3 : S.all (fun j => decide (0 ≤ S.lit [st] 0 j ∧ S.lit [st] 0 j < (nq : Int))) 1 = true := all_iff.mpr fun j hj => by
    obtain rfl : j = 0 := by omega
    exact decide_eq_true ⟨hs1, hs2⟩
  have h4 : ∀ p : Nat → Bool, S.all p 0 = true := fun p => rfl
  have hq : nq ≤ 1000 ∧ nq ≤ 1000000 := by omega
  unfold p47 S.latI
  have hk1 : (1 : Nat) ≤ 1000000 := by decide
  simp only [mkl_len, e0, e1, h3, h4, hv, hp1, hs1, hs2, hq.1, hq.2, eq_self, and_self, decide_true, cond_true, Nat.zero_add, Nat.le_refl, Nat.zero_le, hk1]
  generalize S.tA (fun j => vq (j + aq)) (fun j => gq (j + aq)) de st nq = TA
  generalize S.tB (fun j => vq (j + aq)) (fun j => gq (j + aq)) de st nq = TB
  generalize S.opL 1 nq (-1) k1 k2 k3 = A
  generalize S.opL 2 nq (-1) k1 k2 k3 = B
  generalize S.opL 1 nq st k1 k2 k3 = C
  generalize S.opL 2 nq st k1 k2 k3 = D
  show Goes _ _ _
  cases A <;> cases B <;> cases C <;> cases D
  all_goals
   repeat' first
    | with_reducible refine goes_if (fun h => ?_) (fun h => ?_) <;> (try simp only [lim64, imp_false, decide_eq_true_eq, decide_eq_false_iff_not, Int.toNat_natCast, toNat_pred, toNat_succ, Option.getD_some, Option.getD_none, Bool.not_eq_true', Bool.not_eq_false', Bool.and_eq_true, Bool.or_eq_true, Bool.and_eq_false_iff, Bool.or_eq_false_iff, bne_iff_ne, beq_iff_eq, bne_eq_false_iff_eq, beq_eq_false_iff_ne, ne_eq, not_and, Int.not_le, Int.not_lt, ge_iff_le, gt_iff_lt, Nat.not_lt, Nat.not_le, Bool.not_eq_true, Bool.not_eq_false, Bool.true_eq_false, Bool.false_eq_true, not_false_eq_true, not_true_eq_false] at h)
    | exact goes_none.mpr (by omega)
   all_goals first | (exfalso; omega) | exact goes_inr.mpr rfl
theorem k47_ok : k47.ok Try.prog := by
  intro x hx
  obtain ⟨⟨⟨aq, nq, mq, tq, vq, gq, _⟩, de, _⟩, st, ⟨k1, k2, k3, _⟩, _⟩ := x
  obtain ⟨h1, h2⟩ := a47 aq nq mq tq vq gq de st k1 k2 k3 (s47 aq nq mq tq vq gq de st k1 k2 k3 (of_dec hx rfl))
  exact ⟨⟨400, (by decide : 1 + 1 + 0 ≤ 400), h1⟩, h2⟩
abbrev St59 := Empty
abbrev Rt59 := Bool
noncomputable def V59 (ao no mo : Nat) (to : Nat → Bool) (al nl ml : Nat) (tl : Nat → Int) (vl : Nat → Int) (gl : Nat → Int) (r : Rt59) : PV := PV.bool r
noncomputable def N59 (ao no mo : Nat) (to : Nat → Bool) (al nl ml : Nat) (tl : Nat → Int) (vl : Nat → Int) (gl : Nat → Int) (r : Rt59) : List Blk := []
noncomputable def I59 (ao no mo : Nat) (to : Nat → Bool) (al nl ml : Nat) (tl : Nat → Int) (vl : Nat → Int) (gl : Nat → Int) : St59 → Hd := fun s => s.elim
noncomputable def q59 (ao no mo : Nat) (to : Nat → Bool) (al nl ml : Nat) (tl : Nat → Int) (vl : Nat → Int) (gl : Nat → Int) : St59 → Option (St59 ⊕ Rt59) := fun s => s.elim
noncomputable def p59 (ao no mo : Nat) (to : Nat → Bool) (al nl ml : Nat) (tl : Nat → Int) (vl : Nat → Int) (gl : Nat → Int) : Option (St59 ⊕ Rt59) := bif (decide (al + nl ≤ ml ∧ nl ≤ 1000000 ∧ ao + no ≤ mo ∧ no ≤ 1000000))
 then (bif (S.opnB (1 : Int) no (fun j => to (j + ao)) nl (fun j => tl (j + al))
 (fun j => vl (j + al)) fun j => gl (j + al))
 then (some (.inr (true)))
 else (bif (S.opnB (2 : Int) no (fun j => to (j + ao)) nl (fun j => tl (j + al))
 (fun j => vl (j + al)) fun j => gl (j + al))
 then (some (.inr (true)))
 else (some (.inr (false)))))
 else (none)
noncomputable def Te59 (test : Bool → Prop → Prop → Prop) (Kst : KS) (Kret : KR) (ao no mo : Nat) (to : Nat → Bool) (al nl ml : Nat) (tl : Nat → Int) (vl : Nat → Int) (gl : Nat → Int) : Prop :=
  test (decide (al + nl ≤ ml ∧ nl ≤ 1000000 ∧ ao + no ≤ mo ∧ no ≤ 1000000))
 (test (S.opnB (1 : Int) no (fun j => to (j + ao)) nl (fun j => tl (j + al))
 (fun j => vl (j + al)) fun j => gl (j + al))
 (Kret (PV.tf true) ([[(1, false,
 Blk.cols ml
 [Col.int IntKind.i64 tl, Col.int IntKind.i64 vl, Col.int IntKind.i64 gl]),
 (0, false, Blk.cols mo [Col.bool to])]]) (3))
 (test (decide (al + nl ≤ ml ∧ nl ≤ 1000000 ∧ ao + no ≤ mo ∧ no ≤ 1000000))
 (test (S.opnB (2 : Int) no (fun j => to (j + ao)) nl (fun j => tl (j + al))
 (fun j => vl (j + al)) fun j => gl (j + al))
 (Kret (PV.tf true) ([[(1, false,
 Blk.cols ml
 [Col.int IntKind.i64 tl, Col.int IntKind.i64 vl, Col.int IntKind.i64 gl]),
 (0, false, Blk.cols mo [Col.bool to])]]) (4))
 (Kret (PV.tf false) ([[(1, false,
 Blk.cols ml
 [Col.int IntKind.i64 tl, Col.int IntKind.i64 vl, Col.int IntKind.i64 gl]),
 (0, false, Blk.cols mo [Col.bool to])]]) (4)))
 (False)))
 (False)
theorem te59 (test : Bool → Prop → Prop → Prop) (Kst : KS) (Kret : KR) (ao no mo : Nat) (to : Nat → Bool) (al nl ml : Nat) (tl : Nat → Int) (vl : Nat → Int) (gl : Nat → Int) : run test Try.env true (xY test) true 400 ⟨59, [.cd (mkFn Try.f59).body], argT 0 [.loose ⟨0, 1, ao, 0⟩ no, .loose ⟨1, 3, al, 0⟩ nl], [[], [(0, (false, .cols mo [.bool to])), (1, (false, .cols ml [.int .i64 tl, .int .i64 vl, .int .i64 gl]))]], 2⟩ (proj 2 [] Kst Kret) =
  Te59 test Kst Kret ao no mo to al nl ml tl vl gl := by kernel_rfl
theorem be59 (ao no mo : Nat) (to : Nat → Bool) (al nl ml : Nat) (tl : Nat → Int) (vl : Nat → Int) (gl : Nat → Int) (Kst : KS) (Kret : KR) (x : St59 ⊕ Rt59) (hS : HS 2 400 ((I59 ao no mo to al nl ml tl vl gl)) Kst x) (hR : HR 2 400 ((V59 ao no mo to al nl ml tl vl gl)) (fun r => [newL (2 + 1) ((N59 ao no mo to al nl ml tl vl gl) r) ++ [(0, (false, .cols mo [.bool to])), (1, (false, .cols ml [.int .i64 tl, .int .i64 vl, .int .i64 gl]))]]) Kret x) (h : (bif (decide (al + nl ≤ ml ∧ nl ≤ 1000000 ∧ ao + no ≤ mo ∧ no ≤ 1000000))
 then (bif (S.opnB (1 : Int) no (fun j => to (j + ao)) nl (fun j => tl (j + al))
 (fun j => vl (j + al)) fun j => gl (j + al))
 then (some (.inr (true)))
 else (bif (S.opnB (2 : Int) no (fun j => to (j + ao)) nl (fun j => tl (j + al))
 (fun j => vl (j + al)) fun j => gl (j + al))
 then (some (.inr (true)))
 else (some (.inr (false)))))
 else (none) : Option (St59 ⊕ Rt59)) = some x) : Te59 cond Kst Kret ao no mo to al nl ml tl vl gl := by
  unfold Te59
  exact bif_split h
   (fun c0 h => bif_split h
   (fun c1 h => ret_at hR _ h (fun n => n) rfl rfl rfl (rn_bool_tf rfl) rfl (entl_bor (use_lo rfl) rfl rfl (entl_bor (use_lo rfl) rfl rfl entl_nil)))
   (fun c1 h => cond_yes c0 (bif_split h
   (fun c2 h => ret_at hR _ h (fun n => n) rfl rfl rfl (rn_bool_tf rfl) rfl (entl_bor (use_lo rfl) rfl rfl (entl_bor (use_lo rfl) rfl rfl entl_nil)))
   (fun c2 h => ret_at hR _ h (fun n => n) rfl rfl rfl (rn_bool_tf rfl) rfl (entl_bor (use_lo rfl) rfl rfl (entl_bor (use_lo rfl) rfl rfl entl_nil))))))
   (fun c0 h => no_some h)
theorem a59 (ao no mo : Nat) (to : Nat → Bool) (al nl ml : Nat) (tl : Nat → Int) (vl : Nat → Int) (gl : Nat → Int) {r : Rt59} (h : Goes ((q59 ao no mo to al nl ml tl vl gl)) ((p59 ao no mo to al nl ml tl vl gl)) r) : CallR Try.prog 59 [.loose ⟨0, 1, ao, 0⟩ no, .loose ⟨1, 3, al, 0⟩ nl] [[(0, (false, .cols mo [.bool to])), (1, (false, .cols ml [.int .i64 tl, .int .i64 vl, .int .i64 gl]))]] 2 ((V59 ao no mo to al nl ml tl vl gl) r) ((fun r => [newL (2 + 1) ((N59 ao no mo to al nl ml tl vl gl) r) ++ [(0, (false, .cols mo [.bool to])), (1, (false, .cols ml [.int .i64 tl, .int .i64 vl, .int .i64 gl]))]]) r) 400 ∧ ∃ F, Try.prog.funcs[59]? = some F ∧ F.body.isSome = true ∧ (F.name == "runtime.NumGoroutine") = false := by
  refine dec_calls (f := 59) (lo := 2) (hi := 400) (H := [[(0, (false, .cols mo [.bool to])), (1, (false, .cols ml [.int .i64 tl, .int .i64 vl, .int .i64 gl]))]]) (args := [.loose ⟨0, 1, ao, 0⟩ no, .loose ⟨1, 3, al, 0⟩ nl]) Try.envOk Try.mixed xY_ok ((I59 ao no mo to al nl ml tl vl gl)) ((V59 ao no mo to al nl ml tl vl gl)) (fun r => [newL (2 + 1) ((N59 ao no mo to al nl ml tl vl gl) r) ++ [(0, (false, .cols mo [.bool to])), (1, (false, .cols ml [.int .i64 tl, .int .i64 vl, .int .i64 gl]))]]) (fn := mkFn Try.f59) (ts := []) (n := 400) rfl (by decide) (by simp) (names_of rfl) ?_ ?_ ?_ h
  · intro s; exact s.elim
  · intro Kst Kret x hS hR h
    exact Holds.eq (te59 cond Kst Kret ao no mo to al nl ml tl vl gl) (be59 ao no mo to al nl ml tl vl gl Kst Kret x hS hR h)
  · intro Kst Kret x hS hR s h; exact s.elim
noncomputable def k59 : Con := ⟨59, [.one (.list [.bool]), .one (.list [.int .i64, .int .i64, .int .i64])], fun (x : (Nat × Nat × Nat × (Nat → Bool) × Unit) × (Nat × Nat × Nat × (Nat → Int) × (Nat → Int) × (Nat → Int) × Unit) × Unit) => (fun (ao no mo : Nat) (to : Nat → Bool) (al nl ml : Nat) (tl : Nat → Int) (vl : Nat → Int) (gl : Nat → Int) => decide (al + nl ≤ ml ∧ nl ≤ 1000000 ∧ ao + no ≤ mo ∧ no ≤ 1000000)) x.1.1 x.1.2.1 x.1.2.2.1 x.1.2.2.2.1 x.2.1.1 x.2.1.2.1 x.2.1.2.2.1 x.2.1.2.2.2.1 x.2.1.2.2.2.2.1 x.2.1.2.2.2.2.2.1, fun (x : (Nat × Nat × Nat × (Nat → Bool) × Unit) × (Nat × Nat × Nat × (Nat → Int) × (Nat → Int) × (Nat → Int) × Unit) × Unit) => (fun (ao no mo : Nat) (to : Nat → Bool) (al nl ml : Nat) (tl : Nat → Int) (vl : Nat → Int) (gl : Nat → Int) => (V59 ao no mo to al nl ml tl vl gl) (S.safB no (fun j => to (j + ao)) nl (fun j => tl (j + al)) (fun j => vl (j + al)) (fun j => gl (j + al)))) x.1.1 x.1.2.1 x.1.2.2.1 x.1.2.2.2.1 x.2.1.1 x.2.1.2.1 x.2.1.2.2.1 x.2.1.2.2.2.1 x.2.1.2.2.2.2.1 x.2.1.2.2.2.2.2.1, fun (x : (Nat × Nat × Nat × (Nat → Bool) × Unit) × (Nat × Nat × Nat × (Nat → Int) × (Nat → Int) × (Nat → Int) × Unit) × Unit) => (fun (ao no mo : Nat) (to : Nat → Bool) (al nl ml : Nat) (tl : Nat → Int) (vl : Nat → Int) (gl : Nat → Int) => (N59 ao no mo to al nl ml tl vl gl) (S.safB no (fun j => to (j + ao)) nl (fun j => tl (j + al)) (fun j => vl (j + al)) (fun j => gl (j + al)))) x.1.1 x.1.2.1 x.1.2.2.1 x.1.2.2.2.1 x.2.1.1 x.2.1.2.1 x.2.1.2.2.1 x.2.1.2.2.2.1 x.2.1.2.2.2.2.1 x.2.1.2.2.2.2.2.1, fun _ _ => .dead⟩
theorem s59 (ao no mo : Nat) (to : Nat → Bool) (al nl ml : Nat) (tl : Nat → Int) (vl : Nat → Int) (gl : Nat → Int) (hp : al + nl ≤ ml ∧ nl ≤ 1000000 ∧ ao + no ≤ mo ∧ no ≤ 1000000) : Goes ((q59 ao no mo to al nl ml tl vl gl)) ((p59 ao no mo to al nl ml tl vl gl)) (S.safB no (fun j => to (j + ao)) nl (fun j => tl (j + al)) (fun j => vl (j + al)) (fun j => gl (j + al))) := by
  unfold p59 S.safB
  rw [decide_eq_true hp]
  generalize S.opnB 1 no (fun j => to (j + ao)) nl (fun j => tl (j + al)) (fun j => vl (j + al)) (fun j => gl (j + al)) = A
  generalize S.opnB 2 no (fun j => to (j + ao)) nl (fun j => tl (j + al)) (fun j => vl (j + al)) (fun j => gl (j + al)) = B
  cases A <;> cases B <;> exact goes_inr.mpr rfl
theorem k59_ok : k59.ok Try.prog := by
  intro x hx
  obtain ⟨⟨ao, no, mo, to, _⟩, ⟨al, nl, ml, tl, vl, gl, _⟩, _⟩ := x
  obtain ⟨h1, h2⟩ := a59 ao no mo to al nl ml tl vl gl (s59 ao no mo to al nl ml tl vl gl (of_dec hx rfl))
  exact ⟨⟨400, (by decide : 2 + 1 + 0 ≤ 400), h1⟩, h2⟩
abbrev St57 := Empty
abbrev Rt57 := Bool
noncomputable def V57 (aq nq mq : Nat) (tq : Nat → ByteArray) (vq : Nat → Int) (gq : Nat → Int) (de : Int) (st : Int) (r : Rt57) : PV := PV.bool r
noncomputable def N57 (aq nq mq : Nat) (tq : Nat → ByteArray) (vq : Nat → Int) (gq : Nat → Int) (de : Int) (st : Int) (r : Rt57) : List Blk := []
noncomputable def I57 (aq nq mq : Nat) (tq : Nat → ByteArray) (vq : Nat → Int) (gq : Nat → Int) (de : Int) (st : Int) : St57 → Hd := fun s => s.elim
noncomputable def q57 (aq nq mq : Nat) (tq : Nat → ByteArray) (vq : Nat → Int) (gq : Nat → Int) (de : Int) (st : Int) : St57 → Option (St57 ⊕ Rt57) := fun s => s.elim
noncomputable def p57 (aq nq mq : Nat) (tq : Nat → ByteArray) (vq : Nat → Int) (gq : Nat → Int) (de : Int) (st : Int) : Option (St57 ⊕ Rt57) := bif (lim IntKind.i64 ((↑nq : Int) - (1 : Int)))
 then (bif (decide (st ≥ (0 : Int)))
 then (bif (decide (st ≤ (↑nq : Int) - (1 : Int)))
 then (some (.inr (true)))
 else (some (.inr (false))))
 else (some (.inr (false))))
 else (none)
noncomputable def Te57 (test : Bool → Prop → Prop → Prop) (Kst : KS) (Kret : KR) (aq nq mq : Nat) (tq : Nat → ByteArray) (vq : Nat → Int) (gq : Nat → Int) (de : Int) (st : Int) : Prop :=
  test (lim IntKind.i64 ((↑nq : Int) - (1 : Int)))
 (test (decide (st ≥ (0 : Int)))
 (test (decide (st ≤ (↑nq : Int) - (1 : Int)))
 (Kret (PV.tf true) ([[(0, false,
 Blk.cols mq [Col.str tq, Col.int IntKind.i64 vq, Col.int IntKind.i64 gq])]]) (2))
 (Kret (PV.tf false) ([[(0, false,
 Blk.cols mq [Col.str tq, Col.int IntKind.i64 vq, Col.int IntKind.i64 gq])]]) (2)))
 (Kret (PV.tf false) ([[(0, false,
 Blk.cols mq [Col.str tq, Col.int IntKind.i64 vq, Col.int IntKind.i64 gq])]]) (2)))
 (False)
theorem te57 (test : Bool → Prop → Prop → Prop) (Kst : KS) (Kret : KR) (aq nq mq : Nat) (tq : Nat → ByteArray) (vq : Nat → Int) (gq : Nat → Int) (de : Int) (st : Int) : run test Try.env true noX true 400 ⟨57, [.cd (mkFn Try.f57).body], argT 0 [.agg [.loose ⟨0, 3, aq, 0⟩ nq, .int .i64 de], .int .i64 st], [[], [(0, (false, .cols mq [.str tq, .int .i64 vq, .int .i64 gq]))]], 1⟩ (proj 1 [] Kst Kret) =
  Te57 test Kst Kret aq nq mq tq vq gq de st := by kernel_rfl
theorem be57 (aq nq mq : Nat) (tq : Nat → ByteArray) (vq : Nat → Int) (gq : Nat → Int) (de : Int) (st : Int) (Kst : KS) (Kret : KR) (x : St57 ⊕ Rt57) (hS : HS 1 400 ((I57 aq nq mq tq vq gq de st)) Kst x) (hR : HR 1 400 ((V57 aq nq mq tq vq gq de st)) (fun r => [newL (1 + 1) ((N57 aq nq mq tq vq gq de st) r) ++ [(0, (false, .cols mq [.str tq, .int .i64 vq, .int .i64 gq]))]]) Kret x) (h : (bif (lim IntKind.i64 ((↑nq : Int) - (1 : Int)))
 then (bif (decide (st ≥ (0 : Int)))
 then (bif (decide (st ≤ (↑nq : Int) - (1 : Int)))
 then (some (.inr (true)))
 else (some (.inr (false))))
 else (some (.inr (false))))
 else (none) : Option (St57 ⊕ Rt57)) = some x) : Te57 cond Kst Kret aq nq mq tq vq gq de st := by
  unfold Te57
  exact bif_split h
   (fun c0 h => bif_split h
   (fun c1 h => bif_split h
   (fun c2 h => ret_at hR _ h (fun n => n) rfl rfl rfl (rn_bool_tf rfl) rfl (entl_bor (use_lo rfl) rfl rfl entl_nil))
   (fun c2 h => ret_at hR _ h (fun n => n) rfl rfl rfl (rn_bool_tf rfl) rfl (entl_bor (use_lo rfl) rfl rfl entl_nil)))
   (fun c1 h => ret_at hR _ h (fun n => n) rfl rfl rfl (rn_bool_tf rfl) rfl (entl_bor (use_lo rfl) rfl rfl entl_nil)))
   (fun c0 h => no_some h)
theorem a57 (aq nq mq : Nat) (tq : Nat → ByteArray) (vq : Nat → Int) (gq : Nat → Int) (de : Int) (st : Int) {r : Rt57} (h : Goes ((q57 aq nq mq tq vq gq de st)) ((p57 aq nq mq tq vq gq de st)) r) : CallR Try.prog 57 [.agg [.loose ⟨0, 3, aq, 0⟩ nq, .int .i64 de], .int .i64 st] [[(0, (false, .cols mq [.str tq, .int .i64 vq, .int .i64 gq]))]] 1 ((V57 aq nq mq tq vq gq de st) r) ((fun r => [newL (1 + 1) ((N57 aq nq mq tq vq gq de st) r) ++ [(0, (false, .cols mq [.str tq, .int .i64 vq, .int .i64 gq]))]]) r) 400 ∧ ∃ F, Try.prog.funcs[57]? = some F ∧ F.body.isSome = true ∧ (F.name == "runtime.NumGoroutine") = false := by
  refine dec_calls (f := 57) (lo := 1) (hi := 400) (H := [[(0, (false, .cols mq [.str tq, .int .i64 vq, .int .i64 gq]))]]) (args := [.agg [.loose ⟨0, 3, aq, 0⟩ nq, .int .i64 de], .int .i64 st]) Try.envOk Try.mixed noX_ok ((I57 aq nq mq tq vq gq de st)) ((V57 aq nq mq tq vq gq de st)) (fun r => [newL (1 + 1) ((N57 aq nq mq tq vq gq de st) r) ++ [(0, (false, .cols mq [.str tq, .int .i64 vq, .int .i64 gq]))]]) (fn := mkFn Try.f57) (ts := []) (n := 400) rfl (by decide) (by simp) (names_of rfl) ?_ ?_ ?_ h
  · intro s; exact s.elim
  · intro Kst Kret x hS hR h
    exact Holds.eq (te57 cond Kst Kret aq nq mq tq vq gq de st) (be57 aq nq mq tq vq gq de st Kst Kret x hS hR h)
  · intro Kst Kret x hS hR s h; exact s.elim
noncomputable def k57 : Con := ⟨57, [.agg [.list [.str, .int .i64, .int .i64], .plain (.int .i64)], .one (.plain (.int .i64))], fun (x : ((Nat × Nat × Nat × (Nat → ByteArray) × (Nat → Int) × (Nat → Int) × Unit) × Int × Unit) × Int × Unit) => (fun (aq nq mq : Nat) (tq : Nat → ByteArray) (vq : Nat → Int) (gq : Nat → Int) (de : Int) (st : Int) => decide (nq ≤ 1000000)) x.1.1.1 x.1.1.2.1 x.1.1.2.2.1 x.1.1.2.2.2.1 x.1.1.2.2.2.2.1 x.1.1.2.2.2.2.2.1 x.1.2.1 x.2.1, fun (x : ((Nat × Nat × Nat × (Nat → ByteArray) × (Nat → Int) × (Nat → Int) × Unit) × Int × Unit) × Int × Unit) => (fun (aq nq mq : Nat) (tq : Nat → ByteArray) (vq : Nat → Int) (gq : Nat → Int) (de : Int) (st : Int) => (V57 aq nq mq tq vq gq de st) (decide (0 ≤ st ∧ st < (nq : Int)))) x.1.1.1 x.1.1.2.1 x.1.1.2.2.1 x.1.1.2.2.2.1 x.1.1.2.2.2.2.1 x.1.1.2.2.2.2.2.1 x.1.2.1 x.2.1, fun (x : ((Nat × Nat × Nat × (Nat → ByteArray) × (Nat → Int) × (Nat → Int) × Unit) × Int × Unit) × Int × Unit) => (fun (aq nq mq : Nat) (tq : Nat → ByteArray) (vq : Nat → Int) (gq : Nat → Int) (de : Int) (st : Int) => (N57 aq nq mq tq vq gq de st) (decide (0 ≤ st ∧ st < (nq : Int)))) x.1.1.1 x.1.1.2.1 x.1.1.2.2.1 x.1.1.2.2.2.1 x.1.1.2.2.2.2.1 x.1.1.2.2.2.2.2.1 x.1.2.1 x.2.1, fun _ _ => .dead⟩
theorem s57 (aq nq mq : Nat) (tq : Nat → ByteArray) (vq : Nat → Int) (gq : Nat → Int) (de : Int) (st : Int) (hp : nq ≤ 1000000) : Goes ((q57 aq nq mq tq vq gq de st)) ((p57 aq nq mq tq vq gq de st)) (decide (0 ≤ st ∧ st < (nq : Int))) := by
  show Goes _ _ _
  unfold p57
  repeat' first
    | with_reducible refine goes_if (fun h => ?_) (fun h => ?_) <;> (try simp only [lim64, imp_false, decide_eq_true_eq, decide_eq_false_iff_not, Int.toNat_natCast, toNat_pred, toNat_succ, Option.getD_some, Option.getD_none, Bool.not_eq_true', Bool.not_eq_false', Bool.and_eq_true, Bool.or_eq_true, Bool.and_eq_false_iff, Bool.or_eq_false_iff, bne_iff_ne, beq_iff_eq, bne_eq_false_iff_eq, beq_eq_false_iff_ne, ne_eq, not_and, Int.not_le, Int.not_lt, ge_iff_le, gt_iff_lt, Nat.not_lt, Nat.not_le, Bool.not_eq_true, Bool.not_eq_false, Bool.true_eq_false, Bool.false_eq_true, not_false_eq_true, not_true_eq_false] at h)
    | exact goes_none.mpr (by omega)
  all_goals first | (exfalso; omega) | (refine goes_inr.mpr ?_; first | exact (decide_eq_true (by omega)).symm | exact (decide_eq_false (by omega)).symm)
theorem k57_ok : k57.ok Try.prog := by
  intro x hx
  obtain ⟨⟨⟨aq, nq, mq, tq, vq, gq, _⟩, de, _⟩, st, _⟩ := x
  obtain ⟨h1, h2⟩ := a57 aq nq mq tq vq gq de st (s57 aq nq mq tq vq gq de st (of_dec hx rfl))
  exact ⟨⟨400, (by decide : 1 + 1 + 0 ≤ 400), h1⟩, h2⟩
noncomputable def xZ (test : Bool → Prop → Prop → Prop) : Ext := consX test [k19, k44, k47, k53, k54, k57, k58, k59, k66]
theorem xZ_ok : ExtOk Try.prog (xZ cond) := consX_ok ⟨k19_ok, k44_ok, k47_ok, k53_ok, k54_ok, k57_ok, k58_ok, k59_ok, k66_ok, trivial⟩
namespace S
def faiS (n : Nat) (e : Int) : Int × List (Int × Int × Int) := if e = 0 then (0, failL n) else (e, [])
def latS (n : Nat) (v g : Nat → Int) (de e st k l p : Int) : Int × Int := if e = 0 then (if 0 ≤ st ∧ st < (n : Int) then (if failE n k l p = 0 then (latI n v g de st k l p, 0) else (0, failE n k l p)) else (0, 6)) else (0, e)
def op1 (lp : Int) (n : Nat) (loc : Nat → Bool) (k l p : Int) : Bool := opnB lp n loc 1 (fun _ => k) (fun _ => l) (fun _ => p)
end S
theorem op1_eq {lp : Int} {n : Nat} {loc : Nat → Bool} {k l p : Int} : S.opnB lp n loc 1 (fun j => S.lit [k] 0 j) (fun j => S.lit [l] 0 j) (fun j => S.lit [p] 0 j) = S.op1 lp n loc k l p :=
  opnB_congr (fun j hj => rfl) (fun j hj => by rw [show j = 0 by omega]; exact ⟨rfl, rfl, rfl⟩)
abbrev St14 := Empty
abbrev Rt14 := Int × List (Int × Int × Int)
noncomputable def V14 (aq nq mq : Nat) (tq : Nat → ByteArray) (vq : Nat → Int) (gq : Nat → Int) (de : Int) (r : Rt14) : PV := PV.tup [PV.own (2) (3) (List.length r.2), PV.int IntKind.i64 r.1]
noncomputable def N14 (aq nq mq : Nat) (tq : Nat → ByteArray) (vq : Nat → Int) (gq : Nat → Int) (de : Int) (r : Rt14) : List Blk := [Blk.cols (List.length r.2)
 [Col.int IntKind.i64 fun j => (S.at' r.2 j).1,
 Col.int IntKind.i64 fun j => (S.at' r.2 j).2.1,
 Col.int IntKind.i64 fun j => (S.at' r.2 j).2.2]]
noncomputable def I14 (aq nq mq : Nat) (tq : Nat → ByteArray) (vq : Nat → Int) (gq : Nat → Int) (de : Int) : St14 → Hd := fun s => s.elim
noncomputable def q14 (aq nq mq : Nat) (tq : Nat → ByteArray) (vq : Nat → Int) (gq : Nat → Int) (de : Int) : St14 → Option (St14 ⊕ Rt14) := fun s => s.elim
noncomputable def p14 (aq nq mq : Nat) (tq : Nat → ByteArray) (vq : Nat → Int) (gq : Nat → Int) (de : Int) : Option (St14 ⊕ Rt14) := bif (decide (aq + nq ≤ mq ∧ nq ≤ 1000000))
 then (bif (S.netE nq (fun j => tq (j + aq)) (fun j => vq (j + aq)) (fun j => gq (j + aq)) de !=
 (0 : Int))
 then (some (.inr (S.netE nq (fun j => tq (j + aq)) (fun j => vq (j + aq)) (fun j => gq (j + aq)) de, [])))
 else (bif (decide (nq ≤ 100000))
 then (some (.inr ((0 : Int), S.failL nq)))
 else (none)))
 else (none)
noncomputable def Te14 (test : Bool → Prop → Prop → Prop) (Kst : KS) (Kret : KR) (aq nq mq : Nat) (tq : Nat → ByteArray) (vq : Nat → Int) (gq : Nat → Int) (de : Int) : Prop :=
  test (decide (aq + nq ≤ mq ∧ nq ≤ 1000000))
 (test (S.netE nq (fun j => tq (j + aq)) (fun j => vq (j + aq)) (fun j => gq (j + aq)) de !=
 (0 : Int))
 (Kret (PV.tup
 [PV.nils,
 PV.int IntKind.i64
 (S.netE nq (fun j => tq (j + aq)) (fun j => vq (j + aq)) (fun j => gq (j + aq)) de)]) ([[(0, false,
 Blk.cols mq [Col.str tq, Col.int IntKind.i64 vq, Col.int IntKind.i64 gq])]]) (3))
 (test (decide (nq ≤ 100000))
 (Kret (PV.tup
 [PV.own (4) (3) (List.length (S.failL nq)), PV.int IntKind.i64 (0 : Int)]) ([[(0, false,
 Blk.cols mq [Col.str tq, Col.int IntKind.i64 vq, Col.int IntKind.i64 gq]),
 (4, true,
 Blk.cols (List.length (S.failL nq))
 [Col.int IntKind.i64 fun j => (S.at' (S.failL nq) j).1,
 Col.int IntKind.i64 fun j => (S.at' (S.failL nq) j).2.1,
 Col.int IntKind.i64 fun j => (S.at' (S.failL nq) j).2.2])]]) (5))
 (False)))
 (False)
theorem te14 (test : Bool → Prop → Prop → Prop) (Kst : KS) (Kret : KR) (aq nq mq : Nat) (tq : Nat → ByteArray) (vq : Nat → Int) (gq : Nat → Int) (de : Int) : run test Try.env true (xZ test) true 400 ⟨14, [.cd (mkFn Try.f14).body], argT 0 [.agg [.loose ⟨0, 3, aq, 0⟩ nq, .int .i64 de]], [[], [(0, (false, .cols mq [.str tq, .int .i64 vq, .int .i64 gq]))]], 1⟩ (proj 1 [] Kst Kret) =
  Te14 test Kst Kret aq nq mq tq vq gq de := by kernel_rfl
theorem be14 (aq nq mq : Nat) (tq : Nat → ByteArray) (vq : Nat → Int) (gq : Nat → Int) (de : Int) (Kst : KS) (Kret : KR) (x : St14 ⊕ Rt14) (hS : HS 1 400 ((I14 aq nq mq tq vq gq de)) Kst x) (hR : HR 1 400 ((V14 aq nq mq tq vq gq de)) (fun r => [newL (1 + 1) ((N14 aq nq mq tq vq gq de) r) ++ [(0, (false, .cols mq [.str tq, .int .i64 vq, .int .i64 gq]))]]) Kret x) (h : (bif (decide (aq + nq ≤ mq ∧ nq ≤ 1000000))
 then (bif (S.netE nq (fun j => tq (j + aq)) (fun j => vq (j + aq)) (fun j => gq (j + aq)) de !=
 (0 : Int))
 then (some (.inr (S.netE nq (fun j => tq (j + aq)) (fun j => vq (j + aq)) (fun j => gq (j + aq)) de, [])))
 else (bif (decide (nq ≤ 100000))
 then (some (.inr ((0 : Int), S.failL nq)))
 else (none)))
 else (none) : Option (St14 ⊕ Rt14)) = some x) : Te14 cond Kst Kret aq nq mq tq vq gq de := by
  unfold Te14
  exact bif_split h
   (fun c0 h => bif_split h
   (fun c1 h => ret_at hR _ h (fun n => bif Nat.beq n 2 then 399 else n) rfl rfl rfl (rn_tup ⟨(rn_own_nils rfl), (rn_int rfl), trivial⟩) rfl (entl_fresh (use_own rfl) (fresh_ok rfl) (entl_bor (use_lo rfl) rfl rfl entl_nil)))
   (fun c1 h => bif_split h
   (fun c2 h => ret_at hR _ h (fun n => bif Nat.beq n 2 then 4 else n) rfl rfl rfl (rn_tup ⟨(rn_own (use_own rfl) rfl rfl), (rn_int rfl), trivial⟩) rfl (entl_new (use_own rfl) rfl (Nat.le_of_eq rfl) (rcs_int (fun _ _ => rfl) (rcs_int (fun _ _ => rfl) (rcs_int (fun _ _ => rfl) rcs_nil))) (entl_bor (use_lo rfl) rfl rfl entl_nil)))
   (fun c2 h => no_some h)))
   (fun c0 h => no_some h)
theorem a14 (aq nq mq : Nat) (tq : Nat → ByteArray) (vq : Nat → Int) (gq : Nat → Int) (de : Int) {r : Rt14} (h : Goes ((q14 aq nq mq tq vq gq de)) ((p14 aq nq mq tq vq gq de)) r) : CallR Try.prog 14 [.agg [.loose ⟨0, 3, aq, 0⟩ nq, .int .i64 de]] [[(0, (false, .cols mq [.str tq, .int .i64 vq, .int .i64 gq]))]] 1 ((V14 aq nq mq tq vq gq de) r) ((fun r => [newL (1 + 1) ((N14 aq nq mq tq vq gq de) r) ++ [(0, (false, .cols mq [.str tq, .int .i64 vq, .int .i64 gq]))]]) r) 400 ∧ ∃ F, Try.prog.funcs[14]? = some F ∧ F.body.isSome = true ∧ (F.name == "runtime.NumGoroutine") = false := by
  refine dec_calls (f := 14) (lo := 1) (hi := 400) (H := [[(0, (false, .cols mq [.str tq, .int .i64 vq, .int .i64 gq]))]]) (args := [.agg [.loose ⟨0, 3, aq, 0⟩ nq, .int .i64 de]]) Try.envOk Try.mixed xZ_ok ((I14 aq nq mq tq vq gq de)) ((V14 aq nq mq tq vq gq de)) (fun r => [newL (1 + 1) ((N14 aq nq mq tq vq gq de) r) ++ [(0, (false, .cols mq [.str tq, .int .i64 vq, .int .i64 gq]))]]) (fn := mkFn Try.f14) (ts := []) (n := 400) rfl (by decide) (by simp) (names_of rfl) ?_ ?_ ?_ h
  · intro s; exact s.elim
  · intro Kst Kret x hS hR h
    exact Holds.eq (te14 cond Kst Kret aq nq mq tq vq gq de) (be14 aq nq mq tq vq gq de Kst Kret x hS hR h)
  · intro Kst Kret x hS hR s h; exact s.elim
noncomputable def k14 : Con := ⟨14, [.agg [.list [.str, .int .i64, .int .i64], .plain (.int .i64)]], fun (x : ((Nat × Nat × Nat × (Nat → ByteArray) × (Nat → Int) × (Nat → Int) × Unit) × Int × Unit) × Unit) => (fun (aq nq mq : Nat) (tq : Nat → ByteArray) (vq : Nat → Int) (gq : Nat → Int) (de : Int) => decide (aq + nq ≤ mq ∧ nq ≤ 1000000)) x.1.1.1 x.1.1.2.1 x.1.1.2.2.1 x.1.1.2.2.2.1 x.1.1.2.2.2.2.1 x.1.1.2.2.2.2.2.1 x.1.2.1, fun (x : ((Nat × Nat × Nat × (Nat → ByteArray) × (Nat → Int) × (Nat → Int) × Unit) × Int × Unit) × Unit) => (fun (aq nq mq : Nat) (tq : Nat → ByteArray) (vq : Nat → Int) (gq : Nat → Int) (de : Int) => (V14 aq nq mq tq vq gq de) (S.faiS nq (S.netE nq (fun j => tq (j + aq)) (fun j => vq (j + aq)) (fun j => gq (j + aq)) de))) x.1.1.1 x.1.1.2.1 x.1.1.2.2.1 x.1.1.2.2.2.1 x.1.1.2.2.2.2.1 x.1.1.2.2.2.2.2.1 x.1.2.1, fun (x : ((Nat × Nat × Nat × (Nat → ByteArray) × (Nat → Int) × (Nat → Int) × Unit) × Int × Unit) × Unit) => (fun (aq nq mq : Nat) (tq : Nat → ByteArray) (vq : Nat → Int) (gq : Nat → Int) (de : Int) => (N14 aq nq mq tq vq gq de) (S.faiS nq (S.netE nq (fun j => tq (j + aq)) (fun j => vq (j + aq)) (fun j => gq (j + aq)) de))) x.1.1.1 x.1.1.2.1 x.1.1.2.2.1 x.1.1.2.2.2.1 x.1.1.2.2.2.2.1 x.1.1.2.2.2.2.2.1 x.1.2.1, fun _ _ => .dead⟩
theorem s14 (aq nq mq : Nat) (tq : Nat → ByteArray) (vq : Nat → Int) (gq : Nat → Int) (de : Int) (hp : aq + nq ≤ mq ∧ nq ≤ 1000000) : Goes ((q14 aq nq mq tq vq gq de)) ((p14 aq nq mq tq vq gq de)) (S.faiS nq (S.netE nq (fun j => tq (j + aq)) (fun j => vq (j + aq)) (fun j => gq (j + aq)) de)) := by
  obtain ⟨hp1, hp2⟩ := hp
  have hn : (S.netE nq (fun j => tq (j + aq)) (fun j => vq (j + aq)) (fun j => gq (j + aq)) de) = 0 → nq ≤ 12 := fun h => (net_ok h).1.2
  unfold p14 S.faiS
  generalize (S.netE nq (fun j => tq (j + aq)) (fun j => vq (j + aq)) (fun j => gq (j + aq)) de) = e at *
  show Goes _ _ _
  repeat' first
    | with_reducible refine goes_if (fun h => ?_) (fun h => ?_) <;> (try simp only [lim64, imp_false, decide_eq_true_eq, decide_eq_false_iff_not, Int.toNat_natCast, toNat_pred, toNat_succ, Option.getD_some, Option.getD_none, Bool.not_eq_true', Bool.not_eq_false', Bool.and_eq_true, Bool.or_eq_true, Bool.and_eq_false_iff, Bool.or_eq_false_iff, bne_iff_ne, beq_iff_eq, bne_eq_false_iff_eq, beq_eq_false_iff_ne, ne_eq, not_and, Int.not_le, Int.not_lt, ge_iff_le, gt_iff_lt, Nat.not_lt, Nat.not_le, Bool.not_eq_true, Bool.not_eq_false, Bool.true_eq_false, Bool.false_eq_true, not_false_eq_true, not_true_eq_false] at h)
    | exact goes_none.mpr (by omega)
  all_goals first | (exfalso; omega) | exact goes_inr.mpr rfl | (refine goes_inr.mpr ?_; (repeat' split) <;> first | rfl | (exfalso; omega) | (exfalso; simp_all; done))
theorem k14_ok : k14.ok Try.prog := by
  intro x hx
  obtain ⟨⟨⟨aq, nq, mq, tq, vq, gq, _⟩, de, _⟩, _⟩ := x
  obtain ⟨h1, h2⟩ := a14 aq nq mq tq vq gq de (s14 aq nq mq tq vq gq de (of_dec hx rfl))
  exact ⟨⟨400, (by decide : 1 + 1 + 1 ≤ 400), h1⟩, h2⟩
abbrev St25 := Empty
abbrev Rt25 := Int × Int
noncomputable def V25 (aq nq mq : Nat) (tq : Nat → ByteArray) (vq : Nat → Int) (gq : Nat → Int) (de : Int) (st : Int) (k1 : Int) (k2 : Int) (k3 : Int) (r : Rt25) : PV := PV.tup [PV.int IntKind.i64 r.1, PV.int IntKind.i64 r.2]
noncomputable def N25 (aq nq mq : Nat) (tq : Nat → ByteArray) (vq : Nat → Int) (gq : Nat → Int) (de : Int) (st : Int) (k1 : Int) (k2 : Int) (k3 : Int) (r : Rt25) : List Blk := []
noncomputable def I25 (aq nq mq : Nat) (tq : Nat → ByteArray) (vq : Nat → Int) (gq : Nat → Int) (de : Int) (st : Int) (k1 : Int) (k2 : Int) (k3 : Int) : St25 → Hd := fun s => s.elim
noncomputable def q25 (aq nq mq : Nat) (tq : Nat → ByteArray) (vq : Nat → Int) (gq : Nat → Int) (de : Int) (st : Int) (k1 : Int) (k2 : Int) (k3 : Int) : St25 → Option (St25 ⊕ Rt25) := fun s => s.elim
noncomputable def p25 (aq nq mq : Nat) (tq : Nat → ByteArray) (vq : Nat → Int) (gq : Nat → Int) (de : Int) (st : Int) (k1 : Int) (k2 : Int) (k3 : Int) : Option (St25 ⊕ Rt25) := bif (decide (aq + nq ≤ mq ∧ nq ≤ 1000000))
 then (bif (S.netE nq (fun j => tq (j + aq)) (fun j => vq (j + aq)) (fun j => gq (j + aq)) de !=
 (0 : Int))
 then (some (.inr ((0 : Int), S.netE nq (fun j => tq (j + aq)) (fun j => vq (j + aq)) (fun j => gq (j + aq)) de)))
 else (bif (decide (nq ≤ 1000000))
 then (bif (decide ((0 : Int) ≤ st ∧ st < (↑nq : Int)))
 then (bif (decide (nq ≤ 100000))
 then (bif (S.failE nq k1 k2 k3 != (0 : Int))
 then (some (.inr ((0 : Int), S.failE nq k1 k2 k3)))
 else (bif (decide
 (aq + nq ≤ mq ∧
 S.netE nq (fun j => tq (j + aq)) (fun j => vq (j + aq)) (fun j => gq (j + aq)) de =
 (0 : Int) ∧
 (0 : Int) ≤ st ∧ st < (↑nq : Int)))
 then (some (.inr (S.latI nq (fun j => vq (j + aq)) (fun j => gq (j + aq)) de st k1 k2 k3, (0 : Int))))
 else (none)))
 else (none))
 else (some (.inr ((0 : Int), (6 : Int)))))
 else (none)))
 else (none)
noncomputable def Te25 (test : Bool → Prop → Prop → Prop) (Kst : KS) (Kret : KR) (aq nq mq : Nat) (tq : Nat → ByteArray) (vq : Nat → Int) (gq : Nat → Int) (de : Int) (st : Int) (k1 : Int) (k2 : Int) (k3 : Int) : Prop :=
  test (decide (aq + nq ≤ mq ∧ nq ≤ 1000000))
 (test (S.netE nq (fun j => tq (j + aq)) (fun j => vq (j + aq)) (fun j => gq (j + aq)) de !=
 (0 : Int))
 (Kret (PV.tup
 [PV.int IntKind.i64 (0 : Int),
 PV.int IntKind.i64
 (S.netE nq (fun j => tq (j + aq)) (fun j => vq (j + aq)) (fun j => gq (j + aq)) de)]) ([[(0, false,
 Blk.cols mq [Col.str tq, Col.int IntKind.i64 vq, Col.int IntKind.i64 gq])]]) (4))
 (test (decide (nq ≤ 1000000))
 (test (decide ((0 : Int) ≤ st ∧ st < (↑nq : Int)))
 (test (decide (nq ≤ 100000))
 (test (S.failE nq k1 k2 k3 != (0 : Int))
 (Kret (PV.tup [PV.int IntKind.i64 (0 : Int), PV.int IntKind.i64 (S.failE nq k1 k2 k3)]) ([[(0, false,
 Blk.cols mq [Col.str tq, Col.int IntKind.i64 vq, Col.int IntKind.i64 gq])]]) (6))
 (test (decide
 (aq + nq ≤ mq ∧
 S.netE nq (fun j => tq (j + aq)) (fun j => vq (j + aq)) (fun j => gq (j + aq)) de =
 (0 : Int) ∧
 (0 : Int) ≤ st ∧ st < (↑nq : Int)))
 (Kret (PV.tup
 [PV.int IntKind.i64
 (S.latI nq (fun j => vq (j + aq)) (fun j => gq (j + aq)) de st k1 k2 k3),
 PV.int IntKind.i64 (0 : Int)]) ([[(0, false,
 Blk.cols mq [Col.str tq, Col.int IntKind.i64 vq, Col.int IntKind.i64 gq])]]) (7))
 (False)))
 (False))
 (Kret (PV.tup [PV.int IntKind.i64 (0 : Int), PV.int IntKind.i64 (6 : Int)]) ([[(0, false,
 Blk.cols mq [Col.str tq, Col.int IntKind.i64 vq, Col.int IntKind.i64 gq])]]) (5)))
 (False)))
 (False)
theorem te25 (test : Bool → Prop → Prop → Prop) (Kst : KS) (Kret : KR) (aq nq mq : Nat) (tq : Nat → ByteArray) (vq : Nat → Int) (gq : Nat → Int) (de : Int) (st : Int) (k1 : Int) (k2 : Int) (k3 : Int) : run test Try.env true (xZ test) true 400 ⟨25, [.cd (mkFn Try.f25).body], argT 0 [.agg [.loose ⟨0, 3, aq, 0⟩ nq, .int .i64 de], .int .i64 st, .agg [.int .i64 k1, .int .i64 k2, .int .i64 k3]], [[], [(0, (false, .cols mq [.str tq, .int .i64 vq, .int .i64 gq]))]], 1⟩ (proj 1 [] Kst Kret) =
  Te25 test Kst Kret aq nq mq tq vq gq de st k1 k2 k3 := by kernel_rfl
theorem be25 (aq nq mq : Nat) (tq : Nat → ByteArray) (vq : Nat → Int) (gq : Nat → Int) (de : Int) (st : Int) (k1 : Int) (k2 : Int) (k3 : Int) (Kst : KS) (Kret : KR) (x : St25 ⊕ Rt25) (hS : HS 1 400 ((I25 aq nq mq tq vq gq de st k1 k2 k3)) Kst x) (hR : HR 1 400 ((V25 aq nq mq tq vq gq de st k1 k2 k3)) (fun r => [newL (1 + 1) ((N25 aq nq mq tq vq gq de st k1 k2 k3) r) ++ [(0, (false, .cols mq [.str tq, .int .i64 vq, .int .i64 gq]))]]) Kret x) (h : (bif (decide (aq + nq ≤ mq ∧ nq ≤ 1000000))
 then (bif (S.netE nq (fun j => tq (j + aq)) (fun j => vq (j + aq)) (fun j => gq (j + aq)) de !=
 (0 : Int))
 then (some (.inr ((0 : Int), S.netE nq (fun j => tq (j + aq)) (fun j => vq (j + aq)) (fun j => gq (j + aq)) de)))
 else (bif (decide (nq ≤ 1000000))
 then (bif (decide ((0 : Int) ≤ st ∧ st < (↑nq : Int)))
 then (bif (decide (nq ≤ 100000))
 then (bif (S.failE nq k1 k2 k3 != (0 : Int))
 then (some (.inr ((0 : Int), S.failE nq k1 k2 k3)))
 else (bif (decide
 (aq + nq ≤ mq ∧
 S.netE nq (fun j => tq (j + aq)) (fun j => vq (j + aq)) (fun j => gq (j + aq)) de =
 (0 : Int) ∧
 (0 : Int) ≤ st ∧ st < (↑nq : Int)))
 then (some (.inr (S.latI nq (fun j => vq (j + aq)) (fun j => gq (j + aq)) de st k1 k2 k3, (0 : Int))))
 else (none)))
 else (none))
 else (some (.inr ((0 : Int), (6 : Int)))))
 else (none)))
 else (none) : Option (St25 ⊕ Rt25)) = some x) : Te25 cond Kst Kret aq nq mq tq vq gq de st k1 k2 k3 := by
  unfold Te25
  exact bif_split h
   (fun c0 h => bif_split h
   (fun c1 h => ret_at hR _ h (fun n => n) rfl rfl rfl (rn_tup ⟨(rn_int rfl), (rn_int rfl), trivial⟩) rfl (entl_bor (use_lo rfl) rfl rfl entl_nil))
   (fun c1 h => bif_split h
   (fun c2 h => bif_split h
   (fun c3 h => bif_split h
   (fun c4 h => bif_split h
   (fun c5 h => ret_at hR _ h (fun n => n) rfl rfl rfl (rn_tup ⟨(rn_int rfl), (rn_int rfl), trivial⟩) rfl (entl_bor (use_lo rfl) rfl rfl entl_nil))
   (fun c5 h => bif_split h
   (fun c6 h => ret_at hR _ h (fun n => n) rfl rfl rfl (rn_tup ⟨(rn_int rfl), (rn_int rfl), trivial⟩) rfl (entl_bor (use_lo rfl) rfl rfl entl_nil))
   (fun c6 h => no_some h)))
   (fun c4 h => no_some h))
   (fun c3 h => ret_at hR _ h (fun n => n) rfl rfl rfl (rn_tup ⟨(rn_int rfl), (rn_int rfl), trivial⟩) rfl (entl_bor (use_lo rfl) rfl rfl entl_nil)))
   (fun c2 h => no_some h)))
   (fun c0 h => no_some h)
theorem a25 (aq nq mq : Nat) (tq : Nat → ByteArray) (vq : Nat → Int) (gq : Nat → Int) (de : Int) (st : Int) (k1 : Int) (k2 : Int) (k3 : Int) {r : Rt25} (h : Goes ((q25 aq nq mq tq vq gq de st k1 k2 k3)) ((p25 aq nq mq tq vq gq de st k1 k2 k3)) r) : CallR Try.prog 25 [.agg [.loose ⟨0, 3, aq, 0⟩ nq, .int .i64 de], .int .i64 st, .agg [.int .i64 k1, .int .i64 k2, .int .i64 k3]] [[(0, (false, .cols mq [.str tq, .int .i64 vq, .int .i64 gq]))]] 1 ((V25 aq nq mq tq vq gq de st k1 k2 k3) r) ((fun r => [newL (1 + 1) ((N25 aq nq mq tq vq gq de st k1 k2 k3) r) ++ [(0, (false, .cols mq [.str tq, .int .i64 vq, .int .i64 gq]))]]) r) 400 ∧ ∃ F, Try.prog.funcs[25]? = some F ∧ F.body.isSome = true ∧ (F.name == "runtime.NumGoroutine") = false := by
  refine dec_calls (f := 25) (lo := 1) (hi := 400) (H := [[(0, (false, .cols mq [.str tq, .int .i64 vq, .int .i64 gq]))]]) (args := [.agg [.loose ⟨0, 3, aq, 0⟩ nq, .int .i64 de], .int .i64 st, .agg [.int .i64 k1, .int .i64 k2, .int .i64 k3]]) Try.envOk Try.mixed xZ_ok ((I25 aq nq mq tq vq gq de st k1 k2 k3)) ((V25 aq nq mq tq vq gq de st k1 k2 k3)) (fun r => [newL (1 + 1) ((N25 aq nq mq tq vq gq de st k1 k2 k3) r) ++ [(0, (false, .cols mq [.str tq, .int .i64 vq, .int .i64 gq]))]]) (fn := mkFn Try.f25) (ts := []) (n := 400) rfl (by decide) (by simp) (names_of rfl) ?_ ?_ ?_ h
  · intro s; exact s.elim
  · intro Kst Kret x hS hR h
    exact Holds.eq (te25 cond Kst Kret aq nq mq tq vq gq de st k1 k2 k3) (be25 aq nq mq tq vq gq de st k1 k2 k3 Kst Kret x hS hR h)
  · intro Kst Kret x hS hR s h; exact s.elim
noncomputable def k25 : Con := ⟨25, [.agg [.list [.str, .int .i64, .int .i64], .plain (.int .i64)], .one (.plain (.int .i64)), .agg [.plain (.int .i64), .plain (.int .i64), .plain (.int .i64)]], fun (x : ((Nat × Nat × Nat × (Nat → ByteArray) × (Nat → Int) × (Nat → Int) × Unit) × Int × Unit) × Int × (Int × Int × Int × Unit) × Unit) => (fun (aq nq mq : Nat) (tq : Nat → ByteArray) (vq : Nat → Int) (gq : Nat → Int) (de : Int) (st : Int) (k1 : Int) (k2 : Int) (k3 : Int) => decide (aq + nq ≤ mq ∧ nq ≤ 1000000)) x.1.1.1 x.1.1.2.1 x.1.1.2.2.1 x.1.1.2.2.2.1 x.1.1.2.2.2.2.1 x.1.1.2.2.2.2.2.1 x.1.2.1 x.2.1 x.2.2.1.1 x.2.2.1.2.1 x.2.2.1.2.2.1, fun (x : ((Nat × Nat × Nat × (Nat → ByteArray) × (Nat → Int) × (Nat → Int) × Unit) × Int × Unit) × Int × (Int × Int × Int × Unit) × Unit) => (fun (aq nq mq : Nat) (tq : Nat → ByteArray) (vq : Nat → Int) (gq : Nat → Int) (de : Int) (st : Int) (k1 : Int) (k2 : Int) (k3 : Int) => (V25 aq nq mq tq vq gq de st k1 k2 k3) (S.latS nq (fun j => vq (j + aq)) (fun j => gq (j + aq)) de (S.netE nq (fun j => tq (j + aq)) (fun j => vq (j + aq)) (fun j => gq (j + aq)) de) st k1 k2 k3)) x.1.1.1 x.1.1.2.1 x.1.1.2.2.1 x.1.1.2.2.2.1 x.1.1.2.2.2.2.1 x.1.1.2.2.2.2.2.1 x.1.2.1 x.2.1 x.2.2.1.1 x.2.2.1.2.1 x.2.2.1.2.2.1, fun (x : ((Nat × Nat × Nat × (Nat → ByteArray) × (Nat → Int) × (Nat → Int) × Unit) × Int × Unit) × Int × (Int × Int × Int × Unit) × Unit) => (fun (aq nq mq : Nat) (tq : Nat → ByteArray) (vq : Nat → Int) (gq : Nat → Int) (de : Int) (st : Int) (k1 : Int) (k2 : Int) (k3 : Int) => (N25 aq nq mq tq vq gq de st k1 k2 k3) (S.latS nq (fun j => vq (j + aq)) (fun j => gq (j + aq)) de (S.netE nq (fun j => tq (j + aq)) (fun j => vq (j + aq)) (fun j => gq (j + aq)) de) st k1 k2 k3)) x.1.1.1 x.1.1.2.1 x.1.1.2.2.1 x.1.1.2.2.2.1 x.1.1.2.2.2.2.1 x.1.1.2.2.2.2.2.1 x.1.2.1 x.2.1 x.2.2.1.1 x.2.2.1.2.1 x.2.2.1.2.2.1, fun _ _ => .dead⟩
theorem s25 (aq nq mq : Nat) (tq : Nat → ByteArray) (vq : Nat → Int) (gq : Nat → Int) (de : Int) (st : Int) (k1 : Int) (k2 : Int) (k3 : Int) (hp : aq + nq ≤ mq ∧ nq ≤ 1000000) : Goes ((q25 aq nq mq tq vq gq de st k1 k2 k3)) ((p25 aq nq mq tq vq gq de st k1 k2 k3)) (S.latS nq (fun j => vq (j + aq)) (fun j => gq (j + aq)) de (S.netE nq (fun j => tq (j + aq)) (fun j => vq (j + aq)) (fun j => gq (j + aq)) de) st k1 k2 k3) := by
  obtain ⟨hp1, hp2⟩ := hp
  have hn : (S.netE nq (fun j => tq (j + aq)) (fun j => vq (j + aq)) (fun j => gq (j + aq)) de) = 0 → nq ≤ 12 := fun h => (net_ok h).1.2
  unfold p25 S.latS
  generalize (S.netE nq (fun j => tq (j + aq)) (fun j => vq (j + aq)) (fun j => gq (j + aq)) de) = e at *
  generalize S.latI nq (fun j => vq (j + aq)) (fun j => gq (j + aq)) de st k1 k2 k3 = LA at *
  generalize S.failE nq k1 k2 k3 = fe at *
  show Goes _ _ _
  repeat' first
    | with_reducible refine goes_if (fun h => ?_) (fun h => ?_) <;> (try simp only [lim64, imp_false, decide_eq_true_eq, decide_eq_false_iff_not, Int.toNat_natCast, toNat_pred, toNat_succ, Option.getD_some, Option.getD_none, Bool.not_eq_true', Bool.not_eq_false', Bool.and_eq_true, Bool.or_eq_true, Bool.and_eq_false_iff, Bool.or_eq_false_iff, bne_iff_ne, beq_iff_eq, bne_eq_false_iff_eq, beq_eq_false_iff_ne, ne_eq, not_and, Int.not_le, Int.not_lt, ge_iff_le, gt_iff_lt, Nat.not_lt, Nat.not_le, Bool.not_eq_true, Bool.not_eq_false, Bool.true_eq_false, Bool.false_eq_true, not_false_eq_true, not_true_eq_false] at h)
    | exact goes_none.mpr (by omega)
  all_goals first | (exfalso; omega) | exact goes_inr.mpr rfl | (refine goes_inr.mpr ?_; (repeat' split) <;> first | rfl | (exfalso; omega) | (exfalso; simp_all; done))
theorem k25_ok : k25.ok Try.prog := by
  intro x hx
  obtain ⟨⟨⟨aq, nq, mq, tq, vq, gq, _⟩, de, _⟩, st, ⟨k1, k2, k3, _⟩, _⟩ := x
  obtain ⟨h1, h2⟩ := a25 aq nq mq tq vq gq de st k1 k2 k3 (s25 aq nq mq tq vq gq de st k1 k2 k3 (of_dec hx rfl))
  exact ⟨⟨400, (by decide : 1 + 1 + 0 ≤ 400), h1⟩, h2⟩
namespace S
def stE (n no : Nat) (e : Int) (loc : Nat → Bool) (k l p : Int) (la lb : Bool) : Int := if e = 0 then (if no = n then (if failE n k l p = 0 then (if ((op1 1 n loc k l p && !la) || (op1 2 n loc k l p && !lb)) = true then 1 else 0) else failE n k l p) else 6) else e
end S
noncomputable def xD (test : Bool → Prop → Prop → Prop) : Ext := consX test [k45, k23, k53, k19, k54, k57, k59]
theorem xD_ok : ExtOk Try.prog (xD cond) := consX_ok ⟨k45_ok, k23_ok, k53_ok, k19_ok, k54_ok, k57_ok, k59_ok, trivial⟩
namespace S
def fold {α : Type} (g : α → Nat → α) : Nat → Nat → α → α
  | _, 0, a => a
  | i, c + 1, a => fold g (i + 1) c (g a i)
abbrev A5 := Int × Int × Int × Int × Int
abbrev P6 := Int × Int × Int × Int × Int × Int
def allF (n : Nat) : List (Int × Int × Int) := (0, 0, 0) :: failL n
def worT (lat : Int → Int → Int → Int → Int) (L : List (Int × Int × Int)) (st : Nat) (a : A5) (j : Nat) : A5 := if a.1 < lat st (at' L j).1 (at' L j).2.1 (at' L j).2.2 then (lat st (at' L j).1 (at' L j).2.1 (at' L j).2.2, (st : Int), (at' L j).1, (at' L j).2.1, (at' L j).2.2) else a
def worS (lat : Int → Int → Int → Int → Int) (L : List (Int × Int × Int)) (n : Nat) : A5 := fold (fun a st => fold (worT lat L st) 0 L.length a) 0 n (-1, 0, 0, 0, 0)
def worE (n : Nat) (e : Int) (v g : Nat → Int) (de : Int) : P6 := if e = 0 then (let a := worS (latI n v g de) (allF n) n; (a.1, a.2.1, a.2.2.1, a.2.2.2.1, a.2.2.2.2, 0)) else (0, 0, 0, 0, 0, e)
end S
theorem all_mkl {n : Nat} : (S.mkl (1 + (S.failL n).length) fun j => (bif Nat.blt j 1 then (0 : Int) else (S.at' (S.failL n) (j - 1)).1, bif Nat.blt j 1 then (0 : Int) else (S.at' (S.failL n) (j - 1)).2.1, bif Nat.blt j 1 then (0 : Int) else (S.at' (S.failL n) (j - 1)).2.2)) = S.allF n := by
  refine mkl_eq (by show _ = (S.failL n).length + 1; omega) fun j hj => ?_
  cases j with
  | zero => rfl
  | succ j =>
    have : Nat.blt (j + 1) 1 = false := by cases hb : Nat.blt (j + 1) 1; rfl; exact absurd (lt_ok hb) (by omega)
    simp only [this, cond_false, Nat.add_sub_cancel]
    rfl
inductive St17 where
  | h0 (x0 : Int) (x1 : Int) (x2 : Int) (x3 : Int) (x4 : Int) (x5 : Int)
  | h1 (x0 : Int) (x1 : Int) (x2 : Int) (x3 : Int) (x4 : Int) (x5 : Int) (x6 : Int) (x7 : Int) (x8 : List (Int × Int × Int))
abbrev Rt17 := Int × Int × Int × Int × Int × Int
noncomputable def V17 (aq nq mq : Nat) (tq : Nat → ByteArray) (vq : Nat → Int) (gq : Nat → Int) (de : Int) (r : Rt17) : PV := PV.tup
 [PV.int IntKind.i64 r.1, PV.int IntKind.i64 r.2.1,
 PV.agg [PV.int IntKind.i64 r.2.2.1, PV.int IntKind.i64 r.2.2.2.1, PV.int IntKind.i64 r.2.2.2.2.1],
 PV.int IntKind.i64 r.2.2.2.2.2]
noncomputable def N17 (aq nq mq : Nat) (tq : Nat → ByteArray) (vq : Nat → Int) (gq : Nat → Int) (de : Int) (r : Rt17) : List Blk := []
noncomputable def I17 (aq nq mq : Nat) (tq : Nat → ByteArray) (vq : Nat → Int) (gq : Nat → Int) (de : Int) : St17 → Hd
  | .h0 x0 x1 x2 x3 x4 x5 => ⟨hd Try.f17 0, [PV.ptr (PA.mk (1) (0) (0) (0)),
 PV.ptr (PA.mk (2) (0) (0) (0)), PV.int IntKind.i64 x0,
 PV.int IntKind.i64 x1, PV.ptr (PA.mk (3) (0) (0) (0)),
 PV.unk, PV.int IntKind.i64 (↑nq : Int), PV.int IntKind.i64 x2, PV.unk, PV.unk,
 PV.unk], [[(1, (true, Blk.cells [PV.loose (PA.mk (0) (3) aq (0)) nq, PV.int IntKind.i64 de])), (2, (true, Blk.cells
 [PV.int IntKind.i64 (0 : Int), PV.int IntKind.i64 (0 : Int), PV.int IntKind.i64 (0 : Int)])), (3, (true, Blk.cells [PV.int IntKind.i64 x3, PV.int IntKind.i64 x4, PV.int IntKind.i64 x5]))], [(0, (false, .cols mq [.str tq, .int .i64 vq, .int .i64 gq]))]], 4⟩
  | .h1 x0 x1 x2 x3 x4 x5 x6 x7 x8 => ⟨hd Try.f17 1, [PV.ptr (PA.mk (1) (0) (0) (0)),
 PV.ptr (PA.mk (2) (0) (0) (0)), PV.int IntKind.i64 x0,
 PV.int IntKind.i64 x1, PV.ptr (PA.mk (3) (0) (0) (0)),
 PV.int IntKind.i64 x2, PV.int IntKind.i64 (↑nq : Int), PV.int IntKind.i64 x3,
 PV.own (4) (3) (List.length x8),
 PV.int IntKind.i64 (↑(1 + List.length (S.failL nq)) : Int), PV.int IntKind.i64 x4], [[(1, (true, Blk.cells [PV.loose (PA.mk (0) (3) aq (0)) nq, PV.int IntKind.i64 de])), (2, (true, Blk.cells
 [PV.int IntKind.i64 (0 : Int), PV.int IntKind.i64 (0 : Int), PV.int IntKind.i64 (0 : Int)])), (3, (true, Blk.cells [PV.int IntKind.i64 x5, PV.int IntKind.i64 x6, PV.int IntKind.i64 x7])), (4, (true, Blk.cols (List.length x8)
 [Col.int IntKind.i64 fun j => (S.at' x8 j).1,
 Col.int IntKind.i64 fun j => (S.at' x8 j).2.1,
 Col.int IntKind.i64 fun j => (S.at' x8 j).2.2]))], [(0, (false, .cols mq [.str tq, .int .i64 vq, .int .i64 gq]))]], 5⟩
noncomputable def q17 (aq nq mq : Nat) (tq : Nat → ByteArray) (vq : Nat → Int) (gq : Nat → Int) (de : Int) : St17 → Option (St17 ⊕ Rt17)
  | .h0 x0 x1 x2 x3 x4 x5 => bif (decide (x2 < (↑nq : Int)))
 then (bif (decide (nq ≤ 100000))
 then (bif (decide (1 + List.length (S.failL nq) ≤ 1000000))
 then (bif (decide (0 + List.length (S.failL nq) ≤ List.length (S.failL nq)))
 then (some (.inl (.h1 (x0) (x1) (x2) (x2) ((0 : Int)) (x3) (x4) (x5) (S.mkl (1 + List.length (S.failL nq)) fun j =>
 (bif Nat.blt j (1) then (0 : Int) else (S.at' (S.failL nq) (j - 1)).1,
 bif Nat.blt j (1) then (0 : Int) else (S.at' (S.failL nq) (j - 1)).2.1,
 bif Nat.blt j (1) then (0 : Int) else (S.at' (S.failL nq) (j - 1)).2.2)))))
 else (none))
 else (none))
 else (none))
 else (some (.inr (x0, x1, x3, x4, x5, (0 : Int))))
  | .h1 x0 x1 x2 x3 x4 x5 x6 x7 x8 => bif (decide (x4 < (↑(1 + List.length (S.failL nq)) : Int)))
 then (bif (decide ((0 : Int) ≤ x4 ∧ x4 < (↑(List.length x8) : Int)))
 then (bif (decide (Int.toNat x4 < List.length x8))
 then (bif (decide
 (aq + nq ≤ mq ∧
 S.netE nq (fun j => tq (j + aq)) (fun j => vq (j + aq)) (fun j => gq (j + aq)) de =
 (0 : Int) ∧
 (0 : Int) ≤ x2 ∧ x2 < (↑nq : Int)))
 then (bif (decide
 (S.latI nq (fun j => vq (j + aq)) (fun j => gq (j + aq)) de x2
 ((S.at' x8 (Int.toNat x4)).1) ((S.at' x8 (Int.toNat x4)).2.1)
 ((S.at' x8 (Int.toNat x4)).2.2) >
 x0))
 then (bif (lim IntKind.i64 (x4 + (1 : Int)))
 then (some (.inl (.h1 (S.latI nq (fun j => vq (j + aq)) (fun j => gq (j + aq)) de x2
 ((S.at' x8 (Int.toNat x4)).1) ((S.at' x8 (Int.toNat x4)).2.1)
 ((S.at' x8 (Int.toNat x4)).2.2)) (x2) (x2) (x3) (x4 + (1 : Int)) ((S.at' x8 (Int.toNat x4)).1) ((S.at' x8 (Int.toNat x4)).2.1) ((S.at' x8 (Int.toNat x4)).2.2) (x8))))
 else (none))
 else (bif (lim IntKind.i64 (x4 + (1 : Int)))
 then (some (.inl (.h1 (x0) (x1) (x2) (x3) (x4 + (1 : Int)) (x5) (x6) (x7) (x8))))
 else (none)))
 else (none))
 else (none))
 else (none))
 else (bif (lim IntKind.i64 (x3 + (1 : Int)))
 then (some (.inl (.h0 (x0) (x1) (x3 + (1 : Int)) (x5) (x6) (x7))))
 else (none))
noncomputable def p17 (aq nq mq : Nat) (tq : Nat → ByteArray) (vq : Nat → Int) (gq : Nat → Int) (de : Int) : Option (St17 ⊕ Rt17) := bif (decide (aq + nq ≤ mq ∧ nq ≤ 1000000))
 then (bif (S.netE nq (fun j => tq (j + aq)) (fun j => vq (j + aq)) (fun j => gq (j + aq)) de !=
 (0 : Int))
 then (some (.inr ((0 : Int), (0 : Int), (0 : Int), (0 : Int), (0 : Int), S.netE nq (fun j => tq (j + aq)) (fun j => vq (j + aq)) (fun j => gq (j + aq)) de)))
 else (some (.inl (.h0 ((-1 : Int)) ((0 : Int)) ((0 : Int)) ((0 : Int)) ((0 : Int)) ((0 : Int))))))
 else (none)
noncomputable def Te17 (test : Bool → Prop → Prop → Prop) (Kst : KS) (Kret : KR) (aq nq mq : Nat) (tq : Nat → ByteArray) (vq : Nat → Int) (gq : Nat → Int) (de : Int) : Prop :=
  test (decide (aq + nq ≤ mq ∧ nq ≤ 1000000))
 (test (S.netE nq (fun j => tq (j + aq)) (fun j => vq (j + aq)) (fun j => gq (j + aq)) de !=
 (0 : Int))
 (Kret (PV.tup
 [PV.int IntKind.i64 (0 : Int), PV.int IntKind.i64 (0 : Int),
 PV.agg
 [PV.int IntKind.i64 (0 : Int), PV.int IntKind.i64 (0 : Int),
 PV.int IntKind.i64 (0 : Int)],
 PV.int IntKind.i64
 (S.netE nq (fun j => tq (j + aq)) (fun j => vq (j + aq)) (fun j => gq (j + aq)) de)]) ([[(0, false,
 Blk.cols mq [Col.str tq, Col.int IntKind.i64 vq, Col.int IntKind.i64 gq])]]) (4))
 (Kst (hd Try.f17 0) ([PV.ptr (PA.mk (1) (0) (0) (0)),
 PV.ptr (PA.mk (2) (0) (0) (0)), PV.int IntKind.i64 (-1 : Int),
 PV.int IntKind.i64 (0 : Int), PV.ptr (PA.mk (4) (0) (0) (0)),
 PV.unk, PV.int IntKind.i64 (↑nq : Int), PV.int IntKind.i64 (0 : Int), PV.unk,
 PV.unk, PV.unk]) ([[(0, false,
 Blk.cols mq [Col.str tq, Col.int IntKind.i64 vq, Col.int IntKind.i64 gq]),
 (4, true,
 Blk.cells
 [PV.int IntKind.i64 (0 : Int), PV.int IntKind.i64 (0 : Int),
 PV.int IntKind.i64 (0 : Int)]),
 (2, true,
 Blk.cells
 [PV.int IntKind.i64 (0 : Int), PV.int IntKind.i64 (0 : Int),
 PV.int IntKind.i64 (0 : Int)]),
 (1, true,
 Blk.cells
 [PV.loose (PA.mk (0) (3) aq (0)) nq, PV.int IntKind.i64 de])]]) (5)))
 (False)
theorem te17 (test : Bool → Prop → Prop → Prop) (Kst : KS) (Kret : KR) (aq nq mq : Nat) (tq : Nat → ByteArray) (vq : Nat → Int) (gq : Nat → Int) (de : Int) : run test Try.env true (xZ test) true 400 ⟨17, [.cd (mkFn Try.f17).body], argT 0 [.agg [.loose ⟨0, 3, aq, 0⟩ nq, .int .i64 de]], [[], [(0, (false, .cols mq [.str tq, .int .i64 vq, .int .i64 gq]))]], 1⟩ (proj 1 [1, 4, 7, 8, 9, 10, 23, 24, 31, 32, 33] Kst Kret) =
  Te17 test Kst Kret aq nq mq tq vq gq de := by kernel_rfl
noncomputable def T17_0 (test : Bool → Prop → Prop → Prop) (Kst : KS) (Kret : KR) (aq nq mq : Nat) (tq : Nat → ByteArray) (vq : Nat → Int) (gq : Nat → Int) (de : Int) (x0 : Int) (x1 : Int) (x2 : Int) (x3 : Int) (x4 : Int) (x5 : Int) : Prop :=
  test (decide (x2 < (↑nq : Int)))
 (test (decide (nq ≤ 100000))
 (test (decide (1 + List.length (S.failL nq) ≤ 1000000))
 (test (true)
 (test (decide (0 + List.length (S.failL nq) ≤ List.length (S.failL nq)))
 (Kst (hd Try.f17 1) ([PV.ptr (PA.mk (1) (0) (0) (0)),
 PV.ptr (PA.mk (2) (0) (0) (0)), PV.int IntKind.i64 x0,
 PV.int IntKind.i64 x1, PV.ptr (PA.mk (3) (0) (0) (0)),
 PV.int IntKind.i64 x2, PV.int IntKind.i64 (↑nq : Int), PV.int IntKind.i64 x2,
 PV.own (7) (3) (1 + List.length (S.failL nq)),
 PV.int IntKind.i64 (↑(1 + List.length (S.failL nq)) : Int),
 PV.int IntKind.i64 (0 : Int)]) ([[(0, false,
 Blk.cols mq [Col.str tq, Col.int IntKind.i64 vq, Col.int IntKind.i64 gq]),
 (7, true,
 Blk.cols (1 + List.length (S.failL nq))
 [Col.int IntKind.i64 fun j =>
 bif Nat.blt j (1) then (0 : Int) else (S.at' (S.failL nq) (j - 1)).1,
 Col.int IntKind.i64 fun j =>
 bif Nat.blt j (1) then (0 : Int)
 else (S.at' (S.failL nq) (j - 1)).2.1,
 Col.int IntKind.i64 fun j =>
 bif Nat.blt j (1) then (0 : Int)
 else (S.at' (S.failL nq) (j - 1)).2.2]),
 (3, true,
 Blk.cells [PV.int IntKind.i64 x3, PV.int IntKind.i64 x4, PV.int IntKind.i64 x5]),
 (2, true,
 Blk.cells
 [PV.int IntKind.i64 (0 : Int), PV.int IntKind.i64 (0 : Int),
 PV.int IntKind.i64 (0 : Int)]),
 (1, true,
 Blk.cells
 [PV.loose (PA.mk (0) (3) aq (0)) nq, PV.int IntKind.i64 de])]]) (8))
 (False))
 (False))
 (False))
 (False))
 (Kret (PV.tup
 [PV.int IntKind.i64 x0, PV.int IntKind.i64 x1,
 PV.agg [PV.int IntKind.i64 x3, PV.int IntKind.i64 x4, PV.int IntKind.i64 x5],
 PV.int IntKind.i64 (0 : Int)]) ([[(0, false,
 Blk.cols mq [Col.str tq, Col.int IntKind.i64 vq, Col.int IntKind.i64 gq])]]) (4))
theorem t17_0 (test : Bool → Prop → Prop → Prop) (Kst : KS) (Kret : KR) (aq nq mq : Nat) (tq : Nat → ByteArray) (vq : Nat → Int) (gq : Nat → Int) (de : Int) (x0 : Int) (x1 : Int) (x2 : Int) (x3 : Int) (x4 : Int) (x5 : Int) : run test Try.env true (xZ test) true 400 ⟨17, hd Try.f17 0, zipT [1, 4, 7, 8, 9, 10, 23, 24, 31, 32, 33] [PV.ptr (PA.mk (1) (0) (0) (0)),
 PV.ptr (PA.mk (2) (0) (0) (0)), PV.int IntKind.i64 x0,
 PV.int IntKind.i64 x1, PV.ptr (PA.mk (3) (0) (0) (0)),
 PV.unk, PV.int IntKind.i64 (↑nq : Int), PV.int IntKind.i64 x2, PV.unk, PV.unk,
 PV.unk], [[(1, (true, Blk.cells [PV.loose (PA.mk (0) (3) aq (0)) nq, PV.int IntKind.i64 de])), (2, (true, Blk.cells
 [PV.int IntKind.i64 (0 : Int), PV.int IntKind.i64 (0 : Int), PV.int IntKind.i64 (0 : Int)])), (3, (true, Blk.cells [PV.int IntKind.i64 x3, PV.int IntKind.i64 x4, PV.int IntKind.i64 x5]))], [(0, (false, .cols mq [.str tq, .int .i64 vq, .int .i64 gq]))]], 4⟩ (proj 1 [1, 4, 7, 8, 9, 10, 23, 24, 31, 32, 33] Kst Kret) =
  T17_0 test Kst Kret aq nq mq tq vq gq de x0 x1 x2 x3 x4 x5 := by kernel_rfl
noncomputable def T17_1 (test : Bool → Prop → Prop → Prop) (Kst : KS) (Kret : KR) (aq nq mq : Nat) (tq : Nat → ByteArray) (vq : Nat → Int) (gq : Nat → Int) (de : Int) (x0 : Int) (x1 : Int) (x2 : Int) (x3 : Int) (x4 : Int) (x5 : Int) (x6 : Int) (x7 : Int) (x8 : List (Int × Int × Int)) : Prop :=
  test (decide (x4 < (↑(1 + List.length (S.failL nq)) : Int)))
 (test (decide ((0 : Int) ≤ x4 ∧ x4 < (↑(List.length x8) : Int)))
 (test (decide (Int.toNat x4 < List.length x8))
 (test (decide (Int.toNat x4 < List.length x8))
 (test (decide (Int.toNat x4 < List.length x8))
 (test (decide
 (aq + nq ≤ mq ∧
 S.netE nq (fun j => tq (j + aq)) (fun j => vq (j + aq)) (fun j => gq (j + aq)) de =
 (0 : Int) ∧
 (0 : Int) ≤ x2 ∧ x2 < (↑nq : Int)))
 (test (decide
 (S.latI nq (fun j => vq (j + aq)) (fun j => gq (j + aq)) de x2
 ((S.at' x8 (Int.toNat x4)).1) ((S.at' x8 (Int.toNat x4)).2.1)
 ((S.at' x8 (Int.toNat x4)).2.2) >
 x0))
 (test (lim IntKind.i64 (x4 + (1 : Int)))
 (Kst (hd Try.f17 1) ([PV.ptr (PA.mk (1) (0) (0) (0)),
 PV.ptr (PA.mk (2) (0) (0) (0)),
 PV.int IntKind.i64
 (S.latI nq (fun j => vq (j + aq)) (fun j => gq (j + aq)) de x2
 ((S.at' x8 (Int.toNat x4)).1) ((S.at' x8 (Int.toNat x4)).2.1)
 ((S.at' x8 (Int.toNat x4)).2.2)),
 PV.int IntKind.i64 x2, PV.ptr (PA.mk (3) (0) (0) (0)),
 PV.int IntKind.i64 x2, PV.int IntKind.i64 (↑nq : Int), PV.int IntKind.i64 x3,
 PV.own (4) (3) (List.length x8),
 PV.int IntKind.i64 (↑(1 + List.length (S.failL nq)) : Int),
 PV.int IntKind.i64 (x4 + (1 : Int))]) ([[(0, false,
 Blk.cols mq [Col.str tq, Col.int IntKind.i64 vq, Col.int IntKind.i64 gq]),
 (4, true,
 Blk.cols (List.length x8)
 [Col.int IntKind.i64 fun j => (S.at' x8 j).1,
 Col.int IntKind.i64 fun j => (S.at' x8 j).2.1,
 Col.int IntKind.i64 fun j => (S.at' x8 j).2.2]),
 (3, true,
 Blk.cells
 [PV.int IntKind.i64 ((S.at' x8 (Int.toNat x4)).1),
 PV.int IntKind.i64 ((S.at' x8 (Int.toNat x4)).2.1),
 PV.int IntKind.i64 ((S.at' x8 (Int.toNat x4)).2.2)]),
 (2, true,
 Blk.cells
 [PV.int IntKind.i64 (0 : Int), PV.int IntKind.i64 (0 : Int),
 PV.int IntKind.i64 (0 : Int)]),
 (1, true,
 Blk.cells
 [PV.loose (PA.mk (0) (3) aq (0)) nq, PV.int IntKind.i64 de])]]) (7))
 (False))
 (test (lim IntKind.i64 (x4 + (1 : Int)))
 (Kst (hd Try.f17 1) ([PV.ptr (PA.mk (1) (0) (0) (0)),
 PV.ptr (PA.mk (2) (0) (0) (0)), PV.int IntKind.i64 x0,
 PV.int IntKind.i64 x1, PV.ptr (PA.mk (3) (0) (0) (0)),
 PV.int IntKind.i64 x2, PV.int IntKind.i64 (↑nq : Int), PV.int IntKind.i64 x3,
 PV.own (4) (3) (List.length x8),
 PV.int IntKind.i64 (↑(1 + List.length (S.failL nq)) : Int),
 PV.int IntKind.i64 (x4 + (1 : Int))]) ([[(0, false,
 Blk.cols mq [Col.str tq, Col.int IntKind.i64 vq, Col.int IntKind.i64 gq]),
 (4, true,
 Blk.cols (List.length x8)
 [Col.int IntKind.i64 fun j => (S.at' x8 j).1,
 Col.int IntKind.i64 fun j => (S.at' x8 j).2.1,
 Col.int IntKind.i64 fun j => (S.at' x8 j).2.2]),
 (3, true,
 Blk.cells [PV.int IntKind.i64 x5, PV.int IntKind.i64 x6, PV.int IntKind.i64 x7]),
 (2, true,
 Blk.cells
 [PV.int IntKind.i64 (0 : Int), PV.int IntKind.i64 (0 : Int),
 PV.int IntKind.i64 (0 : Int)]),
 (1, true,
 Blk.cells
 [PV.loose (PA.mk (0) (3) aq (0)) nq, PV.int IntKind.i64 de])]]) (7))
 (False)))
 (False))
 (False))
 (False))
 (False))
 (False))
 (test (lim IntKind.i64 (x3 + (1 : Int)))
 (Kst (hd Try.f17 0) ([PV.ptr (PA.mk (1) (0) (0) (0)),
 PV.ptr (PA.mk (2) (0) (0) (0)), PV.int IntKind.i64 x0,
 PV.int IntKind.i64 x1, PV.ptr (PA.mk (3) (0) (0) (0)),
 PV.int IntKind.i64 x2, PV.int IntKind.i64 (↑nq : Int), PV.int IntKind.i64 (x3 + (1 : Int)),
 PV.own (4) (3) (List.length x8),
 PV.int IntKind.i64 (↑(1 + List.length (S.failL nq)) : Int), PV.int IntKind.i64 x4]) ([[(0, false,
 Blk.cols mq [Col.str tq, Col.int IntKind.i64 vq, Col.int IntKind.i64 gq]),
 (4, true,
 Blk.cols (List.length x8)
 [Col.int IntKind.i64 fun j => (S.at' x8 j).1,
 Col.int IntKind.i64 fun j => (S.at' x8 j).2.1,
 Col.int IntKind.i64 fun j => (S.at' x8 j).2.2]),
 (3, true,
 Blk.cells [PV.int IntKind.i64 x5, PV.int IntKind.i64 x6, PV.int IntKind.i64 x7]),
 (2, true,
 Blk.cells
 [PV.int IntKind.i64 (0 : Int), PV.int IntKind.i64 (0 : Int),
 PV.int IntKind.i64 (0 : Int)]),
 (1, true,
 Blk.cells
 [PV.loose (PA.mk (0) (3) aq (0)) nq, PV.int IntKind.i64 de])]]) (5))
 (False))
theorem t17_1 (test : Bool → Prop → Prop → Prop) (Kst : KS) (Kret : KR) (aq nq mq : Nat) (tq : Nat → ByteArray) (vq : Nat → Int) (gq : Nat → Int) (de : Int) (x0 : Int) (x1 : Int) (x2 : Int) (x3 : Int) (x4 : Int) (x5 : Int) (x6 : Int) (x7 : Int) (x8 : List (Int × Int × Int)) : run test Try.env true (xZ test) true 400 ⟨17, hd Try.f17 1, zipT [1, 4, 7, 8, 9, 10, 23, 24, 31, 32, 33] [PV.ptr (PA.mk (1) (0) (0) (0)),
 PV.ptr (PA.mk (2) (0) (0) (0)), PV.int IntKind.i64 x0,
 PV.int IntKind.i64 x1, PV.ptr (PA.mk (3) (0) (0) (0)),
 PV.int IntKind.i64 x2, PV.int IntKind.i64 (↑nq : Int), PV.int IntKind.i64 x3,
 PV.own (4) (3) (List.length x8),
 PV.int IntKind.i64 (↑(1 + List.length (S.failL nq)) : Int), PV.int IntKind.i64 x4], [[(1, (true, Blk.cells [PV.loose (PA.mk (0) (3) aq (0)) nq, PV.int IntKind.i64 de])), (2, (true, Blk.cells
 [PV.int IntKind.i64 (0 : Int), PV.int IntKind.i64 (0 : Int), PV.int IntKind.i64 (0 : Int)])), (3, (true, Blk.cells [PV.int IntKind.i64 x5, PV.int IntKind.i64 x6, PV.int IntKind.i64 x7])), (4, (true, Blk.cols (List.length x8)
 [Col.int IntKind.i64 fun j => (S.at' x8 j).1,
 Col.int IntKind.i64 fun j => (S.at' x8 j).2.1,
 Col.int IntKind.i64 fun j => (S.at' x8 j).2.2]))], [(0, (false, .cols mq [.str tq, .int .i64 vq, .int .i64 gq]))]], 5⟩ (proj 1 [1, 4, 7, 8, 9, 10, 23, 24, 31, 32, 33] Kst Kret) =
  T17_1 test Kst Kret aq nq mq tq vq gq de x0 x1 x2 x3 x4 x5 x6 x7 x8 := by kernel_rfl
theorem be17 (aq nq mq : Nat) (tq : Nat → ByteArray) (vq : Nat → Int) (gq : Nat → Int) (de : Int) (Kst : KS) (Kret : KR) (x : St17 ⊕ Rt17) (hS : HS 1 400 ((I17 aq nq mq tq vq gq de)) Kst x) (hR : HR 1 400 ((V17 aq nq mq tq vq gq de)) (fun r => [newL (1 + 1) ((N17 aq nq mq tq vq gq de) r) ++ [(0, (false, .cols mq [.str tq, .int .i64 vq, .int .i64 gq]))]]) Kret x) (h : (bif (decide (aq + nq ≤ mq ∧ nq ≤ 1000000))
 then (bif (S.netE nq (fun j => tq (j + aq)) (fun j => vq (j + aq)) (fun j => gq (j + aq)) de !=
 (0 : Int))
 then (some (.inr ((0 : Int), (0 : Int), (0 : Int), (0 : Int), (0 : Int), S.netE nq (fun j => tq (j + aq)) (fun j => vq (j + aq)) (fun j => gq (j + aq)) de)))
 else (some (.inl (.h0 ((-1 : Int)) ((0 : Int)) ((0 : Int)) ((0 : Int)) ((0 : Int)) ((0 : Int))))))
 else (none) : Option (St17 ⊕ Rt17)) = some x) : Te17 cond Kst Kret aq nq mq tq vq gq de := by
  unfold Te17
  exact bif_split h
   (fun c0 h => bif_split h
   (fun c1 h => ret_at hR _ h (fun n => n) rfl rfl rfl (rn_tup ⟨(rn_int rfl), (rn_int rfl), (rn_agg ⟨(rn_int rfl), (rn_int rfl), (rn_int rfl), trivial⟩), (rn_int rfl), trivial⟩) rfl (entl_bor (use_lo rfl) rfl rfl entl_nil))
   (fun c1 h => stop_at hS _ h (fun n => bif Nat.beq n 1 then 1 else bif Nat.beq n 2 then 2 else bif Nat.beq n 3 then 4 else n) rfl rfl rfl ⟨(rn_ptr (use_own rfl) rfl rfl), ⟨(rn_ptr (use_own rfl) rfl rfl), ⟨(rn_int rfl), ⟨(rn_int rfl), ⟨(rn_ptr (use_own rfl) rfl rfl), ⟨(rn_unk _), ⟨(rn_int rfl), ⟨(rn_int rfl), ⟨(rn_unk _), ⟨(rn_unk _), ⟨(rn_unk _), trivial⟩⟩⟩⟩⟩⟩⟩⟩⟩⟩⟩ rfl (entl_b (use_own rfl) rfl (by simp) (rb_cells ⟨(rn_loose (use_lo rfl) rfl rfl rfl), (rn_int rfl), trivial⟩) (entl_b (use_own rfl) rfl (by simp) (rb_cells ⟨(rn_int rfl), (rn_int rfl), (rn_int rfl), trivial⟩) (entl_b (use_own rfl) rfl (by simp) (rb_cells ⟨(rn_int rfl), (rn_int rfl), (rn_int rfl), trivial⟩) (entl_bor (use_lo rfl) rfl rfl entl_nil))))))
   (fun c0 h => no_some h)
theorem b17_0 (aq nq mq : Nat) (tq : Nat → ByteArray) (vq : Nat → Int) (gq : Nat → Int) (de : Int) (Kst : KS) (Kret : KR) (x : St17 ⊕ Rt17) (hS : HS 1 400 ((I17 aq nq mq tq vq gq de)) Kst x) (hR : HR 1 400 ((V17 aq nq mq tq vq gq de)) (fun r => [newL (1 + 1) ((N17 aq nq mq tq vq gq de) r) ++ [(0, (false, .cols mq [.str tq, .int .i64 vq, .int .i64 gq]))]]) Kret x) (x0 : Int) (x1 : Int) (x2 : Int) (x3 : Int) (x4 : Int) (x5 : Int) (h : (bif (decide (x2 < (↑nq : Int)))
 then (bif (decide (nq ≤ 100000))
 then (bif (decide (1 + List.length (S.failL nq) ≤ 1000000))
 then (bif (decide (0 + List.length (S.failL nq) ≤ List.length (S.failL nq)))
 then (some (.inl (.h1 (x0) (x1) (x2) (x2) ((0 : Int)) (x3) (x4) (x5) (S.mkl (1 + List.length (S.failL nq)) fun j =>
 (bif Nat.blt j (1) then (0 : Int) else (S.at' (S.failL nq) (j - 1)).1,
 bif Nat.blt j (1) then (0 : Int) else (S.at' (S.failL nq) (j - 1)).2.1,
 bif Nat.blt j (1) then (0 : Int) else (S.at' (S.failL nq) (j - 1)).2.2)))))
 else (none))
 else (none))
 else (none))
 else (some (.inr (x0, x1, x3, x4, x5, (0 : Int)))) : Option (St17 ⊕ Rt17)) = some x) : T17_0 cond Kst Kret aq nq mq tq vq gq de x0 x1 x2 x3 x4 x5 := by
  unfold T17_0
  exact bif_split h
   (fun c0 h => bif_split h
   (fun c1 h => bif_split h
   (fun c2 h => cond_yes rfl (bif_split h
   (fun c3 h => stop_at hS _ h (fun n => bif Nat.beq n 1 then 1 else bif Nat.beq n 2 then 2 else bif Nat.beq n 3 then 3 else bif Nat.beq n 4 then 7 else n) rfl rfl rfl ⟨(rn_ptr (use_own rfl) rfl rfl), ⟨(rn_ptr (use_own rfl) rfl rfl), ⟨(rn_int rfl), ⟨(rn_int rfl), ⟨(rn_ptr (use_own rfl) rfl rfl), ⟨(rn_int rfl), ⟨(rn_int rfl), ⟨(rn_int rfl), ⟨(rn_own (use_own rfl) rfl mkl_len), ⟨(rn_int rfl), ⟨(rn_int rfl), trivial⟩⟩⟩⟩⟩⟩⟩⟩⟩⟩⟩ rfl (entl_b (use_own rfl) rfl (by simp) (rb_cells ⟨(rn_loose (use_lo rfl) rfl rfl rfl), (rn_int rfl), trivial⟩) (entl_b (use_own rfl) rfl (by simp) (rb_cells ⟨(rn_int rfl), (rn_int rfl), (rn_int rfl), trivial⟩) (entl_b (use_own rfl) rfl (by simp) (rb_cells ⟨(rn_int rfl), (rn_int rfl), (rn_int rfl), trivial⟩) (entl_new (use_own rfl) rfl (Nat.le_of_eq mkl_len) (rcs_int (fun _ hj => col_mkl (fun (t : Int × Int × Int) => t.1) hj) (rcs_int (fun _ hj => col_mkl (fun (t : Int × Int × Int) => t.2.1) hj) (rcs_int (fun _ hj => col_mkl (fun (t : Int × Int × Int) => t.2.2) hj) rcs_nil))) (entl_bor (use_lo rfl) rfl rfl entl_nil))))))
   (fun c3 h => no_some h)))
   (fun c2 h => no_some h))
   (fun c1 h => no_some h))
   (fun c0 h => ret_at hR _ h (fun n => n) rfl rfl rfl (rn_tup ⟨(rn_int rfl), (rn_int rfl), (rn_agg ⟨(rn_int rfl), (rn_int rfl), (rn_int rfl), trivial⟩), (rn_int rfl), trivial⟩) rfl (entl_bor (use_lo rfl) rfl rfl entl_nil))
theorem b17_1 (aq nq mq : Nat) (tq : Nat → ByteArray) (vq : Nat → Int) (gq : Nat → Int) (de : Int) (Kst : KS) (Kret : KR) (x : St17 ⊕ Rt17) (hS : HS 1 400 ((I17 aq nq mq tq vq gq de)) Kst x) (hR : HR 1 400 ((V17 aq nq mq tq vq gq de)) (fun r => [newL (1 + 1) ((N17 aq nq mq tq vq gq de) r) ++ [(0, (false, .cols mq [.str tq, .int .i64 vq, .int .i64 gq]))]]) Kret x) (x0 : Int) (x1 : Int) (x2 : Int) (x3 : Int) (x4 : Int) (x5 : Int) (x6 : Int) (x7 : Int) (x8 : List (Int × Int × Int)) (h : (bif (decide (x4 < (↑(1 + List.length (S.failL nq)) : Int)))
 then (bif (decide ((0 : Int) ≤ x4 ∧ x4 < (↑(List.length x8) : Int)))
 then (bif (decide (Int.toNat x4 < List.length x8))
 then (bif (decide
 (aq + nq ≤ mq ∧
 S.netE nq (fun j => tq (j + aq)) (fun j => vq (j + aq)) (fun j => gq (j + aq)) de =
 (0 : Int) ∧
 (0 : Int) ≤ x2 ∧ x2 < (↑nq : Int)))
 then (bif (decide
 (S.latI nq (fun j => vq (j + aq)) (fun j => gq (j + aq)) de x2
 ((S.at' x8 (Int.toNat x4)).1) ((S.at' x8 (Int.toNat x4)).2.1)
 ((S.at' x8 (Int.toNat x4)).2.2) >
 x0))
 then (bif (lim IntKind.i64 (x4 + (1 : Int)))
 then (some (.inl (.h1 (S.latI nq (fun j => vq (j + aq)) (fun j => gq (j + aq)) de x2
 ((S.at' x8 (Int.toNat x4)).1) ((S.at' x8 (Int.toNat x4)).2.1)
 ((S.at' x8 (Int.toNat x4)).2.2)) (x2) (x2) (x3) (x4 + (1 : Int)) ((S.at' x8 (Int.toNat x4)).1) ((S.at' x8 (Int.toNat x4)).2.1) ((S.at' x8 (Int.toNat x4)).2.2) (x8))))
 else (none))
 else (bif (lim IntKind.i64 (x4 + (1 : Int)))
 then (some (.inl (.h1 (x0) (x1) (x2) (x3) (x4 + (1 : Int)) (x5) (x6) (x7) (x8))))
 else (none)))
 else (none))
 else (none))
 else (none))
 else (bif (lim IntKind.i64 (x3 + (1 : Int)))
 then (some (.inl (.h0 (x0) (x1) (x3 + (1 : Int)) (x5) (x6) (x7))))
 else (none)) : Option (St17 ⊕ Rt17)) = some x) : T17_1 cond Kst Kret aq nq mq tq vq gq de x0 x1 x2 x3 x4 x5 x6 x7 x8 := by
  unfold T17_1
  exact bif_split h
   (fun c0 h => bif_split h
   (fun c1 h => bif_split h
   (fun c2 h => cond_yes c2 (cond_yes c2 (bif_split h
   (fun c3 h => bif_split h
   (fun c4 h => bif_split h
   (fun c5 h => stop_at hS _ h (fun n => bif Nat.beq n 1 then 1 else bif Nat.beq n 2 then 2 else bif Nat.beq n 3 then 3 else bif Nat.beq n 4 then 4 else n) rfl rfl rfl ⟨(rn_ptr (use_own rfl) rfl rfl), ⟨(rn_ptr (use_own rfl) rfl rfl), ⟨(rn_int rfl), ⟨(rn_int rfl), ⟨(rn_ptr (use_own rfl) rfl rfl), ⟨(rn_int rfl), ⟨(rn_int rfl), ⟨(rn_int rfl), ⟨(rn_own (use_own rfl) rfl rfl), ⟨(rn_int rfl), ⟨(rn_int rfl), trivial⟩⟩⟩⟩⟩⟩⟩⟩⟩⟩⟩ rfl (entl_b (use_own rfl) rfl (by simp) (rb_cells ⟨(rn_loose (use_lo rfl) rfl rfl rfl), (rn_int rfl), trivial⟩) (entl_b (use_own rfl) rfl (by simp) (rb_cells ⟨(rn_int rfl), (rn_int rfl), (rn_int rfl), trivial⟩) (entl_b (use_own rfl) rfl (by simp) (rb_cells ⟨(rn_int rfl), (rn_int rfl), (rn_int rfl), trivial⟩) (entl_new (use_own rfl) rfl (Nat.le_of_eq rfl) (rcs_int (fun _ _ => rfl) (rcs_int (fun _ _ => rfl) (rcs_int (fun _ _ => rfl) rcs_nil))) (entl_bor (use_lo rfl) rfl rfl entl_nil))))))
   (fun c5 h => no_some h))
   (fun c4 h => bif_split h
   (fun c5 h => stop_at hS _ h (fun n => bif Nat.beq n 1 then 1 else bif Nat.beq n 2 then 2 else bif Nat.beq n 3 then 3 else bif Nat.beq n 4 then 4 else n) rfl rfl rfl ⟨(rn_ptr (use_own rfl) rfl rfl), ⟨(rn_ptr (use_own rfl) rfl rfl), ⟨(rn_int rfl), ⟨(rn_int rfl), ⟨(rn_ptr (use_own rfl) rfl rfl), ⟨(rn_int rfl), ⟨(rn_int rfl), ⟨(rn_int rfl), ⟨(rn_own (use_own rfl) rfl rfl), ⟨(rn_int rfl), ⟨(rn_int rfl), trivial⟩⟩⟩⟩⟩⟩⟩⟩⟩⟩⟩ rfl (entl_b (use_own rfl) rfl (by simp) (rb_cells ⟨(rn_loose (use_lo rfl) rfl rfl rfl), (rn_int rfl), trivial⟩) (entl_b (use_own rfl) rfl (by simp) (rb_cells ⟨(rn_int rfl), (rn_int rfl), (rn_int rfl), trivial⟩) (entl_b (use_own rfl) rfl (by simp) (rb_cells ⟨(rn_int rfl), (rn_int rfl), (rn_int rfl), trivial⟩) (entl_new (use_own rfl) rfl (Nat.le_of_eq rfl) (rcs_int (fun _ _ => rfl) (rcs_int (fun _ _ => rfl) (rcs_int (fun _ _ => rfl) rcs_nil))) (entl_bor (use_lo rfl) rfl rfl entl_nil))))))
   (fun c5 h => no_some h)))
   (fun c3 h => no_some h))))
   (fun c2 h => no_some h))
   (fun c1 h => no_some h))
   (fun c0 h => bif_split h
   (fun c1 h => stop_at hS _ h (fun n => bif Nat.beq n 1 then 1 else bif Nat.beq n 2 then 2 else bif Nat.beq n 3 then 3 else n) rfl rfl rfl ⟨(rn_ptr (use_own rfl) rfl rfl), ⟨(rn_ptr (use_own rfl) rfl rfl), ⟨(rn_int rfl), ⟨(rn_int rfl), ⟨(rn_ptr (use_own rfl) rfl rfl), ⟨(rn_unk _), ⟨(rn_int rfl), ⟨(rn_int rfl), ⟨(rn_unk _), ⟨(rn_unk _), ⟨(rn_unk _), trivial⟩⟩⟩⟩⟩⟩⟩⟩⟩⟩⟩ rfl (entl_b (use_own rfl) rfl (by simp) (rb_cells ⟨(rn_loose (use_lo rfl) rfl rfl rfl), (rn_int rfl), trivial⟩) (entl_b (use_own rfl) rfl (by simp) (rb_cells ⟨(rn_int rfl), (rn_int rfl), (rn_int rfl), trivial⟩) (entl_b (use_own rfl) rfl (by simp) (rb_cells ⟨(rn_int rfl), (rn_int rfl), (rn_int rfl), trivial⟩) (entl_bor (use_lo rfl) rfl rfl entl_nil)))))
   (fun c1 h => no_some h))
theorem a17 (aq nq mq : Nat) (tq : Nat → ByteArray) (vq : Nat → Int) (gq : Nat → Int) (de : Int) {r : Rt17} (h : Goes ((q17 aq nq mq tq vq gq de)) ((p17 aq nq mq tq vq gq de)) r) : CallR Try.prog 17 [.agg [.loose ⟨0, 3, aq, 0⟩ nq, .int .i64 de]] [[(0, (false, .cols mq [.str tq, .int .i64 vq, .int .i64 gq]))]] 1 ((V17 aq nq mq tq vq gq de) r) ((fun r => [newL (1 + 1) ((N17 aq nq mq tq vq gq de) r) ++ [(0, (false, .cols mq [.str tq, .int .i64 vq, .int .i64 gq]))]]) r) 400 ∧ ∃ F, Try.prog.funcs[17]? = some F ∧ F.body.isSome = true ∧ (F.name == "runtime.NumGoroutine") = false := by
  refine dec_calls (f := 17) (lo := 1) (hi := 400) (H := [[(0, (false, .cols mq [.str tq, .int .i64 vq, .int .i64 gq]))]]) (args := [.agg [.loose ⟨0, 3, aq, 0⟩ nq, .int .i64 de]]) Try.envOk Try.mixed xZ_ok ((I17 aq nq mq tq vq gq de)) ((V17 aq nq mq tq vq gq de)) (fun r => [newL (1 + 1) ((N17 aq nq mq tq vq gq de) r) ++ [(0, (false, .cols mq [.str tq, .int .i64 vq, .int .i64 gq]))]]) (fn := mkFn Try.f17) (ts := [1, 4, 7, 8, 9, 10, 23, 24, 31, 32, 33]) (n := 400) rfl (by decide) (by simp) (names_of rfl) ?_ ?_ ?_ h
  · intro s; cases s <;> exact ⟨hd_ok _ _, by simp [I17], names_of rfl, Nat.le_of_ble_eq_true rfl⟩
  · intro Kst Kret x hS hR h
    exact Holds.eq (te17 cond Kst Kret aq nq mq tq vq gq de) (be17 aq nq mq tq vq gq de Kst Kret x hS hR h)
  · intro Kst Kret x hS hR s h
    cases s with
    | h0 x0 x1 x2 x3 x4 x5 => exact Holds.eq (t17_0 cond Kst Kret aq nq mq tq vq gq de x0 x1 x2 x3 x4 x5) (b17_0 aq nq mq tq vq gq de Kst Kret x hS hR x0 x1 x2 x3 x4 x5 h)
    | h1 x0 x1 x2 x3 x4 x5 x6 x7 x8 => exact Holds.eq (t17_1 cond Kst Kret aq nq mq tq vq gq de x0 x1 x2 x3 x4 x5 x6 x7 x8) (b17_1 aq nq mq tq vq gq de Kst Kret x hS hR x0 x1 x2 x3 x4 x5 x6 x7 x8 h)
noncomputable def k17 : Con := ⟨17, [.agg [.list [.str, .int .i64, .int .i64], .plain (.int .i64)]], fun (x : ((Nat × Nat × Nat × (Nat → ByteArray) × (Nat → Int) × (Nat → Int) × Unit) × Int × Unit) × Unit) => (fun (aq nq mq : Nat) (tq : Nat → ByteArray) (vq : Nat → Int) (gq : Nat → Int) (de : Int) => decide (aq + nq ≤ mq ∧ nq ≤ 1000000)) x.1.1.1 x.1.1.2.1 x.1.1.2.2.1 x.1.1.2.2.2.1 x.1.1.2.2.2.2.1 x.1.1.2.2.2.2.2.1 x.1.2.1, fun (x : ((Nat × Nat × Nat × (Nat → ByteArray) × (Nat → Int) × (Nat → Int) × Unit) × Int × Unit) × Unit) => (fun (aq nq mq : Nat) (tq : Nat → ByteArray) (vq : Nat → Int) (gq : Nat → Int) (de : Int) => (V17 aq nq mq tq vq gq de) (S.worE nq (S.netE nq (fun j => tq (j + aq)) (fun j => vq (j + aq)) (fun j => gq (j + aq)) de) (fun j => vq (j + aq)) (fun j => gq (j + aq)) de)) x.1.1.1 x.1.1.2.1 x.1.1.2.2.1 x.1.1.2.2.2.1 x.1.1.2.2.2.2.1 x.1.1.2.2.2.2.2.1 x.1.2.1, fun (x : ((Nat × Nat × Nat × (Nat → ByteArray) × (Nat → Int) × (Nat → Int) × Unit) × Int × Unit) × Unit) => (fun (aq nq mq : Nat) (tq : Nat → ByteArray) (vq : Nat → Int) (gq : Nat → Int) (de : Int) => (N17 aq nq mq tq vq gq de) (S.worE nq (S.netE nq (fun j => tq (j + aq)) (fun j => vq (j + aq)) (fun j => gq (j + aq)) de) (fun j => vq (j + aq)) (fun j => gq (j + aq)) de)) x.1.1.1 x.1.1.2.1 x.1.1.2.2.1 x.1.1.2.2.2.1 x.1.1.2.2.2.2.1 x.1.1.2.2.2.2.2.1 x.1.2.1, fun _ _ => .dead⟩
theorem s17i (aq nq mq : Nat) (tq : Nat → ByteArray) (vq : Nat → Int) (gq : Nat → Int) (de : Int) (hp : aq + nq ≤ mq ∧ nq ≤ 1000000) (hv : (S.netE nq (fun j => tq (j + aq)) (fun j => vq (j + aq)) (fun j => gq (j + aq)) de) = 0) (i : Nat) (hi : i < nq) (R : Rt17) (L : List (Int × Int × Int)) (hL : Holds (L = S.allF nq)) : ∀ (c j : Nat) (a : S.A5), j + c = L.length → Comes (q17 aq nq mq tq vq gq de) (match S.fold (S.worT (S.latI nq (fun j => vq (j + aq)) (fun j => gq (j + aq)) de) L i) j c a with | (be, at', k, l, p) => .h0 be at' ((i + 1 : Nat) : Int) k l p) R → Comes (q17 aq nq mq tq vq gq de) (match a with | (be, at', k, l, p) => .h1 be at' (i : Int) (i : Int) (j : Int) k l p L) R := by
  obtain ⟨hp1, hp2⟩ := hp
  obtain ⟨v1, v2, v3⟩ := net_ok hv
  have hl : L.length = 5 * nq + 3 := by rw [hL.get]; show (S.failL nq).length + 1 = _; rw [fail_len]
  have hf := fail_len (n := nq)
  intro c
  induction c with
  | zero =>
    rintro j ⟨be, ba, k, l, p⟩ hj hm
    have hm : Comes (q17 aq nq mq tq vq gq de) (.h0 be ba (((i + 1 : Nat)) : Int) k l p) R := hm
    rw [Int.natCast_add, Int.natCast_one] at hm
    apply Comes.of
    show Goes _ _ _
    (first | rw [q17] | unfold q17)
    repeat' first
      | with_reducible refine goes_if (fun h => ?_) (fun h => ?_) <;> (try simp only [lim64, imp_false, decide_eq_true_eq, decide_eq_false_iff_not, Int.toNat_natCast, toNat_pred, toNat_succ, Option.getD_some, Option.getD_none, Bool.not_eq_true', Bool.not_eq_false', Bool.and_eq_true, Bool.or_eq_true, Bool.and_eq_false_iff, Bool.or_eq_false_iff, bne_iff_ne, beq_iff_eq, bne_eq_false_iff_eq, beq_eq_false_iff_ne, ne_eq, not_and, Int.not_le, Int.not_lt, ge_iff_le, gt_iff_lt, Nat.not_lt, Nat.not_le, Bool.not_eq_true, Bool.not_eq_false, Bool.true_eq_false, Bool.false_eq_true, not_false_eq_true, not_true_eq_false] at h)
      | exact goes_none.mpr (by omega)
    all_goals first | (exfalso; omega) | exact hm
  | succ c ih =>
    rintro j ⟨be, ba, k, l, p⟩ hj hm
    have hm : Comes (q17 aq nq mq tq vq gq de) _ R := hm
    have ih := ih (j + 1) (S.worT (S.latI nq (fun j => vq (j + aq)) (fun j => gq (j + aq)) de) L i (be, ba, k, l, p) j) (by omega) hm
    clear hm
    unfold S.worT at ih
    dsimp only at ih
    obtain ⟨xk, xl, xp, hx⟩ : ∃ xk xl xp, S.at' L j = (xk, xl, xp) := ⟨_, _, _, rfl⟩
    rw [hx] at ih
    dsimp only at ih
    by_cases hlt : be < S.latI nq (fun j => vq (j + aq)) (fun j => gq (j + aq)) de (i : Int) xk xl xp
    · rw [if_pos hlt] at ih
      have ih : Comes (q17 aq nq mq tq vq gq de) (.h1 (S.latI nq (fun j => vq (j + aq)) (fun j => gq (j + aq)) de (i : Int) xk xl xp) (i : Int) (i : Int) (i : Int) (((j + 1 : Nat)) : Int) xk xl xp L) R := ih
      apply Comes.of
      show Goes _ _ _
      rw [q17]
      simp only [Int.toNat_natCast, hv, eq_self, true_and]
      simp only [hx]
      generalize S.latI nq (fun j => vq (j + aq)) (fun j => gq (j + aq)) de (i : Int) xk xl xp = la at *
      show Goes _ _ _
      repeat' first
        | with_reducible refine goes_if (fun h => ?_) (fun h => ?_) <;> (try simp only [lim64, imp_false, decide_eq_true_eq, decide_eq_false_iff_not, Int.toNat_natCast, toNat_pred, toNat_succ, Option.getD_some, Option.getD_none, Bool.not_eq_true', Bool.not_eq_false', Bool.and_eq_true, Bool.or_eq_true, Bool.and_eq_false_iff, Bool.or_eq_false_iff, bne_iff_ne, beq_iff_eq, bne_eq_false_iff_eq, beq_eq_false_iff_ne, ne_eq, not_and, Int.not_le, Int.not_lt, ge_iff_le, gt_iff_lt, Nat.not_lt, Nat.not_le, Bool.not_eq_true, Bool.not_eq_false, Bool.true_eq_false, Bool.false_eq_true, not_false_eq_true, not_true_eq_false] at h)
        | exact goes_none.mpr (by omega)
      all_goals first | (exfalso; omega) | exact ih
    · rw [if_neg hlt] at ih
      have ih : Comes (q17 aq nq mq tq vq gq de) (.h1 be ba (i : Int) (i : Int) (((j + 1 : Nat)) : Int) k l p L) R := ih
      apply Comes.of
      show Goes _ _ _
      rw [q17]
      simp only [Int.toNat_natCast, hv, eq_self, true_and]
      simp only [hx]
      generalize S.latI nq (fun j => vq (j + aq)) (fun j => gq (j + aq)) de (i : Int) xk xl xp = la at *
      show Goes _ _ _
      repeat' first
        | with_reducible refine goes_if (fun h => ?_) (fun h => ?_) <;> (try simp only [lim64, imp_false, decide_eq_true_eq, decide_eq_false_iff_not, Int.toNat_natCast, toNat_pred, toNat_succ, Option.getD_some, Option.getD_none, Bool.not_eq_true', Bool.not_eq_false', Bool.and_eq_true, Bool.or_eq_true, Bool.and_eq_false_iff, Bool.or_eq_false_iff, bne_iff_ne, beq_iff_eq, bne_eq_false_iff_eq, beq_eq_false_iff_ne, ne_eq, not_and, Int.not_le, Int.not_lt, ge_iff_le, gt_iff_lt, Nat.not_lt, Nat.not_le, Bool.not_eq_true, Bool.not_eq_false, Bool.true_eq_false, Bool.false_eq_true, not_false_eq_true, not_true_eq_false] at h)
        | exact goes_none.mpr (by omega)
      all_goals first | (exfalso; omega) | exact ih
theorem s17' (aq nq mq : Nat) (tq : Nat → ByteArray) (vq : Nat → Int) (gq : Nat → Int) (de : Int) (hp : aq + nq ≤ mq ∧ nq ≤ 1000000) (hv : (S.netE nq (fun j => tq (j + aq)) (fun j => vq (j + aq)) (fun j => gq (j + aq)) de) = 0) : ∀ (c i : Nat) (a : S.A5), i + c = nq → Comes (q17 aq nq mq tq vq gq de) (match a with | (be, at', k, l, p) => .h0 be at' (i : Int) k l p) (match S.fold (fun a st => S.fold (S.worT (S.latI nq (fun j => vq (j + aq)) (fun j => gq (j + aq)) de) (S.allF nq) st) 0 (S.allF nq).length a) i c a with | (be, at', k, l, p) => (be, at', k, l, p, 0)) := by
  have hf := fail_len (n := nq)
  intro c
  induction c with
  | zero =>
    rintro i ⟨be, ba, k, l, p⟩ hi
    show Comes (q17 aq nq mq tq vq gq de) (.h0 be ba (i : Int) k l p) (be, ba, k, l, p, 0)
    apply Comes.of
    show Goes _ _ _
    (first | rw [q17] | unfold q17)
    repeat' first
      | with_reducible refine goes_if (fun h => ?_) (fun h => ?_) <;> (try simp only [lim64, imp_false, decide_eq_true_eq, decide_eq_false_iff_not, Int.toNat_natCast, toNat_pred, toNat_succ, Option.getD_some, Option.getD_none, Bool.not_eq_true', Bool.not_eq_false', Bool.and_eq_true, Bool.or_eq_true, Bool.and_eq_false_iff, Bool.or_eq_false_iff, bne_iff_ne, beq_iff_eq, bne_eq_false_iff_eq, beq_eq_false_iff_ne, ne_eq, not_and, Int.not_le, Int.not_lt, ge_iff_le, gt_iff_lt, Nat.not_lt, Nat.not_le, Bool.not_eq_true, Bool.not_eq_false, Bool.true_eq_false, Bool.false_eq_true, not_false_eq_true, not_true_eq_false] at h)
      | exact goes_none.mpr (by omega)
    all_goals first | (exfalso; omega) | exact goes_inr.mpr rfl
  | succ c ih =>
    rintro i ⟨be, ba, k, l, p⟩ hi
    have hm := s17i aq nq mq tq vq gq de hp hv i (by omega) _ (S.allF nq) ⟨rfl⟩ (S.allF nq).length 0 (be, ba, k, l, p) (Nat.zero_add _) (ih (i + 1) _ (by omega))
    obtain ⟨v1, v2, v3⟩ := net_ok hv
    obtain ⟨hp1, hp2⟩ := hp
    have hm : Comes (q17 aq nq mq tq vq gq de) (.h1 be ba (i : Int) (i : Int) 0 k l p (S.allF nq)) _ := hm
    show Comes (q17 aq nq mq tq vq gq de) (.h0 be ba (i : Int) k l p) _
    apply Comes.of
    show Goes _ _ _
    (first | rw [q17] | unfold q17)
    try simp only [all_mkl]
    try show Goes _ _ _
    repeat' first
      | with_reducible refine goes_if (fun h => ?_) (fun h => ?_) <;> (try simp only [lim64, imp_false, decide_eq_true_eq, decide_eq_false_iff_not, Int.toNat_natCast, toNat_pred, toNat_succ, Option.getD_some, Option.getD_none, Bool.not_eq_true', Bool.not_eq_false', Bool.and_eq_true, Bool.or_eq_true, Bool.and_eq_false_iff, Bool.or_eq_false_iff, bne_iff_ne, beq_iff_eq, bne_eq_false_iff_eq, beq_eq_false_iff_ne, ne_eq, not_and, Int.not_le, Int.not_lt, ge_iff_le, gt_iff_lt, Nat.not_lt, Nat.not_le, Bool.not_eq_true, Bool.not_eq_false, Bool.true_eq_false, Bool.false_eq_true, not_false_eq_true, not_true_eq_false] at h)
      | exact goes_none.mpr (by omega)
    all_goals first | (exfalso; omega) | exact hm
theorem s17 (aq nq mq : Nat) (tq : Nat → ByteArray) (vq : Nat → Int) (gq : Nat → Int) (de : Int) (hp : aq + nq ≤ mq ∧ nq ≤ 1000000) : Goes ((q17 aq nq mq tq vq gq de)) ((p17 aq nq mq tq vq gq de)) (S.worE nq (S.netE nq (fun j => tq (j + aq)) (fun j => vq (j + aq)) (fun j => gq (j + aq)) de) (fun j => vq (j + aq)) (fun j => gq (j + aq)) de) := by
  unfold S.worE
  by_cases h0 : (S.netE nq (fun j => tq (j + aq)) (fun j => vq (j + aq)) (fun j => gq (j + aq)) de) = 0
  · have hm := s17' aq nq mq tq vq gq de hp h0 nq 0 (-1, 0, 0, 0, 0) (Nat.zero_add _)
    have hm : Comes (q17 aq nq mq tq vq gq de) (.h0 (-1) 0 0 0 0 0) _ := hm
    obtain ⟨hp1, hp2⟩ := hp
    rw [if_pos h0]
    unfold p17
    simp only [h0]
    show Goes _ _ _
    repeat' first
      | with_reducible refine goes_if (fun h => ?_) (fun h => ?_) <;> (try simp only [lim64, imp_false, decide_eq_true_eq, decide_eq_false_iff_not, Int.toNat_natCast, toNat_pred, toNat_succ, Option.getD_some, Option.getD_none, Bool.not_eq_true', Bool.not_eq_false', Bool.and_eq_true, Bool.or_eq_true, Bool.and_eq_false_iff, Bool.or_eq_false_iff, bne_iff_ne, beq_iff_eq, bne_eq_false_iff_eq, beq_eq_false_iff_ne, ne_eq, not_and, Int.not_le, Int.not_lt, ge_iff_le, gt_iff_lt, Nat.not_lt, Nat.not_le, Bool.not_eq_true, Bool.not_eq_false, Bool.true_eq_false, Bool.false_eq_true, not_false_eq_true, not_true_eq_false] at h)
      | exact goes_none.mpr (by omega)
    all_goals first | (exfalso; omega) | exact hm | (exfalso; simp_all; done)
  · obtain ⟨hp1, hp2⟩ := hp
    rw [if_neg h0]
    show Goes _ _ _
    unfold p17
    repeat' first
      | with_reducible refine goes_if (fun h => ?_) (fun h => ?_) <;> (try simp only [lim64, imp_false, decide_eq_true_eq, decide_eq_false_iff_not, Int.toNat_natCast, toNat_pred, toNat_succ, Option.getD_some, Option.getD_none, Bool.not_eq_true', Bool.not_eq_false', Bool.and_eq_true, Bool.or_eq_true, Bool.and_eq_false_iff, Bool.or_eq_false_iff, bne_iff_ne, beq_iff_eq, bne_eq_false_iff_eq, beq_eq_false_iff_ne, ne_eq, not_and, Int.not_le, Int.not_lt, ge_iff_le, gt_iff_lt, Nat.not_lt, Nat.not_le, Bool.not_eq_true, Bool.not_eq_false, Bool.true_eq_false, Bool.false_eq_true, not_false_eq_true, not_true_eq_false] at h)
      | exact goes_none.mpr (by omega)
    all_goals first | (exfalso; omega) | exact goes_inr.mpr rfl | (exfalso; simp_all; done)
theorem k17_ok : k17.ok Try.prog := by
  intro x hx
  obtain ⟨⟨⟨aq, nq, mq, tq, vq, gq, _⟩, de, _⟩, _⟩ := x
  obtain ⟨h1, h2⟩ := a17 aq nq mq tq vq gq de (s17 aq nq mq tq vq gq de (of_dec hx rfl))
  exact ⟨⟨400, (by decide : 1 + 1 + 0 ≤ 400), h1⟩, h2⟩
namespace S
def abc : ByteArray := ByteArray.mk #[97, 98, 99, 100, 101, 102, 103, 104]
def nameI (i : Nat) : ByteArray := subS abc i (i + 1)
def madeL (n : Nat) (t v : Nat → Int) : List (ByteArray × Int × Int) := if n = 0 then [(nameI 0, 1, 1)] else mkl (min n 8) fun i => (nameI i, t i, v i)
def byB (t : Nat → Int) (n : Nat) : Bool := all (fun j => decide (0 ≤ t j ∧ t j ≤ 255)) n
end S
noncomputable def xQ (test : Bool → Prop → Prop → Prop) : Ext := consX test [k66]
theorem xQ_ok : ExtOk Try.prog (xQ cond) := consX_ok ⟨k66_ok, trivial⟩
inductive St38 where
  | h0 (x0 : Int) (x1 : List (Int × Int)) (x2 : List (ByteArray × Int × Int))
  | h1 (x0 : Int) (x1 : List (ByteArray × Int × Int))
abbrev Rt38 := List (ByteArray × Int × Int)
noncomputable def V38 (al nl ml : Nat) (tl : Nat → Int) (vl : Nat → Int) (de : Int) (r : Rt38) : PV := PV.agg [PV.own (2) (3) (List.length r), PV.int IntKind.i64 de]
noncomputable def N38 (al nl ml : Nat) (tl : Nat → Int) (vl : Nat → Int) (de : Int) (r : Rt38) : List Blk := [Blk.cols (List.length r)
 [Col.str fun j => (S.at' r j).1,
 Col.int IntKind.i64 fun j => (S.at' r j).2.1,
 Col.int IntKind.i64 fun j => (S.at' r j).2.2]]
noncomputable def I38 (al nl ml : Nat) (tl : Nat → Int) (vl : Nat → Int) (de : Int) : St38 → Hd
  | .h0 x0 x1 x2 => ⟨hd Try.f38 0, [PV.own (1) (2) (List.length x1),
 PV.ptr (PA.mk (2) (0) (0) (0)),
 PV.ptr (PA.mk (3) (0) (0) (0)), PV.int IntKind.i64 x0], [[(1, (true, Blk.cols (List.length x1)
 [Col.int IntKind.u8 fun j => (S.at' x1 j).1,
 Col.int IntKind.u8 fun j => (S.at' x1 j).2])), (2, (true, Blk.cells [PV.nils, PV.int IntKind.i64 (0 : Int)])), (3, (true, Blk.cells [PV.own (4) (3) (List.length x2), PV.int IntKind.i64 de])), (4, (true, Blk.cols (List.length x2)
 [Col.str fun j => (S.at' x2 j).1,
 Col.int IntKind.i64 fun j => (S.at' x2 j).2.1,
 Col.int IntKind.i64 fun j => (S.at' x2 j).2.2]))], [(0, (false, .cols ml [.int .u8 tl, .int .u8 vl]))]], 5⟩
  | .h1 x0 x1 => ⟨hd Try.f38 0, [PV.loose (PA.mk (0) (2) al (0)) nl,
 PV.ptr (PA.mk (1) (0) (0) (0)),
 PV.ptr (PA.mk (2) (0) (0) (0)), PV.int IntKind.i64 x0], [[(1, (true, Blk.cells [PV.nils, PV.int IntKind.i64 (0 : Int)])), (2, (true, Blk.cells [PV.own (3) (3) (List.length x1), PV.int IntKind.i64 de])), (3, (true, Blk.cols (List.length x1)
 [Col.str fun j => (S.at' x1 j).1,
 Col.int IntKind.i64 fun j => (S.at' x1 j).2.1,
 Col.int IntKind.i64 fun j => (S.at' x1 j).2.2]))], [(0, (false, .cols ml [.int .u8 tl, .int .u8 vl]))]], 4⟩
noncomputable def q38 (al nl ml : Nat) (tl : Nat → Int) (vl : Nat → Int) (de : Int) : St38 → Option (St38 ⊕ Rt38)
  | .h0 x0 x1 x2 => bif (decide (x0 < (↑(List.length x1) : Int)))
 then (bif (decide (x0 < (8 : Int)))
 then (bif (lim IntKind.i64 (x0 + (1 : Int)))
 then (bif (decide ((0 : Int) ≤ x0 ∧ x0 ≤ x0 + (1 : Int) ∧ x0 + (1 : Int) ≤ (8 : Int)))
 then (bif (decide ((0 : Int) ≤ x0 ∧ x0 < (↑(List.length x1) : Int)))
 then (bif (decide (Int.toNat x0 < List.length x1))
 then (bif (lim IntKind.i64 ((S.at' x1 (Int.toNat x0)).1))
 then (bif (lim IntKind.i64 ((S.at' x1 (Int.toNat x0)).2))
 then (bif (decide (List.length x2 + 1 ≤ 1000000))
 then (bif (decide (List.length x2 ≤ List.length x2))
 then (some (.inl (.h0 (x0 + (1 : Int)) (x1) (S.snoc x2
 (S.subS
 (ByteArray.mk
 #[(97 : UInt8), (98 : UInt8), (99 : UInt8), (100 : UInt8), (101 : UInt8), (102 : UInt8), (103 : UInt8),
 (104 : UInt8)])
 (Int.toNat x0) (Int.toNat (x0 + (1 : Int))),
 (S.at' x1 (Int.toNat x0)).1, (S.at' x1 (Int.toNat x0)).2)))))
 else (none))
 else (none))
 else (none))
 else (none))
 else (none))
 else (none))
 else (none))
 else (none))
 else (some (.inr (x2))))
 else (some (.inr (x2)))
  | .h1 x0 x1 => bif (decide (x0 < (↑nl : Int)))
 then (bif (decide (x0 < (8 : Int)))
 then (bif (lim IntKind.i64 (x0 + (1 : Int)))
 then (bif (decide ((0 : Int) ≤ x0 ∧ x0 ≤ x0 + (1 : Int) ∧ x0 + (1 : Int) ≤ (8 : Int)))
 then (bif (decide ((0 : Int) ≤ x0 ∧ x0 < (↑nl : Int)))
 then (bif (decide (Int.toNat x0 + al < ml))
 then (bif (lim IntKind.i64 (tl (Int.toNat x0 + al)))
 then (bif (lim IntKind.i64 (vl (Int.toNat x0 + al)))
 then (bif (decide (List.length x1 + 1 ≤ 1000000))
 then (bif (decide (List.length x1 ≤ List.length x1))
 then (some (.inl (.h1 (x0 + (1 : Int)) (S.snoc x1
 (S.subS
 (ByteArray.mk
 #[(97 : UInt8), (98 : UInt8), (99 : UInt8), (100 : UInt8), (101 : UInt8), (102 : UInt8), (103 : UInt8),
 (104 : UInt8)])
 (Int.toNat x0) (Int.toNat (x0 + (1 : Int))),
 tl (Int.toNat x0 + al), vl (Int.toNat x0 + al))))))
 else (none))
 else (none))
 else (none))
 else (none))
 else (none))
 else (none))
 else (none))
 else (none))
 else (some (.inr (x1))))
 else (some (.inr (x1)))
noncomputable def p38 (al nl ml : Nat) (tl : Nat → Int) (vl : Nat → Int) (de : Int) : Option (St38 ⊕ Rt38) := bif (lim IntKind.i64 de)
 then (bif ((↑nl : Int) == (0 : Int))
 then (some (.inl (.h0 ((0 : Int)) ([((1 : Int), (1 : Int))]) ([]))))
 else (some (.inl (.h1 ((0 : Int)) ([])))))
 else (none)
noncomputable def Te38 (test : Bool → Prop → Prop → Prop) (Kst : KS) (Kret : KR) (al nl ml : Nat) (tl : Nat → Int) (vl : Nat → Int) (de : Int) : Prop :=
  test (lim IntKind.i64 de)
 (test ((↑nl : Int) == (0 : Int))
 (Kst (hd Try.f38 0) ([PV.own (3) (2) (1),
 PV.ptr (PA.mk (1) (0) (0) (0)),
 PV.ptr (PA.mk (2) (0) (0) (0)), PV.int IntKind.i64 (0 : Int)]) ([[(0, false, Blk.cols ml [Col.int IntKind.u8 tl, Col.int IntKind.u8 vl]),
 (2, true, Blk.cells [PV.nils, PV.int IntKind.i64 de]),
 (1, true, Blk.cells [PV.nils, PV.int IntKind.i64 (0 : Int)]),
 (3, true,
 Blk.cells [PV.int IntKind.u8 (1 : Int), PV.int IntKind.u8 (1 : Int)])]]) (4))
 (Kst (hd Try.f38 0) ([PV.loose (PA.mk (0) (2) al (0)) nl,
 PV.ptr (PA.mk (1) (0) (0) (0)),
 PV.ptr (PA.mk (2) (0) (0) (0)), PV.int IntKind.i64 (0 : Int)]) ([[(0, false, Blk.cols ml [Col.int IntKind.u8 tl, Col.int IntKind.u8 vl]),
 (2, true, Blk.cells [PV.nils, PV.int IntKind.i64 de]),
 (1, true, Blk.cells [PV.nils, PV.int IntKind.i64 (0 : Int)])]]) (3)))
 (False)
theorem te38 (test : Bool → Prop → Prop → Prop) (Kst : KS) (Kret : KR) (al nl ml : Nat) (tl : Nat → Int) (vl : Nat → Int) (de : Int) : run test Try.env true noX true 400 ⟨38, [.cd (mkFn Try.f38).body], argT 0 [.loose ⟨0, 2, al, 0⟩ nl, .int .u8 de], [[], [(0, (false, .cols ml [.int .u8 tl, .int .u8 vl]))]], 1⟩ (proj 1 [0, 4, 5, 6] Kst Kret) =
  Te38 test Kst Kret al nl ml tl vl de := by kernel_rfl
noncomputable def T38_0 (test : Bool → Prop → Prop → Prop) (Kst : KS) (Kret : KR) (al nl ml : Nat) (tl : Nat → Int) (vl : Nat → Int) (de : Int) (x0 : Int) (x1 : List (Int × Int)) (x2 : List (ByteArray × Int × Int)) : Prop :=
  test (decide (x0 < (↑(List.length x1) : Int)))
 (test (decide (x0 < (8 : Int)))
 (test (lim IntKind.i64 (x0 + (1 : Int)))
 (test (decide ((0 : Int) ≤ x0 ∧ x0 ≤ x0 + (1 : Int) ∧ x0 + (1 : Int) ≤ (8 : Int)))
 (test (decide ((0 : Int) ≤ x0 ∧ x0 < (↑(List.length x1) : Int)))
 (test (true)
 (test (decide (Int.toNat x0 < List.length x1))
 (test (lim IntKind.i64 ((S.at' x1 (Int.toNat x0)).1))
 (test (decide ((0 : Int) ≤ x0 ∧ x0 < (↑(List.length x1) : Int)))
 (test (true)
 (test (decide (Int.toNat x0 < List.length x1))
 (test (lim IntKind.i64 ((S.at' x1 (Int.toNat x0)).2))
 (test (decide (List.length x2 + 1 ≤ 1000000))
 (test (decide (List.length x2 ≤ List.length x2))
 (test (true)
 (test (lim IntKind.i64 (x0 + (1 : Int)))
 (Kst (hd Try.f38 0) ([PV.own (1) (2) (List.length x1),
 PV.ptr (PA.mk (2) (0) (0) (0)),
 PV.ptr (PA.mk (3) (0) (0) (0)),
 PV.int IntKind.i64 (x0 + (1 : Int))]) ([[(0, false, Blk.cols ml [Col.int IntKind.u8 tl, Col.int IntKind.u8 vl]),
 (3, true,
 Blk.cells
 [PV.own (6) (3) (List.length x2 + 1), PV.int IntKind.i64 de]),
 (2, true, Blk.cells [PV.nils, PV.int IntKind.i64 (0 : Int)]),
 (1, true,
 Blk.cols (List.length x1)
 [Col.int IntKind.u8 fun j => (S.at' x1 j).1,
 Col.int IntKind.u8 fun j => (S.at' x1 j).2]),
 (6, true,
 Blk.cols (List.length x2 + 1)
 [Col.str fun j =>
 bif Nat.blt j (List.length x2) then (S.at' x2 j).1
 else
 S.subS
 (ByteArray.mk
 #[(97 : UInt8), (98 : UInt8), (99 : UInt8), (100 : UInt8), (101 : UInt8), (102 : UInt8),
 (103 : UInt8), (104 : UInt8)])
 (Int.toNat x0) (Int.toNat (x0 + (1 : Int))),
 Col.int IntKind.i64 fun j =>
 bif Nat.blt j (List.length x2) then (S.at' x2 j).2.1
 else (S.at' x1 (Int.toNat x0)).1,
 Col.int IntKind.i64 fun j =>
 bif Nat.blt j (List.length x2) then (S.at' x2 j).2.2
 else (S.at' x1 (Int.toNat x0)).2])]]) (7))
 (False))
 (False))
 (False))
 (False))
 (False))
 (False))
 (False))
 (False))
 (False))
 (False))
 (False))
 (False))
 (False))
 (False))
 (Kret (PV.agg [PV.own (4) (3) (List.length x2), PV.int IntKind.i64 de]) ([[(0, false, Blk.cols ml [Col.int IntKind.u8 tl, Col.int IntKind.u8 vl]),
 (4, true,
 Blk.cols (List.length x2)
 [Col.str fun j => (S.at' x2 j).1,
 Col.int IntKind.i64 fun j => (S.at' x2 j).2.1,
 Col.int IntKind.i64 fun j => (S.at' x2 j).2.2])]]) (5)))
 (Kret (PV.agg [PV.own (4) (3) (List.length x2), PV.int IntKind.i64 de]) ([[(0, false, Blk.cols ml [Col.int IntKind.u8 tl, Col.int IntKind.u8 vl]),
 (4, true,
 Blk.cols (List.length x2)
 [Col.str fun j => (S.at' x2 j).1,
 Col.int IntKind.i64 fun j => (S.at' x2 j).2.1,
 Col.int IntKind.i64 fun j => (S.at' x2 j).2.2])]]) (5))
end Go.Ev
