/-
  The buckets that are filled.
-/
import Derived.Test.YtejcmbcmhfejkaaB2x
namespace Go.Ev
open Go.Proofs
set_option linter.unusedVariables false
set_option linter.unusedSimpArgs false
set_option maxRecDepth 100000

theorem inB_step {t : Nat → Int} {i j x : Nat} (h0 : 0 ≤ t i) (hx : x = (t i).toNat) : (bif j.beq x then true else S.inB t i j) = S.inB t (i + 1) j := by
  have h1 : S.inB t (i + 1) j = (S.inB t i j || decide (t i = (j : Int))) := any_succ
  rw [h1]
  by_cases h7 : j = x
  · have h8 : t i = (j : Int) := by omega
    rw [decide_eq_true h8, Bool.or_true, h7, Nat.beq_refl, cond_true]
  · have h8 : ¬ t i = (j : Int) := by omega
    rw [decide_eq_false h8, Bool.or_false, nbeq_no h7, cond_false]
inductive St46 where
  | h0 (x0 : Int) (x1 : List Bool)
abbrev Rt46 := List Bool
noncomputable def V46 (hr : Int) (al nl ml : Nat) (tl : Nat → Int) (r : Rt46) : PV := PV.own (2) (1) (List.length r)
noncomputable def N46 (hr : Int) (al nl ml : Nat) (tl : Nat → Int) (r : Rt46) : List Blk := [Blk.cols (List.length r) [Col.bool fun (j : Nat) => S.at' r j]]
noncomputable def I46 (hr : Int) (al nl ml : Nat) (tl : Nat → Int) : St46 → Hd
  | .h0 x0 x1 => ⟨hd Try.f46 0, [PV.own (1) (1) (List.length x1),
 PV.loose (PA.mk (0) (1) al (0)) nl, PV.int IntKind.i64 (↑nl : Int),
 PV.int IntKind.i64 x0], [[(1, (true, Blk.cols (List.length x1) [Col.bool fun (j : Nat) => S.at' x1 j]))], [(0, (false, .cols ml [.int .i64 tl]))]], 2⟩
noncomputable def q46 (hr : Int) (al nl ml : Nat) (tl : Nat → Int) : St46 → Option (St46 ⊕ Rt46)
  | .h0 x0 x1 => bif (decide (x0 < (↑nl : Int)))
 then (bif (decide ((0 : Int) ≤ x0 ∧ x0 < (↑nl : Int)))
 then (bif (decide (Int.toNat x0 + al < ml))
 then (bif (decide ((0 : Int) ≤ tl (Int.toNat x0 + al) ∧ tl (Int.toNat x0 + al) < (↑(List.length x1) : Int)))
 then (bif (decide (Int.toNat (tl (Int.toNat x0 + al)) < List.length x1))
 then (bif (lim IntKind.i64 (x0 + (1 : Int)))
 then (some (.inl (.h0 (x0 + (1 : Int)) (S.mkl (List.length x1) fun (j : Nat) =>
 bif Nat.beq j (Int.toNat (tl (Int.toNat x0 + al))) then true else S.at' x1 j))))
 else (none))
 else (none))
 else (none))
 else (none))
 else (none))
 else (some (.inr (x1)))
noncomputable def p46 (hr : Int) (al nl ml : Nat) (tl : Nat → Int) : Option (St46 ⊕ Rt46) := bif (decide ((0 : Int) ≤ hr ∧ hr ≤ hr ∧ hr ≤ (1000000 : Int)))
 then (some (.inl (.h0 ((0 : Int)) (S.mkl (Int.toNat hr) fun (j : Nat) => false))))
 else (none)
noncomputable def Te46 (test : Bool → Prop → Prop → Prop) (Kst : KS) (Kret : KR) (hr : Int) (al nl ml : Nat) (tl : Nat → Int) : Prop :=
  test (decide ((0 : Int) ≤ hr ∧ hr ≤ hr ∧ hr ≤ (1000000 : Int)))
 (Kst (hd Try.f46 0) ([PV.own (2) (1) (Int.toNat hr),
 PV.loose (PA.mk (0) (1) al (0)) nl, PV.int IntKind.i64 (↑nl : Int),
 PV.int IntKind.i64 (0 : Int)]) ([[(0, false, Blk.cols ml [Col.int IntKind.i64 tl]),
 (2, true, Blk.cols (Int.toNat hr) [Col.bool fun (x : Nat) => false])]]) (3))
 (False)
set_option maxRecDepth 100000 in
theorem te46 (test : Bool → Prop → Prop → Prop) (Kst : KS) (Kret : KR) (hr : Int) (al nl ml : Nat) (tl : Nat → Int) : run test Try.env true (xV test) true 400 ⟨46, [.cd (mkFn Try.f46).body], argT 0 [.agg [.int .i64 hr, .loose ⟨0, 1, al, 0⟩ nl]], [[], [(0, (false, .cols ml [.int .i64 tl]))]], 1⟩ (proj 1 [3, 10, 11, 12] Kst Kret) =
  Te46 test Kst Kret hr al nl ml tl := by kernel_rfl
noncomputable def T46_0 (test : Bool → Prop → Prop → Prop) (Kst : KS) (Kret : KR) (hr : Int) (al nl ml : Nat) (tl : Nat → Int) (x0 : Int) (x1 : List Bool) : Prop :=
  test (decide (x0 < (↑nl : Int)))
 (test (decide ((0 : Int) ≤ x0 ∧ x0 < (↑nl : Int)))
 (test (decide (Int.toNat x0 + al < ml))
 (test (decide ((0 : Int) ≤ tl (Int.toNat x0 + al) ∧ tl (Int.toNat x0 + al) < (↑(List.length x1) : Int)))
 (test (decide (Int.toNat (tl (Int.toNat x0 + al)) < List.length x1))
 (test (lim IntKind.i64 (x0 + (1 : Int)))
 (Kst (hd Try.f46 0) ([PV.own (1) (1) (List.length x1),
 PV.loose (PA.mk (0) (1) al (0)) nl, PV.int IntKind.i64 (↑nl : Int),
 PV.int IntKind.i64 (x0 + (1 : Int))]) ([[(0, false, Blk.cols ml [Col.int IntKind.i64 tl]),
 (1, true,
 Blk.cols (List.length x1)
 [Col.bool fun (j : Nat) =>
 bif Nat.beq j (Int.toNat (tl (Int.toNat x0 + al))) then true else S.at' x1 j])]]) (2))
 (False))
 (False))
 (False))
 (False))
 (False))
 (Kret (PV.own (1) (1) (List.length x1)) ([[(0, false, Blk.cols ml [Col.int IntKind.i64 tl]),
 (1, true, Blk.cols (List.length x1) [Col.bool fun (j : Nat) => S.at' x1 j])]]) (2))
set_option maxRecDepth 100000 in
theorem t46_0 (test : Bool → Prop → Prop → Prop) (Kst : KS) (Kret : KR) (hr : Int) (al nl ml : Nat) (tl : Nat → Int) (x0 : Int) (x1 : List Bool) : run test Try.env true (xV test) true 400 ⟨46, hd Try.f46 0, zipT [3, 10, 11, 12] [PV.own (1) (1) (List.length x1),
 PV.loose (PA.mk (0) (1) al (0)) nl, PV.int IntKind.i64 (↑nl : Int),
 PV.int IntKind.i64 x0], [[(1, (true, Blk.cols (List.length x1) [Col.bool fun (j : Nat) => S.at' x1 j]))], [(0, (false, .cols ml [.int .i64 tl]))]], 2⟩ (proj 1 [3, 10, 11, 12] Kst Kret) =
  T46_0 test Kst Kret hr al nl ml tl x0 x1 := by kernel_rfl
attribute [local irreducible] Int.subNatNat in
set_option maxRecDepth 100000 in
theorem be46 (hr : Int) (al nl ml : Nat) (tl : Nat → Int) (Kst : KS) (Kret : KR) (x : St46 ⊕ Rt46) (hS : HS 1 400 ((I46 hr al nl ml tl)) Kst x) (hR : HR 1 400 ((V46 hr al nl ml tl)) (fun r => [newL (1 + 1) ((N46 hr al nl ml tl) r) ++ [(0, (false, .cols ml [.int .i64 tl]))]]) Kret x) (h : (bif (decide ((0 : Int) ≤ hr ∧ hr ≤ hr ∧ hr ≤ (1000000 : Int)))
 then (some (.inl (.h0 ((0 : Int)) (S.mkl (Int.toNat hr) fun (j : Nat) => false))))
 else (none) : Option (St46 ⊕ Rt46)) = some x) : Te46 cond Kst Kret hr al nl ml tl := by
  unfold Te46
  exact bif_split h
   (fun c0 h => stop_at hS _ h (fun n => bif Nat.beq n 1 then 2 else n) rfl rfl rfl ⟨(rn_own (use_own rfl) rfl mkl_len), ⟨(rn_loose (use_lo rfl) rfl rfl rfl), ⟨(rn_int rfl), ⟨(rn_int rfl), trivial⟩⟩⟩⟩ rfl (entl_new (use_own rfl) rfl (Nat.le_of_eq mkl_len) (rcs_bool (fun _ hj => col_mkl (fun (t : Bool) => t) hj) rcs_nil) (entl_bor (use_lo rfl) rfl rfl entl_nil)))
   (fun c0 h => no_some h)
attribute [local irreducible] Int.subNatNat in
set_option maxRecDepth 100000 in
theorem b46_0 (hr : Int) (al nl ml : Nat) (tl : Nat → Int) (Kst : KS) (Kret : KR) (x : St46 ⊕ Rt46) (hS : HS 1 400 ((I46 hr al nl ml tl)) Kst x) (hR : HR 1 400 ((V46 hr al nl ml tl)) (fun r => [newL (1 + 1) ((N46 hr al nl ml tl) r) ++ [(0, (false, .cols ml [.int .i64 tl]))]]) Kret x) (x0 : Int) (x1 : List Bool) (h : (bif (decide (x0 < (↑nl : Int)))
 then (bif (decide ((0 : Int) ≤ x0 ∧ x0 < (↑nl : Int)))
 then (bif (decide (Int.toNat x0 + al < ml))
 then (bif (decide ((0 : Int) ≤ tl (Int.toNat x0 + al) ∧ tl (Int.toNat x0 + al) < (↑(List.length x1) : Int)))
 then (bif (decide (Int.toNat (tl (Int.toNat x0 + al)) < List.length x1))
 then (bif (lim IntKind.i64 (x0 + (1 : Int)))
 then (some (.inl (.h0 (x0 + (1 : Int)) (S.mkl (List.length x1) fun (j : Nat) =>
 bif Nat.beq j (Int.toNat (tl (Int.toNat x0 + al))) then true else S.at' x1 j))))
 else (none))
 else (none))
 else (none))
 else (none))
 else (none))
 else (some (.inr (x1))) : Option (St46 ⊕ Rt46)) = some x) : T46_0 cond Kst Kret hr al nl ml tl x0 x1 := by
  unfold T46_0
  exact bif_split h
   (fun c0 h => bif_split h
   (fun c1 h => bif_split h
   (fun c2 h => bif_split h
   (fun c3 h => bif_split h
   (fun c4 h => bif_split h
   (fun c5 h => stop_at hS _ h (fun n => bif Nat.beq n 1 then 1 else n) rfl rfl rfl ⟨(rn_own (use_own rfl) rfl mkl_len), ⟨(rn_loose (use_lo rfl) rfl rfl rfl), ⟨(rn_int rfl), ⟨(rn_int rfl), trivial⟩⟩⟩⟩ rfl (entl_new (use_own rfl) rfl (Nat.le_of_eq mkl_len) (rcs_bool (fun _ hj => col_mkl (fun (t : Bool) => t) hj) rcs_nil) (entl_bor (use_lo rfl) rfl rfl entl_nil)))
   (fun c5 h => no_some h))
   (fun c4 h => no_some h))
   (fun c3 h => no_some h))
   (fun c2 h => no_some h))
   (fun c1 h => no_some h))
   (fun c0 h => ret_at hR _ h (fun n => bif Nat.beq n 2 then 1 else n) rfl rfl rfl (rn_own (use_own rfl) rfl rfl) rfl (entl_new (use_own rfl) rfl (Nat.le_of_eq rfl) (rcs_bool (fun _ _ => rfl) rcs_nil) (entl_bor (use_lo rfl) rfl rfl entl_nil)))
theorem a46 (hr : Int) (al nl ml : Nat) (tl : Nat → Int) {r : Rt46} (h : Goes ((q46 hr al nl ml tl)) ((p46 hr al nl ml tl)) r) : CallR Try.prog 46 [.agg [.int .i64 hr, .loose ⟨0, 1, al, 0⟩ nl]] [[(0, (false, .cols ml [.int .i64 tl]))]] 1 ((V46 hr al nl ml tl) r) ((fun r => [newL (1 + 1) ((N46 hr al nl ml tl) r) ++ [(0, (false, .cols ml [.int .i64 tl]))]]) r) 400 ∧ ∃ F, Try.prog.funcs[46]? = some F ∧ F.body.isSome = true ∧ (F.name == "runtime.NumGoroutine") = false := by
  refine dec_calls (f := 46) (lo := 1) (hi := 400) (H := [[(0, (false, .cols ml [.int .i64 tl]))]]) (args := [.agg [.int .i64 hr, .loose ⟨0, 1, al, 0⟩ nl]]) Try.envOk Try.mixed xV_ok ((I46 hr al nl ml tl)) ((V46 hr al nl ml tl)) (fun r => [newL (1 + 1) ((N46 hr al nl ml tl) r) ++ [(0, (false, .cols ml [.int .i64 tl]))]]) (fn := mkFn Try.f46) (ts := [3, 10, 11, 12]) (n := 400) rfl (by decide) (by simp) (names_of rfl) ?_ ?_ ?_ h
  · intro s; cases s <;> exact ⟨hd_ok _ _, by simp [I46], names_of rfl, Nat.le_of_ble_eq_true rfl⟩
  · intro Kst Kret x hS hR h
    exact Holds.eq (te46 cond Kst Kret hr al nl ml tl) (be46 hr al nl ml tl Kst Kret x hS hR h)
  · intro Kst Kret x hS hR s h
    cases s with
    | h0 x0 x1 => exact Holds.eq (t46_0 cond Kst Kret hr al nl ml tl x0 x1) (b46_0 hr al nl ml tl Kst Kret x hS hR x0 x1 h)
noncomputable def k46 : Con := ⟨46, [.agg [.plain (.int .i64), .list [.int .i64]]], fun (x : (Int × (Nat × Nat × Nat × (Nat → Int) × Unit) × Unit) × Unit) => (fun (hr : Int) (al nl ml : Nat) (tl : Nat → Int) => decide (al + nl ≤ ml ∧ nl ≤ 1000000 ∧ S.filE hr nl (fun j => tl (j + al)) = 0)) x.1.1 x.1.2.1.1 x.1.2.1.2.1 x.1.2.1.2.2.1 x.1.2.1.2.2.2.1, fun (x : (Int × (Nat × Nat × Nat × (Nat → Int) × Unit) × Unit) × Unit) => (fun (hr : Int) (al nl ml : Nat) (tl : Nat → Int) => (V46 hr al nl ml tl) (S.mkl hr.toNat fun j => S.inB (fun j => tl (j + al)) nl j)) x.1.1 x.1.2.1.1 x.1.2.1.2.1 x.1.2.1.2.2.1 x.1.2.1.2.2.2.1, fun (x : (Int × (Nat × Nat × Nat × (Nat → Int) × Unit) × Unit) × Unit) => (fun (hr : Int) (al nl ml : Nat) (tl : Nat → Int) => (N46 hr al nl ml tl) (S.mkl hr.toNat fun j => S.inB (fun j => tl (j + al)) nl j)) x.1.1 x.1.2.1.1 x.1.2.1.2.1 x.1.2.1.2.2.1 x.1.2.1.2.2.2.1, fun _ _ => .dead⟩
theorem s46' (hr : Int) (al nl ml : Nat) (tl : Nat → Int) (hp : al + nl ≤ ml ∧ nl ≤ 1000000 ∧ S.filE hr nl (fun j => tl (j + al)) = 0) : ∀ (k i : Nat) (L : List Bool), i + k = nl → Holds (L = S.mkl hr.toNat fun j => S.inB (fun j => tl (j + al)) i j) → Comes (q46 hr al nl ml tl) (.h0 (i : Int) L) (S.mkl hr.toNat fun j => S.inB (fun j => tl (j + al)) nl j) := by
  obtain ⟨hp1, hp2, hp3⟩ := hp
  obtain ⟨v1, v2, v3, v4⟩ := fil_ok hp3
  intro k
  induction k with
  | zero =>
    intro i L hi eL
    have hL : L.length = hr.toNat := by rw [eL.get]; exact mkl_len
    apply Comes.of
    show Goes _ _ _
    (first | rw [q46] | unfold q46)
    repeat' first
      | with_reducible refine goes_if (fun h => ?_) (fun h => ?_) <;> (try simp only [lim64, imp_false, decide_eq_true_eq, decide_eq_false_iff_not, Int.toNat_natCast, toNat_pred, toNat_succ, Option.getD_some, Option.getD_none, Bool.not_eq_true', Bool.not_eq_false', Bool.and_eq_true, Bool.or_eq_true, Bool.and_eq_false_iff, Bool.or_eq_false_iff, bne_iff_ne, beq_iff_eq, bne_eq_false_iff_eq, beq_eq_false_iff_ne, ne_eq, not_and, Int.not_le, Int.not_lt, ge_iff_le, gt_iff_lt, Nat.not_lt, Nat.not_le, Bool.not_eq_true, Bool.not_eq_false, Bool.true_eq_false, Bool.false_eq_true, not_false_eq_true, not_true_eq_false] at h)
      | exact goes_none.mpr (by omega)
    all_goals first | (exfalso; omega) | (obtain rfl : nl = i := (by omega);  exact goes_inr.mpr eL.get)
  | succ k ih =>
    intro i L hi eL
    have hL : L.length = hr.toNat := by rw [eL.get]; exact mkl_len
    have b1 := v3 i (by omega)
    apply Comes.of
    show Goes _ _ _
    (first | rw [q46] | unfold q46)
    repeat' first
      | with_reducible refine goes_if (fun h => ?_) (fun h => ?_) <;> (try simp only [lim64, imp_false, decide_eq_true_eq, decide_eq_false_iff_not, Int.toNat_natCast, toNat_pred, toNat_succ, Option.getD_some, Option.getD_none, Bool.not_eq_true', Bool.not_eq_false', Bool.and_eq_true, Bool.or_eq_true, Bool.and_eq_false_iff, Bool.or_eq_false_iff, bne_iff_ne, beq_iff_eq, bne_eq_false_iff_eq, beq_eq_false_iff_ne, ne_eq, not_and, Int.not_le, Int.not_lt, ge_iff_le, gt_iff_lt, Nat.not_lt, Nat.not_le, Bool.not_eq_true, Bool.not_eq_false, Bool.true_eq_false, Bool.false_eq_true, not_false_eq_true, not_true_eq_false] at h)
      | exact goes_none.mpr (by omega)
    all_goals first
      | (exfalso; omega)
      | (refine ih (i + 1) _ (by omega) ⟨?_⟩; rw [hL, eL.get]; refine mkl_congr fun j hj => ?_; rw [at_mkl hj]; exact inB_step (x := (tl (i + al)).toNat) b1.1 rfl)
      | (refine ih (i + 1) _ (by omega) ⟨?_⟩ <;> (skip))
theorem s46 (hr : Int) (al nl ml : Nat) (tl : Nat → Int) (hp : al + nl ≤ ml ∧ nl ≤ 1000000 ∧ S.filE hr nl (fun j => tl (j + al)) = 0) : Goes ((q46 hr al nl ml tl)) ((p46 hr al nl ml tl)) (S.mkl hr.toNat fun j => S.inB (fun j => tl (j + al)) nl j) := by
  have hm := s46' hr al nl ml tl hp nl 0 (S.mkl hr.toNat fun j => false) (by omega) ⟨mkl_congr fun j hj => rfl⟩
  obtain ⟨hp1, hp2, hp3⟩ := hp
  obtain ⟨v1, v2, v3, v4⟩ := fil_ok hp3
  show Goes _ _ _
  unfold p46
  repeat' first
    | with_reducible refine goes_if (fun h => ?_) (fun h => ?_) <;> (try simp only [lim64, imp_false, decide_eq_true_eq, decide_eq_false_iff_not, Int.toNat_natCast, toNat_pred, toNat_succ, Option.getD_some, Option.getD_none, Bool.not_eq_true', Bool.not_eq_false', Bool.and_eq_true, Bool.or_eq_true, Bool.and_eq_false_iff, Bool.or_eq_false_iff, bne_iff_ne, beq_iff_eq, bne_eq_false_iff_eq, beq_eq_false_iff_ne, ne_eq, not_and, Int.not_le, Int.not_lt, ge_iff_le, gt_iff_lt, Nat.not_lt, Nat.not_le, Bool.not_eq_true, Bool.not_eq_false, Bool.true_eq_false, Bool.false_eq_true, not_false_eq_true, not_true_eq_false] at h)
    | exact goes_none.mpr (by omega)
  all_goals first | (exfalso; omega) | exact hm

theorem k46_ok : k46.ok Try.prog := by
  intro x hx
  obtain ⟨⟨hr, ⟨al, nl, ml, tl, _⟩, _⟩, _⟩ := x
  obtain ⟨h1, h2⟩ := a46 hr al nl ml tl (s46 hr al nl ml tl (of_dec hx rfl))
  exact ⟨⟨400, (by decide : 1 + 1 + 1 ≤ 400), h1⟩, h2⟩
inductive St45 where
  | h0 (x0 : Int) (x1 : List Bool)
abbrev Rt45 := List Bool
noncomputable def V45 (hr : Int) (al nl ml : Nat) (tl : Nat → Int) (r : Rt45) : PV := PV.own (2) (1) (List.length r)
noncomputable def N45 (hr : Int) (al nl ml : Nat) (tl : Nat → Int) (r : Rt45) : List Blk := [Blk.cols (List.length r) [Col.bool fun (j : Nat) => S.at' r j]]
noncomputable def I45 (hr : Int) (al nl ml : Nat) (tl : Nat → Int) : St45 → Hd
  | .h0 x0 x1 => ⟨hd Try.f45 0, [PV.ptr (PA.mk (1) (0) (0) (0)),
 PV.own (2) (1) (List.length x1), PV.int IntKind.i64 x0], [[(1, (true, Blk.cells [PV.int IntKind.i64 hr, PV.loose (PA.mk (0) (1) al (0)) nl])), (2, (true, Blk.cols (List.length x1) [Col.bool fun (j : Nat) => S.at' x1 j]))], [(0, (false, .cols ml [.int .i64 tl]))]], 3⟩
noncomputable def q45 (hr : Int) (al nl ml : Nat) (tl : Nat → Int) : St45 → Option (St45 ⊕ Rt45)
  | .h0 x0 x1 => bif (decide (x0 < (↑nl : Int)))
 then (bif (decide ((0 : Int) ≤ x0 ∧ x0 < (↑nl : Int)))
 then (bif (decide (Int.toNat x0 + al < ml))
 then (bif (decide ((0 : Int) ≤ tl (Int.toNat x0 + al) ∧ tl (Int.toNat x0 + al) < (↑(List.length x1) : Int)))
 then (bif (decide (Int.toNat (tl (Int.toNat x0 + al)) < List.length x1))
 then (bif (lim IntKind.i64 (x0 + (1 : Int)))
 then (some (.inl (.h0 (x0 + (1 : Int)) (S.mkl (List.length x1) fun (j : Nat) =>
 bif Nat.beq j (Int.toNat (tl (Int.toNat x0 + al))) then true else S.at' x1 j))))
 else (none))
 else (none))
 else (none))
 else (none))
 else (none))
 else (some (.inr (x1)))
noncomputable def p45 (hr : Int) (al nl ml : Nat) (tl : Nat → Int) : Option (St45 ⊕ Rt45) := bif (decide ((0 : Int) ≤ hr ∧ hr ≤ hr ∧ hr ≤ (1000000 : Int)))
 then (some (.inl (.h0 ((0 : Int)) (S.mkl (Int.toNat hr) fun (j : Nat) => false))))
 else (none)
noncomputable def Te45 (test : Bool → Prop → Prop → Prop) (Kst : KS) (Kret : KR) (hr : Int) (al nl ml : Nat) (tl : Nat → Int) : Prop :=
  test (decide ((0 : Int) ≤ hr ∧ hr ≤ hr ∧ hr ≤ (1000000 : Int)))
 (Kst (hd Try.f45 0) ([PV.ptr (PA.mk (1) (0) (0) (0)),
 PV.own (2) (1) (Int.toNat hr), PV.int IntKind.i64 (0 : Int)]) ([[(0, false, Blk.cols ml [Col.int IntKind.i64 tl]),
 (2, true, Blk.cols (Int.toNat hr) [Col.bool fun (x : Nat) => false]),
 (1, true,
 Blk.cells
 [PV.int IntKind.i64 hr, PV.loose (PA.mk (0) (1) al (0)) nl])]]) (3))
 (False)
set_option maxRecDepth 100000 in
theorem te45 (test : Bool → Prop → Prop → Prop) (Kst : KS) (Kret : KR) (hr : Int) (al nl ml : Nat) (tl : Nat → Int) : run test Try.env true (xV test) true 400 ⟨45, [.cd (mkFn Try.f45).body], argT 0 [.agg [.int .i64 hr, .loose ⟨0, 1, al, 0⟩ nl]], [[], [(0, (false, .cols ml [.int .i64 tl]))]], 1⟩ (proj 1 [1, 3, 4] Kst Kret) =
  Te45 test Kst Kret hr al nl ml tl := by kernel_rfl
noncomputable def T45_0 (test : Bool → Prop → Prop → Prop) (Kst : KS) (Kret : KR) (hr : Int) (al nl ml : Nat) (tl : Nat → Int) (x0 : Int) (x1 : List Bool) : Prop :=
  test (decide (x0 < (↑nl : Int)))
 (test (decide ((0 : Int) ≤ x0 ∧ x0 < (↑nl : Int)))
 (test (decide (Int.toNat x0 + al < ml))
 (test (decide ((0 : Int) ≤ tl (Int.toNat x0 + al) ∧ tl (Int.toNat x0 + al) < (↑(List.length x1) : Int)))
 (test (decide (Int.toNat (tl (Int.toNat x0 + al)) < List.length x1))
 (test (lim IntKind.i64 (x0 + (1 : Int)))
 (Kst (hd Try.f45 0) ([PV.ptr (PA.mk (1) (0) (0) (0)),
 PV.own (2) (1) (List.length x1), PV.int IntKind.i64 (x0 + (1 : Int))]) ([[(0, false, Blk.cols ml [Col.int IntKind.i64 tl]),
 (2, true,
 Blk.cols (List.length x1)
 [Col.bool fun (j : Nat) =>
 bif Nat.beq j (Int.toNat (tl (Int.toNat x0 + al))) then true else S.at' x1 j]),
 (1, true,
 Blk.cells
 [PV.int IntKind.i64 hr, PV.loose (PA.mk (0) (1) al (0)) nl])]]) (3))
 (False))
 (False))
 (False))
 (False))
 (False))
 (Kret (PV.own (2) (1) (List.length x1)) ([[(0, false, Blk.cols ml [Col.int IntKind.i64 tl]),
 (2, true, Blk.cols (List.length x1) [Col.bool fun (j : Nat) => S.at' x1 j])]]) (3))
set_option maxRecDepth 100000 in
theorem t45_0 (test : Bool → Prop → Prop → Prop) (Kst : KS) (Kret : KR) (hr : Int) (al nl ml : Nat) (tl : Nat → Int) (x0 : Int) (x1 : List Bool) : run test Try.env true (xV test) true 400 ⟨45, hd Try.f45 0, zipT [1, 3, 4] [PV.ptr (PA.mk (1) (0) (0) (0)),
 PV.own (2) (1) (List.length x1), PV.int IntKind.i64 x0], [[(1, (true, Blk.cells [PV.int IntKind.i64 hr, PV.loose (PA.mk (0) (1) al (0)) nl])), (2, (true, Blk.cols (List.length x1) [Col.bool fun (j : Nat) => S.at' x1 j]))], [(0, (false, .cols ml [.int .i64 tl]))]], 3⟩ (proj 1 [1, 3, 4] Kst Kret) =
  T45_0 test Kst Kret hr al nl ml tl x0 x1 := by kernel_rfl
attribute [local irreducible] Int.subNatNat in
set_option maxRecDepth 100000 in
theorem be45 (hr : Int) (al nl ml : Nat) (tl : Nat → Int) (Kst : KS) (Kret : KR) (x : St45 ⊕ Rt45) (hS : HS 1 400 ((I45 hr al nl ml tl)) Kst x) (hR : HR 1 400 ((V45 hr al nl ml tl)) (fun r => [newL (1 + 1) ((N45 hr al nl ml tl) r) ++ [(0, (false, .cols ml [.int .i64 tl]))]]) Kret x) (h : (bif (decide ((0 : Int) ≤ hr ∧ hr ≤ hr ∧ hr ≤ (1000000 : Int)))
 then (some (.inl (.h0 ((0 : Int)) (S.mkl (Int.toNat hr) fun (j : Nat) => false))))
 else (none) : Option (St45 ⊕ Rt45)) = some x) : Te45 cond Kst Kret hr al nl ml tl := by
  unfold Te45
  exact bif_split h
   (fun c0 h => stop_at hS _ h (fun n => bif Nat.beq n 1 then 1 else bif Nat.beq n 2 then 2 else n) rfl rfl rfl ⟨(rn_ptr (use_own rfl) rfl rfl), ⟨(rn_own (use_own rfl) rfl mkl_len), ⟨(rn_int rfl), trivial⟩⟩⟩ rfl (entl_b (use_own rfl) rfl (by simp) (rb_cells ⟨(rn_int rfl), (rn_loose (use_lo rfl) rfl rfl rfl), trivial⟩) (entl_new (use_own rfl) rfl (Nat.le_of_eq mkl_len) (rcs_bool (fun _ hj => col_mkl (fun (t : Bool) => t) hj) rcs_nil) (entl_bor (use_lo rfl) rfl rfl entl_nil))))
   (fun c0 h => no_some h)
attribute [local irreducible] Int.subNatNat in
set_option maxRecDepth 100000 in
theorem b45_0 (hr : Int) (al nl ml : Nat) (tl : Nat → Int) (Kst : KS) (Kret : KR) (x : St45 ⊕ Rt45) (hS : HS 1 400 ((I45 hr al nl ml tl)) Kst x) (hR : HR 1 400 ((V45 hr al nl ml tl)) (fun r => [newL (1 + 1) ((N45 hr al nl ml tl) r) ++ [(0, (false, .cols ml [.int .i64 tl]))]]) Kret x) (x0 : Int) (x1 : List Bool) (h : (bif (decide (x0 < (↑nl : Int)))
 then (bif (decide ((0 : Int) ≤ x0 ∧ x0 < (↑nl : Int)))
 then (bif (decide (Int.toNat x0 + al < ml))
 then (bif (decide ((0 : Int) ≤ tl (Int.toNat x0 + al) ∧ tl (Int.toNat x0 + al) < (↑(List.length x1) : Int)))
 then (bif (decide (Int.toNat (tl (Int.toNat x0 + al)) < List.length x1))
 then (bif (lim IntKind.i64 (x0 + (1 : Int)))
 then (some (.inl (.h0 (x0 + (1 : Int)) (S.mkl (List.length x1) fun (j : Nat) =>
 bif Nat.beq j (Int.toNat (tl (Int.toNat x0 + al))) then true else S.at' x1 j))))
 else (none))
 else (none))
 else (none))
 else (none))
 else (none))
 else (some (.inr (x1))) : Option (St45 ⊕ Rt45)) = some x) : T45_0 cond Kst Kret hr al nl ml tl x0 x1 := by
  unfold T45_0
  exact bif_split h
   (fun c0 h => bif_split h
   (fun c1 h => bif_split h
   (fun c2 h => bif_split h
   (fun c3 h => bif_split h
   (fun c4 h => bif_split h
   (fun c5 h => stop_at hS _ h (fun n => bif Nat.beq n 1 then 1 else bif Nat.beq n 2 then 2 else n) rfl rfl rfl ⟨(rn_ptr (use_own rfl) rfl rfl), ⟨(rn_own (use_own rfl) rfl mkl_len), ⟨(rn_int rfl), trivial⟩⟩⟩ rfl (entl_b (use_own rfl) rfl (by simp) (rb_cells ⟨(rn_int rfl), (rn_loose (use_lo rfl) rfl rfl rfl), trivial⟩) (entl_new (use_own rfl) rfl (Nat.le_of_eq mkl_len) (rcs_bool (fun _ hj => col_mkl (fun (t : Bool) => t) hj) rcs_nil) (entl_bor (use_lo rfl) rfl rfl entl_nil))))
   (fun c5 h => no_some h))
   (fun c4 h => no_some h))
   (fun c3 h => no_some h))
   (fun c2 h => no_some h))
   (fun c1 h => no_some h))
   (fun c0 h => ret_at hR _ h (fun n => bif Nat.beq n 2 then 2 else n) rfl rfl rfl (rn_own (use_own rfl) rfl rfl) rfl (entl_new (use_own rfl) rfl (Nat.le_of_eq rfl) (rcs_bool (fun _ _ => rfl) rcs_nil) (entl_bor (use_lo rfl) rfl rfl entl_nil)))
theorem a45 (hr : Int) (al nl ml : Nat) (tl : Nat → Int) {r : Rt45} (h : Goes ((q45 hr al nl ml tl)) ((p45 hr al nl ml tl)) r) : CallR Try.prog 45 [.agg [.int .i64 hr, .loose ⟨0, 1, al, 0⟩ nl]] [[(0, (false, .cols ml [.int .i64 tl]))]] 1 ((V45 hr al nl ml tl) r) ((fun r => [newL (1 + 1) ((N45 hr al nl ml tl) r) ++ [(0, (false, .cols ml [.int .i64 tl]))]]) r) 400 ∧ ∃ F, Try.prog.funcs[45]? = some F ∧ F.body.isSome = true ∧ (F.name == "runtime.NumGoroutine") = false := by
  refine dec_calls (f := 45) (lo := 1) (hi := 400) (H := [[(0, (false, .cols ml [.int .i64 tl]))]]) (args := [.agg [.int .i64 hr, .loose ⟨0, 1, al, 0⟩ nl]]) Try.envOk Try.mixed xV_ok ((I45 hr al nl ml tl)) ((V45 hr al nl ml tl)) (fun r => [newL (1 + 1) ((N45 hr al nl ml tl) r) ++ [(0, (false, .cols ml [.int .i64 tl]))]]) (fn := mkFn Try.f45) (ts := [1, 3, 4]) (n := 400) rfl (by decide) (by simp) (names_of rfl) ?_ ?_ ?_ h
  · intro s; cases s <;> exact ⟨hd_ok _ _, by simp [I45], names_of rfl, Nat.le_of_ble_eq_true rfl⟩
  · intro Kst Kret x hS hR h
    exact Holds.eq (te45 cond Kst Kret hr al nl ml tl) (be45 hr al nl ml tl Kst Kret x hS hR h)
  · intro Kst Kret x hS hR s h
    cases s with
    | h0 x0 x1 => exact Holds.eq (t45_0 cond Kst Kret hr al nl ml tl x0 x1) (b45_0 hr al nl ml tl Kst Kret x hS hR x0 x1 h)
noncomputable def k45 : Con := ⟨45, [.agg [.plain (.int .i64), .list [.int .i64]]], fun (x : (Int × (Nat × Nat × Nat × (Nat → Int) × Unit) × Unit) × Unit) => (fun (hr : Int) (al nl ml : Nat) (tl : Nat → Int) => decide (al + nl ≤ ml ∧ nl ≤ 1000000 ∧ S.filE hr nl (fun j => tl (j + al)) = 0)) x.1.1 x.1.2.1.1 x.1.2.1.2.1 x.1.2.1.2.2.1 x.1.2.1.2.2.2.1, fun (x : (Int × (Nat × Nat × Nat × (Nat → Int) × Unit) × Unit) × Unit) => (fun (hr : Int) (al nl ml : Nat) (tl : Nat → Int) => (V45 hr al nl ml tl) (S.mkl hr.toNat fun j => S.inB (fun j => tl (j + al)) nl j)) x.1.1 x.1.2.1.1 x.1.2.1.2.1 x.1.2.1.2.2.1 x.1.2.1.2.2.2.1, fun (x : (Int × (Nat × Nat × Nat × (Nat → Int) × Unit) × Unit) × Unit) => (fun (hr : Int) (al nl ml : Nat) (tl : Nat → Int) => (N45 hr al nl ml tl) (S.mkl hr.toNat fun j => S.inB (fun j => tl (j + al)) nl j)) x.1.1 x.1.2.1.1 x.1.2.1.2.1 x.1.2.1.2.2.1 x.1.2.1.2.2.2.1, fun _ _ => .dead⟩
theorem s45' (hr : Int) (al nl ml : Nat) (tl : Nat → Int) (hp : al + nl ≤ ml ∧ nl ≤ 1000000 ∧ S.filE hr nl (fun j => tl (j + al)) = 0) : ∀ (k i : Nat) (L : List Bool), i + k = nl → Holds (L = S.mkl hr.toNat fun j => S.inB (fun j => tl (j + al)) i j) → Comes (q45 hr al nl ml tl) (.h0 (i : Int) L) (S.mkl hr.toNat fun j => S.inB (fun j => tl (j + al)) nl j) := by
  obtain ⟨hp1, hp2, hp3⟩ := hp
  obtain ⟨v1, v2, v3, v4⟩ := fil_ok hp3
  intro k
  induction k with
  | zero =>
    intro i L hi eL
    have hL : L.length = hr.toNat := by rw [eL.get]; exact mkl_len
    apply Comes.of
    show Goes _ _ _
    (first | rw [q45] | unfold q45)
    repeat' first
      | with_reducible refine goes_if (fun h => ?_) (fun h => ?_) <;> (try simp only [lim64, imp_false, decide_eq_true_eq, decide_eq_false_iff_not, Int.toNat_natCast, toNat_pred, toNat_succ, Option.getD_some, Option.getD_none, Bool.not_eq_true', Bool.not_eq_false', Bool.and_eq_true, Bool.or_eq_true, Bool.and_eq_false_iff, Bool.or_eq_false_iff, bne_iff_ne, beq_iff_eq, bne_eq_false_iff_eq, beq_eq_false_iff_ne, ne_eq, not_and, Int.not_le, Int.not_lt, ge_iff_le, gt_iff_lt, Nat.not_lt, Nat.not_le, Bool.not_eq_true, Bool.not_eq_false, Bool.true_eq_false, Bool.false_eq_true, not_false_eq_true, not_true_eq_false] at h)
      | exact goes_none.mpr (by omega)
    all_goals first | (exfalso; omega) | (obtain rfl : nl = i := (by omega);  exact goes_inr.mpr eL.get)
  | succ k ih =>
    intro i L hi eL
    have hL : L.length = hr.toNat := by rw [eL.get]; exact mkl_len
    have b1 := v3 i (by omega)
    apply Comes.of
    show Goes _ _ _
    (first | rw [q45] | unfold q45)
    repeat' first
      | with_reducible refine goes_if (fun h => ?_) (fun h => ?_) <;> (try simp only [lim64, imp_false, decide_eq_true_eq, decide_eq_false_iff_not, Int.toNat_natCast, toNat_pred, toNat_succ, Option.getD_some, Option.getD_none, Bool.not_eq_true', Bool.not_eq_false', Bool.and_eq_true, Bool.or_eq_true, Bool.and_eq_false_iff, Bool.or_eq_false_iff, bne_iff_ne, beq_iff_eq, bne_eq_false_iff_eq, beq_eq_false_iff_ne, ne_eq, not_and, Int.not_le, Int.not_lt, ge_iff_le, gt_iff_lt, Nat.not_lt, Nat.not_le, Bool.not_eq_true, Bool.not_eq_false, Bool.true_eq_false, Bool.false_eq_true, not_false_eq_true, not_true_eq_false] at h)
      | exact goes_none.mpr (by omega)
    all_goals first
      | (exfalso; omega)
      | (refine ih (i + 1) _ (by omega) ⟨?_⟩; rw [hL, eL.get]; refine mkl_congr fun j hj => ?_; rw [at_mkl hj]; exact inB_step (x := (tl (i + al)).toNat) b1.1 rfl)
      | (refine ih (i + 1) _ (by omega) ⟨?_⟩ <;> (skip))
theorem s45 (hr : Int) (al nl ml : Nat) (tl : Nat → Int) (hp : al + nl ≤ ml ∧ nl ≤ 1000000 ∧ S.filE hr nl (fun j => tl (j + al)) = 0) : Goes ((q45 hr al nl ml tl)) ((p45 hr al nl ml tl)) (S.mkl hr.toNat fun j => S.inB (fun j => tl (j + al)) nl j) := by
  have hm := s45' hr al nl ml tl hp nl 0 (S.mkl hr.toNat fun j => false) (by omega) ⟨mkl_congr fun j hj => rfl⟩
  obtain ⟨hp1, hp2, hp3⟩ := hp
  obtain ⟨v1, v2, v3, v4⟩ := fil_ok hp3
  show Goes _ _ _
  unfold p45
  repeat' first
    | with_reducible refine goes_if (fun h => ?_) (fun h => ?_) <;> (try simp only [lim64, imp_false, decide_eq_true_eq, decide_eq_false_iff_not, Int.toNat_natCast, toNat_pred, toNat_succ, Option.getD_some, Option.getD_none, Bool.not_eq_true', Bool.not_eq_false', Bool.and_eq_true, Bool.or_eq_true, Bool.and_eq_false_iff, Bool.or_eq_false_iff, bne_iff_ne, beq_iff_eq, bne_eq_false_iff_eq, beq_eq_false_iff_ne, ne_eq, not_and, Int.not_le, Int.not_lt, ge_iff_le, gt_iff_lt, Nat.not_lt, Nat.not_le, Bool.not_eq_true, Bool.not_eq_false, Bool.true_eq_false, Bool.false_eq_true, not_false_eq_true, not_true_eq_false] at h)
    | exact goes_none.mpr (by omega)
  all_goals first | (exfalso; omega) | exact hm

theorem k45_ok : k45.ok Try.prog := by
  intro x hx
  obtain ⟨⟨hr, ⟨al, nl, ml, tl, _⟩, _⟩, _⟩ := x
  obtain ⟨h1, h2⟩ := a45 hr al nl ml tl (s45 hr al nl ml tl (of_dec hx rfl))
  exact ⟨⟨400, (by decide : 1 + 1 + 1 ≤ 400), h1⟩, h2⟩

end Go.Ev
