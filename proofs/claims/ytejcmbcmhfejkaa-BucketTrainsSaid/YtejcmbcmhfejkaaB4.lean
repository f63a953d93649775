/-
  The places that are filled.
-/
import Derived.Test.YtejcmbcmhfejkaaB3
namespace Go.Ev
open Go.Proofs
set_option linter.unusedVariables false
set_option linter.unusedSimpArgs false
set_option maxRecDepth 100000
inductive St47 where
  | h0 (x0 : Int) (x1 : List Int)
abbrev Rt47 := List Int
noncomputable def V47 (al nl ml : Nat) (tl : Nat → Bool) (r : Rt47) : PV := PV.agg [PV.int IntKind.i64 (↑nl : Int), PV.own (2) (1) (List.length r)]
noncomputable def N47 (al nl ml : Nat) (tl : Nat → Bool) (r : Rt47) : List Blk := [Blk.cols (List.length r) [Col.int IntKind.i64 fun (j : Nat) => S.at' r j]]
noncomputable def I47 (al nl ml : Nat) (tl : Nat → Bool) : St47 → Hd
  | .h0 x0 x1 => ⟨hd Try.f47 0, [PV.ptr (PA.mk (1) (0) (0) (0)),
 PV.ptr (PA.mk (2) (0) (0) (0)),
 PV.loose (PA.mk (0) (1) al (0)) nl, PV.int IntKind.i64 (↑nl : Int),
 PV.int IntKind.i64 x0], [[(1, (true, Blk.cells [PV.int IntKind.i64 (0 : Int), PV.nils])), (2, (true, Blk.cells [PV.int IntKind.i64 (↑nl : Int), PV.own (3) (1) (List.length x1)])), (3, (true, Blk.cols (List.length x1) [Col.int IntKind.i64 fun (j : Nat) => S.at' x1 j]))], [(0, (false, .cols ml [.bool tl]))]], 4⟩
noncomputable def q47 (al nl ml : Nat) (tl : Nat → Bool) : St47 → Option (St47 ⊕ Rt47)
  | .h0 x0 x1 => bif (decide (x0 < (↑nl : Int)))
 then (bif (decide ((0 : Int) ≤ x0 ∧ x0 < (↑nl : Int)))
 then (bif (decide (Int.toNat x0 + al < ml))
 then (bif (tl (Int.toNat x0 + al))
 then (bif (decide (List.length x1 + 1 ≤ 1000000))
 then (bif (decide (List.length x1 ≤ List.length x1))
 then (bif (lim IntKind.i64 (x0 + (1 : Int)))
 then (some (.inl (.h0 (x0 + (1 : Int)) (S.snoc x1 x0))))
 else (none))
 else (none))
 else (none))
 else (bif (lim IntKind.i64 (x0 + (1 : Int)))
 then (some (.inl (.h0 (x0 + (1 : Int)) (x1))))
 else (none)))
 else (none))
 else (none))
 else (some (.inr (x1)))
noncomputable def p47 (al nl ml : Nat) (tl : Nat → Bool) : Option (St47 ⊕ Rt47) := some (.inl (.h0 ((0 : Int)) ([])))
noncomputable def Te47 (test : Bool → Prop → Prop → Prop) (Kst : KS) (Kret : KR) (al nl ml : Nat) (tl : Nat → Bool) : Prop :=
  Kst (hd Try.f47 0) ([PV.ptr (PA.mk (1) (0) (0) (0)),
 PV.ptr (PA.mk (2) (0) (0) (0)),
 PV.loose (PA.mk (0) (1) al (0)) nl, PV.int IntKind.i64 (↑nl : Int),
 PV.int IntKind.i64 (0 : Int)]) ([[(0, false, Blk.cols ml [Col.bool tl]),
 (2, true, Blk.cells [PV.int IntKind.i64 (↑nl : Int), PV.nils]),
 (1, true, Blk.cells [PV.int IntKind.i64 (0 : Int), PV.nils])]]) (3)
set_option maxRecDepth 100000 in
theorem te47 (test : Bool → Prop → Prop → Prop) (Kst : KS) (Kret : KR) (al nl ml : Nat) (tl : Nat → Bool) : run test Try.env true noX true 400 ⟨47, [.cd (mkFn Try.f47).body], argT 0 [.loose ⟨0, 1, al, 0⟩ nl], [[], [(0, (false, .cols ml [.bool tl]))]], 1⟩ (proj 1 [2, 3, 9, 10, 11] Kst Kret) =
  Te47 test Kst Kret al nl ml tl := by kernel_rfl
noncomputable def T47_0 (test : Bool → Prop → Prop → Prop) (Kst : KS) (Kret : KR) (al nl ml : Nat) (tl : Nat → Bool) (x0 : Int) (x1 : List Int) : Prop :=
  test (decide (x0 < (↑nl : Int)))
 (test (decide ((0 : Int) ≤ x0 ∧ x0 < (↑nl : Int)))
 (test (decide (Int.toNat x0 + al < ml))
 (test (tl (Int.toNat x0 + al))
 (test (decide (List.length x1 + 1 ≤ 1000000))
 (test (decide (List.length x1 ≤ List.length x1))
 (test (true)
 (test (lim IntKind.i64 (x0 + (1 : Int)))
 (Kst (hd Try.f47 0) ([PV.ptr (PA.mk (1) (0) (0) (0)),
 PV.ptr (PA.mk (2) (0) (0) (0)),
 PV.loose (PA.mk (0) (1) al (0)) nl, PV.int IntKind.i64 (↑nl : Int),
 PV.int IntKind.i64 (x0 + (1 : Int))]) ([[(0, false, Blk.cols ml [Col.bool tl]),
 (2, true,
 Blk.cells
 [PV.int IntKind.i64 (↑nl : Int), PV.own (5) (1) (List.length x1 + 1)]),
 (1, true, Blk.cells [PV.int IntKind.i64 (0 : Int), PV.nils]),
 (5, true,
 Blk.cols (List.length x1 + 1)
 [Col.int IntKind.i64 fun (j : Nat) => bif Nat.blt j (List.length x1) then S.at' x1 j else x0])]]) (6))
 (False))
 (False))
 (False))
 (False))
 (test (lim IntKind.i64 (x0 + (1 : Int)))
 (Kst (hd Try.f47 0) ([PV.ptr (PA.mk (1) (0) (0) (0)),
 PV.ptr (PA.mk (2) (0) (0) (0)),
 PV.loose (PA.mk (0) (1) al (0)) nl, PV.int IntKind.i64 (↑nl : Int),
 PV.int IntKind.i64 (x0 + (1 : Int))]) ([[(0, false, Blk.cols ml [Col.bool tl]),
 (2, true,
 Blk.cells [PV.int IntKind.i64 (↑nl : Int), PV.own (3) (1) (List.length x1)]),
 (1, true, Blk.cells [PV.int IntKind.i64 (0 : Int), PV.nils]),
 (3, true,
 Blk.cols (List.length x1) [Col.int IntKind.i64 fun (j : Nat) => S.at' x1 j])]]) (4))
 (False)))
 (False))
 (False))
 (Kret (PV.agg [PV.int IntKind.i64 (↑nl : Int), PV.own (3) (1) (List.length x1)]) ([[(0, false, Blk.cols ml [Col.bool tl]),
 (3, true,
 Blk.cols (List.length x1) [Col.int IntKind.i64 fun (j : Nat) => S.at' x1 j])]]) (4))
set_option maxRecDepth 100000 in
theorem t47_0 (test : Bool → Prop → Prop → Prop) (Kst : KS) (Kret : KR) (al nl ml : Nat) (tl : Nat → Bool) (x0 : Int) (x1 : List Int) : run test Try.env true noX true 400 ⟨47, hd Try.f47 0, zipT [2, 3, 9, 10, 11] [PV.ptr (PA.mk (1) (0) (0) (0)),
 PV.ptr (PA.mk (2) (0) (0) (0)),
 PV.loose (PA.mk (0) (1) al (0)) nl, PV.int IntKind.i64 (↑nl : Int),
 PV.int IntKind.i64 x0], [[(1, (true, Blk.cells [PV.int IntKind.i64 (0 : Int), PV.nils])), (2, (true, Blk.cells [PV.int IntKind.i64 (↑nl : Int), PV.own (3) (1) (List.length x1)])), (3, (true, Blk.cols (List.length x1) [Col.int IntKind.i64 fun (j : Nat) => S.at' x1 j]))], [(0, (false, .cols ml [.bool tl]))]], 4⟩ (proj 1 [2, 3, 9, 10, 11] Kst Kret) =
  T47_0 test Kst Kret al nl ml tl x0 x1 := by kernel_rfl
attribute [local irreducible] Int.subNatNat in
set_option maxRecDepth 100000 in
theorem be47 (al nl ml : Nat) (tl : Nat → Bool) (Kst : KS) (Kret : KR) (x : St47 ⊕ Rt47) (hS : HS 1 400 ((I47 al nl ml tl)) Kst x) (hR : HR 1 400 ((V47 al nl ml tl)) (fun r => [newL (1 + 1) ((N47 al nl ml tl) r) ++ [(0, (false, .cols ml [.bool tl]))]]) Kret x) (h : (some (.inl (.h0 ((0 : Int)) ([]))) : Option (St47 ⊕ Rt47)) = some x) : Te47 cond Kst Kret al nl ml tl := by
  unfold Te47
  exact stop_at hS _ h (fun n => bif Nat.beq n 1 then 1 else bif Nat.beq n 2 then 2 else bif Nat.beq n 3 then 399 else n) rfl rfl rfl ⟨(rn_ptr (use_own rfl) rfl rfl), ⟨(rn_ptr (use_own rfl) rfl rfl), ⟨(rn_loose (use_lo rfl) rfl rfl rfl), ⟨(rn_int rfl), ⟨(rn_int rfl), trivial⟩⟩⟩⟩⟩ rfl (entl_b (use_own rfl) rfl (by simp) (rb_cells ⟨(rn_int rfl), rn_nils, trivial⟩) (entl_b (use_own rfl) rfl (by simp) (rb_cells ⟨(rn_int rfl), (rn_own_nils rfl), trivial⟩) (entl_fresh (use_own rfl) (fresh_ok rfl) (entl_bor (use_lo rfl) rfl rfl entl_nil))))
attribute [local irreducible] Int.subNatNat in
set_option maxRecDepth 100000 in
theorem b47_0 (al nl ml : Nat) (tl : Nat → Bool) (Kst : KS) (Kret : KR) (x : St47 ⊕ Rt47) (hS : HS 1 400 ((I47 al nl ml tl)) Kst x) (hR : HR 1 400 ((V47 al nl ml tl)) (fun r => [newL (1 + 1) ((N47 al nl ml tl) r) ++ [(0, (false, .cols ml [.bool tl]))]]) Kret x) (x0 : Int) (x1 : List Int) (h : (bif (decide (x0 < (↑nl : Int)))
 then (bif (decide ((0 : Int) ≤ x0 ∧ x0 < (↑nl : Int)))
 then (bif (decide (Int.toNat x0 + al < ml))
 then (bif (tl (Int.toNat x0 + al))
 then (bif (decide (List.length x1 + 1 ≤ 1000000))
 then (bif (decide (List.length x1 ≤ List.length x1))
 then (bif (lim IntKind.i64 (x0 + (1 : Int)))
 then (some (.inl (.h0 (x0 + (1 : Int)) (S.snoc x1 x0))))
 else (none))
 else (none))
 else (none))
 else (bif (lim IntKind.i64 (x0 + (1 : Int)))
 then (some (.inl (.h0 (x0 + (1 : Int)) (x1))))
 else (none)))
 else (none))
 else (none))
 else (some (.inr (x1))) : Option (St47 ⊕ Rt47)) = some x) : T47_0 cond Kst Kret al nl ml tl x0 x1 := by
  unfold T47_0
  exact bif_split h
   (fun c0 h => bif_split h
   (fun c1 h => bif_split h
   (fun c2 h => bif_split h
   (fun c3 h => bif_split h
   (fun c4 h => bif_split h
   (fun c5 h => cond_yes rfl (bif_split h
   (fun c6 h => stop_at hS _ h (fun n => bif Nat.beq n 1 then 1 else bif Nat.beq n 2 then 2 else bif Nat.beq n 3 then 5 else n) rfl rfl rfl ⟨(rn_ptr (use_own rfl) rfl rfl), ⟨(rn_ptr (use_own rfl) rfl rfl), ⟨(rn_loose (use_lo rfl) rfl rfl rfl), ⟨(rn_int rfl), ⟨(rn_int rfl), trivial⟩⟩⟩⟩⟩ rfl (entl_b (use_own rfl) rfl (by simp) (rb_cells ⟨(rn_int rfl), rn_nils, trivial⟩) (entl_b (use_own rfl) rfl (by simp) (rb_cells ⟨(rn_int rfl), (rn_own (use_own rfl) rfl (snoc_len' rfl)), trivial⟩) (entl_new (use_own rfl) rfl (Nat.le_of_eq (snoc_len' rfl)) (rcs_int (col_snoc' (fun (t : Int) => t) rfl (fun _ _ => rfl)) rcs_nil) (entl_bor (use_lo rfl) rfl rfl entl_nil)))))
   (fun c6 h => no_some h)))
   (fun c5 h => no_some h))
   (fun c4 h => no_some h))
   (fun c3 h => bif_split h
   (fun c4 h => stop_at hS _ h (fun n => bif Nat.beq n 1 then 1 else bif Nat.beq n 2 then 2 else bif Nat.beq n 3 then 3 else n) rfl rfl rfl ⟨(rn_ptr (use_own rfl) rfl rfl), ⟨(rn_ptr (use_own rfl) rfl rfl), ⟨(rn_loose (use_lo rfl) rfl rfl rfl), ⟨(rn_int rfl), ⟨(rn_int rfl), trivial⟩⟩⟩⟩⟩ rfl (entl_b (use_own rfl) rfl (by simp) (rb_cells ⟨(rn_int rfl), rn_nils, trivial⟩) (entl_b (use_own rfl) rfl (by simp) (rb_cells ⟨(rn_int rfl), (rn_own (use_own rfl) rfl rfl), trivial⟩) (entl_new (use_own rfl) rfl (Nat.le_of_eq rfl) (rcs_int (fun _ _ => rfl) rcs_nil) (entl_bor (use_lo rfl) rfl rfl entl_nil)))))
   (fun c4 h => no_some h)))
   (fun c2 h => no_some h))
   (fun c1 h => no_some h))
   (fun c0 h => ret_at hR _ h (fun n => bif Nat.beq n 2 then 3 else n) rfl rfl rfl (rn_agg ⟨(rn_int rfl), (rn_own (use_own rfl) rfl rfl), trivial⟩) rfl (entl_new (use_own rfl) rfl (Nat.le_of_eq rfl) (rcs_int (fun _ _ => rfl) rcs_nil) (entl_bor (use_lo rfl) rfl rfl entl_nil)))
theorem a47 (al nl ml : Nat) (tl : Nat → Bool) {r : Rt47} (h : Goes ((q47 al nl ml tl)) ((p47 al nl ml tl)) r) : CallR Try.prog 47 [.loose ⟨0, 1, al, 0⟩ nl] [[(0, (false, .cols ml [.bool tl]))]] 1 ((V47 al nl ml tl) r) ((fun r => [newL (1 + 1) ((N47 al nl ml tl) r) ++ [(0, (false, .cols ml [.bool tl]))]]) r) 400 ∧ ∃ F, Try.prog.funcs[47]? = some F ∧ F.body.isSome = true ∧ (F.name == "runtime.NumGoroutine") = false := by
  refine dec_calls (f := 47) (lo := 1) (hi := 400) (H := [[(0, (false, .cols ml [.bool tl]))]]) (args := [.loose ⟨0, 1, al, 0⟩ nl]) Try.envOk Try.mixed noX_ok ((I47 al nl ml tl)) ((V47 al nl ml tl)) (fun r => [newL (1 + 1) ((N47 al nl ml tl) r) ++ [(0, (false, .cols ml [.bool tl]))]]) (fn := mkFn Try.f47) (ts := [2, 3, 9, 10, 11]) (n := 400) rfl (by decide) (by simp) (names_of rfl) ?_ ?_ ?_ h
  · intro s; cases s <;> exact ⟨hd_ok _ _, by simp [I47], names_of rfl, Nat.le_of_ble_eq_true rfl⟩
  · intro Kst Kret x hS hR h
    exact Holds.eq (te47 cond Kst Kret al nl ml tl) (be47 al nl ml tl Kst Kret x hS hR h)
  · intro Kst Kret x hS hR s h
    cases s with
    | h0 x0 x1 => exact Holds.eq (t47_0 cond Kst Kret al nl ml tl x0 x1) (b47_0 al nl ml tl Kst Kret x hS hR x0 x1 h)
noncomputable def k47 : Con := ⟨47, [.one (.list [.bool])], fun (x : (Nat × Nat × Nat × (Nat → Bool) × Unit) × Unit) => (fun (al nl ml : Nat) (tl : Nat → Bool) => decide (al + nl ≤ ml ∧ nl ≤ 999999)) x.1.1 x.1.2.1 x.1.2.2.1 x.1.2.2.2.1, fun (x : (Nat × Nat × Nat × (Nat → Bool) × Unit) × Unit) => (fun (al nl ml : Nat) (tl : Nat → Bool) => (V47 al nl ml tl) (S.posP (fun j => tl (j + al)) nl)) x.1.1 x.1.2.1 x.1.2.2.1 x.1.2.2.2.1, fun (x : (Nat × Nat × Nat × (Nat → Bool) × Unit) × Unit) => (fun (al nl ml : Nat) (tl : Nat → Bool) => (N47 al nl ml tl) (S.posP (fun j => tl (j + al)) nl)) x.1.1 x.1.2.1 x.1.2.2.1 x.1.2.2.2.1, fun _ _ => .dead⟩
theorem s47' (al nl ml : Nat) (tl : Nat → Bool) (hp : al + nl ≤ ml ∧ nl ≤ 999999) : ∀ (k i : Nat) (L : List Int), i + k = nl → Holds (L = S.posP (fun j => tl (j + al)) i) → Comes (q47 al nl ml tl) (.h0 (i : Int) L) (S.posP (fun j => tl (j + al)) nl) := by
  obtain ⟨hp1, hp2⟩ := hp
  intro k
  induction k with
  | zero =>
    intro i L hi eL
    have hL : L.length ≤ i := by rw [eL.get]; exact posP_len
    apply Comes.of
    show Goes _ _ _
    (first | rw [q47] | unfold q47)
    repeat' first
      | with_reducible refine goes_if (fun h => ?_) (fun h => ?_) <;> (try simp only [lim64, imp_false, decide_eq_true_eq, decide_eq_false_iff_not, Int.toNat_natCast, toNat_pred, toNat_succ, Option.getD_some, Option.getD_none, Bool.not_eq_true', Bool.not_eq_false', Bool.and_eq_true, Bool.or_eq_true, Bool.and_eq_false_iff, Bool.or_eq_false_iff, bne_iff_ne, beq_iff_eq, bne_eq_false_iff_eq, beq_eq_false_iff_ne, ne_eq, not_and, Int.not_le, Int.not_lt, ge_iff_le, gt_iff_lt, Nat.not_lt, Nat.not_le, Bool.not_eq_true, Bool.not_eq_false, Bool.true_eq_false, Bool.false_eq_true, not_false_eq_true, not_true_eq_false] at h)
      | exact goes_none.mpr (by omega)
    all_goals first | (exfalso; omega) | (obtain rfl : nl = i := (by omega);  exact goes_inr.mpr eL.get)
  | succ k ih =>
    intro i L hi eL
    have hL : L.length ≤ i := by rw [eL.get]; exact posP_len
    apply Comes.of
    show Goes _ _ _
    (first | rw [q47] | unfold q47)
    repeat' first
      | with_reducible refine goes_if (fun h => ?_) (fun h => ?_) <;> (try simp only [lim64, imp_false, decide_eq_true_eq, decide_eq_false_iff_not, Int.toNat_natCast, toNat_pred, toNat_succ, Option.getD_some, Option.getD_none, Bool.not_eq_true', Bool.not_eq_false', Bool.and_eq_true, Bool.or_eq_true, Bool.and_eq_false_iff, Bool.or_eq_false_iff, bne_iff_ne, beq_iff_eq, bne_eq_false_iff_eq, beq_eq_false_iff_ne, ne_eq, not_and, Int.not_le, Int.not_lt, ge_iff_le, gt_iff_lt, Nat.not_lt, Nat.not_le, Bool.not_eq_true, Bool.not_eq_false, Bool.true_eq_false, Bool.false_eq_true, not_false_eq_true, not_true_eq_false] at h)
      | exact goes_none.mpr (by omega)
    all_goals first
      | (exfalso; omega)
      | (refine ih (i + 1) _ (by omega) ⟨?_⟩; simp only [S.posP]; first | (rw [if_pos (by assumption), eL.get]) | (rw [if_neg (by simp only [Bool.not_eq_true]; assumption), eL.get]))
      | (refine ih (i + 1) _ (by omega) ⟨?_⟩ <;> (skip))
theorem s47 (al nl ml : Nat) (tl : Nat → Bool) (hp : al + nl ≤ ml ∧ nl ≤ 999999) : Goes ((q47 al nl ml tl)) ((p47 al nl ml tl)) (S.posP (fun j => tl (j + al)) nl) := by
  exact s47' al nl ml tl hp nl 0 [] (by omega) ⟨rfl⟩

theorem k47_ok : k47.ok Try.prog := by
  intro x hx
  obtain ⟨⟨al, nl, ml, tl, _⟩, _⟩ := x
  obtain ⟨h1, h2⟩ := a47 al nl ml tl (s47 al nl ml tl (of_dec hx rfl))
  exact ⟨⟨400, (by decide : 1 + 1 + 1 ≤ 400), h1⟩, h2⟩
inductive St48 where
  | h0 (x0 : Int) (x1 : List Int)
abbrev Rt48 := List Int
noncomputable def V48 (al nl ml : Nat) (tl : Nat → Bool) (r : Rt48) : PV := PV.agg [PV.int IntKind.i64 (↑nl : Int), PV.own (2) (1) (List.length r)]
noncomputable def N48 (al nl ml : Nat) (tl : Nat → Bool) (r : Rt48) : List Blk := [Blk.cols (List.length r) [Col.int IntKind.i64 fun (j : Nat) => S.at' r j]]
noncomputable def I48 (al nl ml : Nat) (tl : Nat → Bool) : St48 → Hd
  | .h0 x0 x1 => ⟨hd Try.f48 0, [PV.loose (PA.mk (0) (1) al (0)) nl,
 PV.ptr (PA.mk (1) (0) (0) (0)),
 PV.ptr (PA.mk (2) (0) (0) (0)), PV.int IntKind.i64 x0], [[(1, (true, Blk.cells [PV.int IntKind.i64 (0 : Int), PV.nils])), (2, (true, Blk.cells [PV.int IntKind.i64 (↑nl : Int), PV.own (3) (1) (List.length x1)])), (3, (true, Blk.cols (List.length x1) [Col.int IntKind.i64 fun (j : Nat) => S.at' x1 j]))], [(0, (false, .cols ml [.bool tl]))]], 4⟩
noncomputable def q48 (al nl ml : Nat) (tl : Nat → Bool) : St48 → Option (St48 ⊕ Rt48)
  | .h0 x0 x1 => bif (decide (x0 < (↑nl : Int)))
 then (bif (decide ((0 : Int) ≤ x0 ∧ x0 < (↑nl : Int)))
 then (bif (decide (Int.toNat x0 + al < ml))
 then (bif (tl (Int.toNat x0 + al))
 then (bif (decide (List.length x1 + 1 ≤ 1000000))
 then (bif (decide (List.length x1 ≤ List.length x1))
 then (bif (lim IntKind.i64 (x0 + (1 : Int)))
 then (some (.inl (.h0 (x0 + (1 : Int)) (S.snoc x1 x0))))
 else (none))
 else (none))
 else (none))
 else (bif (lim IntKind.i64 (x0 + (1 : Int)))
 then (some (.inl (.h0 (x0 + (1 : Int)) (x1))))
 else (none)))
 else (none))
 else (none))
 else (some (.inr (x1)))
noncomputable def p48 (al nl ml : Nat) (tl : Nat → Bool) : Option (St48 ⊕ Rt48) := some (.inl (.h0 ((0 : Int)) ([])))
noncomputable def Te48 (test : Bool → Prop → Prop → Prop) (Kst : KS) (Kret : KR) (al nl ml : Nat) (tl : Nat → Bool) : Prop :=
  Kst (hd Try.f48 0) ([PV.loose (PA.mk (0) (1) al (0)) nl,
 PV.ptr (PA.mk (1) (0) (0) (0)),
 PV.ptr (PA.mk (2) (0) (0) (0)), PV.int IntKind.i64 (0 : Int)]) ([[(0, false, Blk.cols ml [Col.bool tl]),
 (2, true, Blk.cells [PV.int IntKind.i64 (↑nl : Int), PV.nils]),
 (1, true, Blk.cells [PV.int IntKind.i64 (0 : Int), PV.nils])]]) (3)
set_option maxRecDepth 100000 in
theorem te48 (test : Bool → Prop → Prop → Prop) (Kst : KS) (Kret : KR) (al nl ml : Nat) (tl : Nat → Bool) : run test Try.env true noX true 400 ⟨48, [.cd (mkFn Try.f48).body], argT 0 [.loose ⟨0, 1, al, 0⟩ nl], [[], [(0, (false, .cols ml [.bool tl]))]], 1⟩ (proj 1 [0, 2, 3, 4] Kst Kret) =
  Te48 test Kst Kret al nl ml tl := by kernel_rfl
noncomputable def T48_0 (test : Bool → Prop → Prop → Prop) (Kst : KS) (Kret : KR) (al nl ml : Nat) (tl : Nat → Bool) (x0 : Int) (x1 : List Int) : Prop :=
  test (decide (x0 < (↑nl : Int)))
 (test (decide ((0 : Int) ≤ x0 ∧ x0 < (↑nl : Int)))
 (test (decide (Int.toNat x0 + al < ml))
 (test (tl (Int.toNat x0 + al))
 (test (decide (List.length x1 + 1 ≤ 1000000))
 (test (decide (List.length x1 ≤ List.length x1))
 (test (true)
 (test (lim IntKind.i64 (x0 + (1 : Int)))
 (Kst (hd Try.f48 0) ([PV.loose (PA.mk (0) (1) al (0)) nl,
 PV.ptr (PA.mk (1) (0) (0) (0)),
 PV.ptr (PA.mk (2) (0) (0) (0)),
 PV.int IntKind.i64 (x0 + (1 : Int))]) ([[(0, false, Blk.cols ml [Col.bool tl]),
 (2, true,
 Blk.cells
 [PV.int IntKind.i64 (↑nl : Int), PV.own (5) (1) (List.length x1 + 1)]),
 (1, true, Blk.cells [PV.int IntKind.i64 (0 : Int), PV.nils]),
 (5, true,
 Blk.cols (List.length x1 + 1)
 [Col.int IntKind.i64 fun (j : Nat) => bif Nat.blt j (List.length x1) then S.at' x1 j else x0])]]) (6))
 (False))
 (False))
 (False))
 (False))
 (test (lim IntKind.i64 (x0 + (1 : Int)))
 (Kst (hd Try.f48 0) ([PV.loose (PA.mk (0) (1) al (0)) nl,
 PV.ptr (PA.mk (1) (0) (0) (0)),
 PV.ptr (PA.mk (2) (0) (0) (0)),
 PV.int IntKind.i64 (x0 + (1 : Int))]) ([[(0, false, Blk.cols ml [Col.bool tl]),
 (2, true,
 Blk.cells [PV.int IntKind.i64 (↑nl : Int), PV.own (3) (1) (List.length x1)]),
 (1, true, Blk.cells [PV.int IntKind.i64 (0 : Int), PV.nils]),
 (3, true,
 Blk.cols (List.length x1) [Col.int IntKind.i64 fun (j : Nat) => S.at' x1 j])]]) (4))
 (False)))
 (False))
 (False))
 (Kret (PV.agg [PV.int IntKind.i64 (↑nl : Int), PV.own (3) (1) (List.length x1)]) ([[(0, false, Blk.cols ml [Col.bool tl]),
 (3, true,
 Blk.cols (List.length x1) [Col.int IntKind.i64 fun (j : Nat) => S.at' x1 j])]]) (4))
set_option maxRecDepth 100000 in
theorem t48_0 (test : Bool → Prop → Prop → Prop) (Kst : KS) (Kret : KR) (al nl ml : Nat) (tl : Nat → Bool) (x0 : Int) (x1 : List Int) : run test Try.env true noX true 400 ⟨48, hd Try.f48 0, zipT [0, 2, 3, 4] [PV.loose (PA.mk (0) (1) al (0)) nl,
 PV.ptr (PA.mk (1) (0) (0) (0)),
 PV.ptr (PA.mk (2) (0) (0) (0)), PV.int IntKind.i64 x0], [[(1, (true, Blk.cells [PV.int IntKind.i64 (0 : Int), PV.nils])), (2, (true, Blk.cells [PV.int IntKind.i64 (↑nl : Int), PV.own (3) (1) (List.length x1)])), (3, (true, Blk.cols (List.length x1) [Col.int IntKind.i64 fun (j : Nat) => S.at' x1 j]))], [(0, (false, .cols ml [.bool tl]))]], 4⟩ (proj 1 [0, 2, 3, 4] Kst Kret) =
  T48_0 test Kst Kret al nl ml tl x0 x1 := by kernel_rfl
attribute [local irreducible] Int.subNatNat in
set_option maxRecDepth 100000 in
theorem be48 (al nl ml : Nat) (tl : Nat → Bool) (Kst : KS) (Kret : KR) (x : St48 ⊕ Rt48) (hS : HS 1 400 ((I48 al nl ml tl)) Kst x) (hR : HR 1 400 ((V48 al nl ml tl)) (fun r => [newL (1 + 1) ((N48 al nl ml tl) r) ++ [(0, (false, .cols ml [.bool tl]))]]) Kret x) (h : (some (.inl (.h0 ((0 : Int)) ([]))) : Option (St48 ⊕ Rt48)) = some x) : Te48 cond Kst Kret al nl ml tl := by
  unfold Te48
  exact stop_at hS _ h (fun n => bif Nat.beq n 1 then 1 else bif Nat.beq n 2 then 2 else bif Nat.beq n 3 then 399 else n) rfl rfl rfl ⟨(rn_loose (use_lo rfl) rfl rfl rfl), ⟨(rn_ptr (use_own rfl) rfl rfl), ⟨(rn_ptr (use_own rfl) rfl rfl), ⟨(rn_int rfl), trivial⟩⟩⟩⟩ rfl (entl_b (use_own rfl) rfl (by simp) (rb_cells ⟨(rn_int rfl), rn_nils, trivial⟩) (entl_b (use_own rfl) rfl (by simp) (rb_cells ⟨(rn_int rfl), (rn_own_nils rfl), trivial⟩) (entl_fresh (use_own rfl) (fresh_ok rfl) (entl_bor (use_lo rfl) rfl rfl entl_nil))))
attribute [local irreducible] Int.subNatNat in
set_option maxRecDepth 100000 in
theorem b48_0 (al nl ml : Nat) (tl : Nat → Bool) (Kst : KS) (Kret : KR) (x : St48 ⊕ Rt48) (hS : HS 1 400 ((I48 al nl ml tl)) Kst x) (hR : HR 1 400 ((V48 al nl ml tl)) (fun r => [newL (1 + 1) ((N48 al nl ml tl) r) ++ [(0, (false, .cols ml [.bool tl]))]]) Kret x) (x0 : Int) (x1 : List Int) (h : (bif (decide (x0 < (↑nl : Int)))
 then (bif (decide ((0 : Int) ≤ x0 ∧ x0 < (↑nl : Int)))
 then (bif (decide (Int.toNat x0 + al < ml))
 then (bif (tl (Int.toNat x0 + al))
 then (bif (decide (List.length x1 + 1 ≤ 1000000))
 then (bif (decide (List.length x1 ≤ List.length x1))
 then (bif (lim IntKind.i64 (x0 + (1 : Int)))
 then (some (.inl (.h0 (x0 + (1 : Int)) (S.snoc x1 x0))))
 else (none))
 else (none))
 else (none))
 else (bif (lim IntKind.i64 (x0 + (1 : Int)))
 then (some (.inl (.h0 (x0 + (1 : Int)) (x1))))
 else (none)))
 else (none))
 else (none))
 else (some (.inr (x1))) : Option (St48 ⊕ Rt48)) = some x) : T48_0 cond Kst Kret al nl ml tl x0 x1 := by
  unfold T48_0
  exact bif_split h
   (fun c0 h => bif_split h
   (fun c1 h => bif_split h
   (fun c2 h => bif_split h
   (fun c3 h => bif_split h
   (fun c4 h => bif_split h
   (fun c5 h => cond_yes rfl (bif_split h
   (fun c6 h => stop_at hS _ h (fun n => bif Nat.beq n 1 then 1 else bif Nat.beq n 2 then 2 else bif Nat.beq n 3 then 5 else n) rfl rfl rfl ⟨(rn_loose (use_lo rfl) rfl rfl rfl), ⟨(rn_ptr (use_own rfl) rfl rfl), ⟨(rn_ptr (use_own rfl) rfl rfl), ⟨(rn_int rfl), trivial⟩⟩⟩⟩ rfl (entl_b (use_own rfl) rfl (by simp) (rb_cells ⟨(rn_int rfl), rn_nils, trivial⟩) (entl_b (use_own rfl) rfl (by simp) (rb_cells ⟨(rn_int rfl), (rn_own (use_own rfl) rfl (snoc_len' rfl)), trivial⟩) (entl_new (use_own rfl) rfl (Nat.le_of_eq (snoc_len' rfl)) (rcs_int (col_snoc' (fun (t : Int) => t) rfl (fun _ _ => rfl)) rcs_nil) (entl_bor (use_lo rfl) rfl rfl entl_nil)))))
   (fun c6 h => no_some h)))
   (fun c5 h => no_some h))
   (fun c4 h => no_some h))
   (fun c3 h => bif_split h
   (fun c4 h => stop_at hS _ h (fun n => bif Nat.beq n 1 then 1 else bif Nat.beq n 2 then 2 else bif Nat.beq n 3 then 3 else n) rfl rfl rfl ⟨(rn_loose (use_lo rfl) rfl rfl rfl), ⟨(rn_ptr (use_own rfl) rfl rfl), ⟨(rn_ptr (use_own rfl) rfl rfl), ⟨(rn_int rfl), trivial⟩⟩⟩⟩ rfl (entl_b (use_own rfl) rfl (by simp) (rb_cells ⟨(rn_int rfl), rn_nils, trivial⟩) (entl_b (use_own rfl) rfl (by simp) (rb_cells ⟨(rn_int rfl), (rn_own (use_own rfl) rfl rfl), trivial⟩) (entl_new (use_own rfl) rfl (Nat.le_of_eq rfl) (rcs_int (fun _ _ => rfl) rcs_nil) (entl_bor (use_lo rfl) rfl rfl entl_nil)))))
   (fun c4 h => no_some h)))
   (fun c2 h => no_some h))
   (fun c1 h => no_some h))
   (fun c0 h => ret_at hR _ h (fun n => bif Nat.beq n 2 then 3 else n) rfl rfl rfl (rn_agg ⟨(rn_int rfl), (rn_own (use_own rfl) rfl rfl), trivial⟩) rfl (entl_new (use_own rfl) rfl (Nat.le_of_eq rfl) (rcs_int (fun _ _ => rfl) rcs_nil) (entl_bor (use_lo rfl) rfl rfl entl_nil)))
theorem a48 (al nl ml : Nat) (tl : Nat → Bool) {r : Rt48} (h : Goes ((q48 al nl ml tl)) ((p48 al nl ml tl)) r) : CallR Try.prog 48 [.loose ⟨0, 1, al, 0⟩ nl] [[(0, (false, .cols ml [.bool tl]))]] 1 ((V48 al nl ml tl) r) ((fun r => [newL (1 + 1) ((N48 al nl ml tl) r) ++ [(0, (false, .cols ml [.bool tl]))]]) r) 400 ∧ ∃ F, Try.prog.funcs[48]? = some F ∧ F.body.isSome = true ∧ (F.name == "runtime.NumGoroutine") = false := by
  refine dec_calls (f := 48) (lo := 1) (hi := 400) (H := [[(0, (false, .cols ml [.bool tl]))]]) (args := [.loose ⟨0, 1, al, 0⟩ nl]) Try.envOk Try.mixed noX_ok ((I48 al nl ml tl)) ((V48 al nl ml tl)) (fun r => [newL (1 + 1) ((N48 al nl ml tl) r) ++ [(0, (false, .cols ml [.bool tl]))]]) (fn := mkFn Try.f48) (ts := [0, 2, 3, 4]) (n := 400) rfl (by decide) (by simp) (names_of rfl) ?_ ?_ ?_ h
  · intro s; cases s <;> exact ⟨hd_ok _ _, by simp [I48], names_of rfl, Nat.le_of_ble_eq_true rfl⟩
  · intro Kst Kret x hS hR h
    exact Holds.eq (te48 cond Kst Kret al nl ml tl) (be48 al nl ml tl Kst Kret x hS hR h)
  · intro Kst Kret x hS hR s h
    cases s with
    | h0 x0 x1 => exact Holds.eq (t48_0 cond Kst Kret al nl ml tl x0 x1) (b48_0 al nl ml tl Kst Kret x hS hR x0 x1 h)
noncomputable def k48 : Con := ⟨48, [.one (.list [.bool])], fun (x : (Nat × Nat × Nat × (Nat → Bool) × Unit) × Unit) => (fun (al nl ml : Nat) (tl : Nat → Bool) => decide (al + nl ≤ ml ∧ nl ≤ 999999)) x.1.1 x.1.2.1 x.1.2.2.1 x.1.2.2.2.1, fun (x : (Nat × Nat × Nat × (Nat → Bool) × Unit) × Unit) => (fun (al nl ml : Nat) (tl : Nat → Bool) => (V48 al nl ml tl) (S.posP (fun j => tl (j + al)) nl)) x.1.1 x.1.2.1 x.1.2.2.1 x.1.2.2.2.1, fun (x : (Nat × Nat × Nat × (Nat → Bool) × Unit) × Unit) => (fun (al nl ml : Nat) (tl : Nat → Bool) => (N48 al nl ml tl) (S.posP (fun j => tl (j + al)) nl)) x.1.1 x.1.2.1 x.1.2.2.1 x.1.2.2.2.1, fun _ _ => .dead⟩
theorem s48' (al nl ml : Nat) (tl : Nat → Bool) (hp : al + nl ≤ ml ∧ nl ≤ 999999) : ∀ (k i : Nat) (L : List Int), i + k = nl → Holds (L = S.posP (fun j => tl (j + al)) i) → Comes (q48 al nl ml tl) (.h0 (i : Int) L) (S.posP (fun j => tl (j + al)) nl) := by
  obtain ⟨hp1, hp2⟩ := hp
  intro k
  induction k with
  | zero =>
    intro i L hi eL
    have hL : L.length ≤ i := by rw [eL.get]; exact posP_len
    apply Comes.of
    show Goes _ _ _
    (first | rw [q48] | unfold q48)
    repeat' first
      | with_reducible refine goes_if (fun h => ?_) (fun h => ?_) <;> (try simp only [lim64, imp_false, decide_eq_true_eq, decide_eq_false_iff_not, Int.toNat_natCast, toNat_pred, toNat_succ, Option.getD_some, Option.getD_none, Bool.not_eq_true', Bool.not_eq_false', Bool.and_eq_true, Bool.or_eq_true, Bool.and_eq_false_iff, Bool.or_eq_false_iff, bne_iff_ne, beq_iff_eq, bne_eq_false_iff_eq, beq_eq_false_iff_ne, ne_eq, not_and, Int.not_le, Int.not_lt, ge_iff_le, gt_iff_lt, Nat.not_lt, Nat.not_le, Bool.not_eq_true, Bool.not_eq_false, Bool.true_eq_false, Bool.false_eq_true, not_false_eq_true, not_true_eq_false] at h)
      | exact goes_none.mpr (by omega)
    all_goals first | (exfalso; omega) | (obtain rfl : nl = i := (by omega);  exact goes_inr.mpr eL.get)
  | succ k ih =>
    intro i L hi eL
    have hL : L.length ≤ i := by rw [eL.get]; exact posP_len
    apply Comes.of
    show Goes _ _ _
    (first | rw [q48] | unfold q48)
    repeat' first
      | with_reducible refine goes_if (fun h => ?_) (fun h => ?_) <;> (try simp only [lim64, imp_false, decide_eq_true_eq, decide_eq_false_iff_not, Int.toNat_natCast, toNat_pred, toNat_succ, Option.getD_some, Option.getD_none, Bool.not_eq_true', Bool.not_eq_false', Bool.and_eq_true, Bool.or_eq_true, Bool.and_eq_false_iff, Bool.or_eq_false_iff, bne_iff_ne, beq_iff_eq, bne_eq_false_iff_eq, beq_eq_false_iff_ne, ne_eq, not_and, Int.not_le, Int.not_lt, ge_iff_le, gt_iff_lt, Nat.not_lt, Nat.not_le, Bool.not_eq_true, Bool.not_eq_false, Bool.true_eq_false, Bool.false_eq_true, not_false_eq_true, not_true_eq_false] at h)
      | exact goes_none.mpr (by omega)
    all_goals first
      | (exfalso; omega)
      | (refine ih (i + 1) _ (by omega) ⟨?_⟩; simp only [S.posP]; first | (rw [if_pos (by assumption), eL.get]) | (rw [if_neg (by simp only [Bool.not_eq_true]; assumption), eL.get]))
      | (refine ih (i + 1) _ (by omega) ⟨?_⟩ <;> (skip))
theorem s48 (al nl ml : Nat) (tl : Nat → Bool) (hp : al + nl ≤ ml ∧ nl ≤ 999999) : Goes ((q48 al nl ml tl)) ((p48 al nl ml tl)) (S.posP (fun j => tl (j + al)) nl) := by
  exact s48' al nl ml tl hp nl 0 [] (by omega) ⟨rfl⟩

theorem k48_ok : k48.ok Try.prog := by
  intro x hx
  obtain ⟨⟨al, nl, ml, tl, _⟩, _⟩ := x
  obtain ⟨h1, h2⟩ := a48 al nl ml tl (s48 al nl ml tl (of_dec hx rfl))
  exact ⟨⟨400, (by decide : 1 + 1 + 1 ≤ 400), h1⟩, h2⟩

end Go.Ev
