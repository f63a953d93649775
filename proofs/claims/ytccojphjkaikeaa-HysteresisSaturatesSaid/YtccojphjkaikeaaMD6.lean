/-
  The inputs of bytes.
-/
import Derived.Test.YtccojphjkaikeaaMD5
namespace Go.Ev
open Go.Proofs
set_option linter.unusedVariables false
set_option linter.unusedSimpArgs false
set_option maxRecDepth 100000
noncomputable def yD6 (test : Bool → Prop → Prop → Prop) : Ext := consX test []
theorem yD6_ok : ExtOk Try.prog (yD6 cond) := consX_ok (l := []) trivial
inductive St31 where
  | h0 (x0 : Int) (x1 : List Int)
abbrev Rt31 := List Int
noncomputable def V31 (al nl ml : Nat) (tl : Nat → Int) (r : Rt31) : PV := PV.own (2) (1) (List.length r)
noncomputable def N31 (al nl ml : Nat) (tl : Nat → Int) (r : Rt31) : List Blk := [Blk.cols (List.length r) [Col.int IntKind.i64 fun (j : Nat) => S.at' r j]]
noncomputable def I31 (al nl ml : Nat) (tl : Nat → Int) : St31 → Hd
  | .h0 x0 x1 => ⟨hd Try.f31 0, [PV.loose (PA.mk (0) (1) al (0)) nl,
 PV.own (1) (1) (List.length x1), PV.int IntKind.i64 x0], [[(1, (true, Blk.cols (List.length x1) [Col.int IntKind.i64 fun (j : Nat) => S.at' x1 j]))], [(0, (false, .cols ml [.int .u8 tl]))]], 2⟩
noncomputable def q31 (al nl ml : Nat) (tl : Nat → Int) : St31 → Option (St31 ⊕ Rt31)
  | .h0 x0 x1 => bif (decide (x0 < (↑nl : Int)))
 then (bif (decide ((0 : Int) ≤ x0 ∧ x0 < (↑nl : Int)))
 then (bif (decide (Int.toNat x0 + al < ml))
 then (bif (lim IntKind.i64 (Int.tmod (tl (Int.toNat x0 + al)) (64 : Int)))
 then (bif (lim IntKind.i64 (Int.tmod (tl (Int.toNat x0 + al)) (64 : Int) - (4 : Int)))
 then (bif (decide (List.length x1 + 1 ≤ 1000000))
 then (bif (decide (List.length x1 ≤ List.length x1))
 then (bif (lim IntKind.i64 (x0 + (1 : Int)))
 then (some (.inl (.h0 (x0 + (1 : Int)) (S.snoc x1 (Int.tmod (tl (Int.toNat x0 + al)) (64 : Int) - (4 : Int))))))
 else (none))
 else (none))
 else (none))
 else (none))
 else (none))
 else (none))
 else (none))
 else (some (.inr (x1)))
noncomputable def p31 (al nl ml : Nat) (tl : Nat → Int) : Option (St31 ⊕ Rt31) := some (.inl (.h0 ((0 : Int)) ([])))
noncomputable def Te31 (test : Bool → Prop → Prop → Prop) (Kst : KS) (Kret : KR) (al nl ml : Nat) (tl : Nat → Int) : Prop :=
  Kst (hd Try.f31 0) ([PV.loose (PA.mk (0) (1) al (0)) nl, PV.nils,
 PV.int IntKind.i64 (0 : Int)]) ([[(0, false, Blk.cols ml [Col.int IntKind.u8 tl])]]) (1)
set_option maxRecDepth 100000 in
theorem te31 (test : Bool → Prop → Prop → Prop) (Kst : KS) (Kret : KR) (al nl ml : Nat) (tl : Nat → Int) : run test Try.env true (yD6 test) true 400 ⟨31, [.cd (mkFn Try.f31).body], argT 0 [.loose ⟨0, 1, al, 0⟩ nl], [[], [(0, (false, .cols ml [.int .u8 tl]))]], 1⟩ (proj 1 [0, 3, 4] Kst Kret) =
  Te31 test Kst Kret al nl ml tl := by kernel_rfl
noncomputable def T31_0 (test : Bool → Prop → Prop → Prop) (Kst : KS) (Kret : KR) (al nl ml : Nat) (tl : Nat → Int) (x0 : Int) (x1 : List Int) : Prop :=
  test (decide (x0 < (↑nl : Int)))
 (test (decide ((0 : Int) ≤ x0 ∧ x0 < (↑nl : Int)))
 (test (decide (Int.toNat x0 + al < ml))
 (test (false)
 (False)
 (test (lim IntKind.i64 (Int.tmod (tl (Int.toNat x0 + al)) (64 : Int)))
 (test (lim IntKind.i64 (Int.tmod (tl (Int.toNat x0 + al)) (64 : Int) - (4 : Int)))
 (test (decide (List.length x1 + 1 ≤ 1000000))
 (test (decide (List.length x1 ≤ List.length x1))
 (test (true)
 (test (lim IntKind.i64 (x0 + (1 : Int)))
 (Kst (hd Try.f31 0) ([PV.loose (PA.mk (0) (1) al (0)) nl,
 PV.own (3) (1) (List.length x1 + 1), PV.int IntKind.i64 (x0 + (1 : Int))]) ([[(0, false, Blk.cols ml [Col.int IntKind.u8 tl]),
 (3, true,
 Blk.cols (List.length x1 + 1)
 [Col.int IntKind.i64 fun (j : Nat) =>
 bif Nat.blt j (List.length x1) then S.at' x1 j
 else Int.tmod (tl (Int.toNat x0 + al)) (64 : Int) - (4 : Int)])]]) (4))
 (False))
 (False))
 (False))
 (False))
 (False))
 (False)))
 (False))
 (False))
 (Kret (PV.own (1) (1) (List.length x1)) ([[(0, false, Blk.cols ml [Col.int IntKind.u8 tl]),
 (1, true,
 Blk.cols (List.length x1) [Col.int IntKind.i64 fun (j : Nat) => S.at' x1 j])]]) (2))
set_option maxRecDepth 100000 in
theorem t31_0 (test : Bool → Prop → Prop → Prop) (Kst : KS) (Kret : KR) (al nl ml : Nat) (tl : Nat → Int) (x0 : Int) (x1 : List Int) : run test Try.env true (yD6 test) true 400 ⟨31, hd Try.f31 0, zipT [0, 3, 4] [PV.loose (PA.mk (0) (1) al (0)) nl,
 PV.own (1) (1) (List.length x1), PV.int IntKind.i64 x0], [[(1, (true, Blk.cols (List.length x1) [Col.int IntKind.i64 fun (j : Nat) => S.at' x1 j]))], [(0, (false, .cols ml [.int .u8 tl]))]], 2⟩ (proj 1 [0, 3, 4] Kst Kret) =
  T31_0 test Kst Kret al nl ml tl x0 x1 := by kernel_rfl
set_option maxRecDepth 100000 in
theorem be31 (al nl ml : Nat) (tl : Nat → Int) (Kst : KS) (Kret : KR) (x : St31 ⊕ Rt31) (hS : HS 1 400 ((I31 al nl ml tl)) Kst x) (hR : HR 1 400 ((V31 al nl ml tl)) (fun r => [newL (1 + 1) ((N31 al nl ml tl) r) ++ [(0, (false, .cols ml [.int .u8 tl]))]]) Kret x) (h : (some (.inl (.h0 ((0 : Int)) ([]))) : Option (St31 ⊕ Rt31)) = some x) : Te31 cond Kst Kret al nl ml tl := by
  unfold Te31
  exact stop_at hS _ h (fun n => bif Nat.beq n 1 then 399 else n) rfl rfl rfl ⟨(rn_loose (use_lo rfl) rfl rfl rfl), ⟨(rn_own_nils rfl), ⟨(rn_int rfl), trivial⟩⟩⟩ rfl (entl_fresh (use_own rfl) (fresh_ok rfl) (entl_bor (use_lo rfl) rfl rfl entl_nil))
set_option maxRecDepth 100000 in
theorem b31_0 (al nl ml : Nat) (tl : Nat → Int) (Kst : KS) (Kret : KR) (x : St31 ⊕ Rt31) (hS : HS 1 400 ((I31 al nl ml tl)) Kst x) (hR : HR 1 400 ((V31 al nl ml tl)) (fun r => [newL (1 + 1) ((N31 al nl ml tl) r) ++ [(0, (false, .cols ml [.int .u8 tl]))]]) Kret x) (x0 : Int) (x1 : List Int) (h : (bif (decide (x0 < (↑nl : Int)))
 then (bif (decide ((0 : Int) ≤ x0 ∧ x0 < (↑nl : Int)))
 then (bif (decide (Int.toNat x0 + al < ml))
 then (bif (lim IntKind.i64 (Int.tmod (tl (Int.toNat x0 + al)) (64 : Int)))
 then (bif (lim IntKind.i64 (Int.tmod (tl (Int.toNat x0 + al)) (64 : Int) - (4 : Int)))
 then (bif (decide (List.length x1 + 1 ≤ 1000000))
 then (bif (decide (List.length x1 ≤ List.length x1))
 then (bif (lim IntKind.i64 (x0 + (1 : Int)))
 then (some (.inl (.h0 (x0 + (1 : Int)) (S.snoc x1 (Int.tmod (tl (Int.toNat x0 + al)) (64 : Int) - (4 : Int))))))
 else (none))
 else (none))
 else (none))
 else (none))
 else (none))
 else (none))
 else (none))
 else (some (.inr (x1))) : Option (St31 ⊕ Rt31)) = some x) : T31_0 cond Kst Kret al nl ml tl x0 x1 := by
  unfold T31_0
  exact bif_split h
   (fun c0 h => bif_split h
   (fun c1 h => bif_split h
   (fun c2 h => cond_no rfl (bif_split h
   (fun c3 h => bif_split h
   (fun c4 h => bif_split h
   (fun c5 h => bif_split h
   (fun c6 h => cond_yes rfl (bif_split h
   (fun c7 h => stop_at hS _ h (fun n => bif Nat.beq n 1 then 3 else n) rfl rfl rfl ⟨(rn_loose (use_lo rfl) rfl rfl rfl), ⟨(rn_own (use_own rfl) rfl (snoc_len' rfl)), ⟨(rn_int rfl), trivial⟩⟩⟩ rfl (entl_new (use_own rfl) rfl (Nat.le_of_eq (snoc_len' rfl)) (rcs_int (col_snoc' (fun (t : Int) => t) rfl (fun _ _ => rfl)) rcs_nil) (entl_bor (use_lo rfl) rfl rfl entl_nil)))
   (fun c7 h => no_some h)))
   (fun c6 h => no_some h))
   (fun c5 h => no_some h))
   (fun c4 h => no_some h))
   (fun c3 h => no_some h)))
   (fun c2 h => no_some h))
   (fun c1 h => no_some h))
   (fun c0 h => ret_at hR _ h (fun n => bif Nat.beq n 2 then 1 else n) rfl rfl rfl (rn_own (use_own rfl) rfl rfl) rfl (entl_new (use_own rfl) rfl (Nat.le_of_eq rfl) (rcs_int (fun _ _ => rfl) rcs_nil) (entl_bor (use_lo rfl) rfl rfl entl_nil)))
theorem a31 (al nl ml : Nat) (tl : Nat → Int) {r : Rt31} (h : Goes ((q31 al nl ml tl)) ((p31 al nl ml tl)) r) : CallR Try.prog 31 [.loose ⟨0, 1, al, 0⟩ nl] [[(0, (false, .cols ml [.int .u8 tl]))]] 1 ((V31 al nl ml tl) r) ((fun r => [newL (1 + 1) ((N31 al nl ml tl) r) ++ [(0, (false, .cols ml [.int .u8 tl]))]]) r) 400 ∧ ∃ F, Try.prog.funcs[31]? = some F ∧ F.body.isSome = true ∧ (F.name == "runtime.NumGoroutine") = false := by
  refine dec_calls (f := 31) (lo := 1) (hi := 400) (H := [[(0, (false, .cols ml [.int .u8 tl]))]]) (args := [.loose ⟨0, 1, al, 0⟩ nl]) Try.envOk Try.mixed yD6_ok ((I31 al nl ml tl)) ((V31 al nl ml tl)) (fun r => [newL (1 + 1) ((N31 al nl ml tl) r) ++ [(0, (false, .cols ml [.int .u8 tl]))]]) (fn := mkFn Try.f31) (ts := [0, 3, 4]) (n := 400) rfl (by decide) (by simp) (names_of rfl) ?_ ?_ ?_ h
  · intro s; cases s <;> exact ⟨hd_ok _ _, by simp [I31], names_of rfl, Nat.le_of_ble_eq_true rfl⟩
  · intro Kst Kret x hS hR h
    exact Holds.eq (te31 cond Kst Kret al nl ml tl) (be31 al nl ml tl Kst Kret x hS hR h)
  · intro Kst Kret x hS hR s h
    cases s with
    | h0 x0 x1 => exact Holds.eq (t31_0 cond Kst Kret al nl ml tl x0 x1) (b31_0 al nl ml tl Kst Kret x hS hR x0 x1 h)
noncomputable def k31 : Con := ⟨31, [.one (.list [.int .u8])], fun (x : (Nat × Nat × Nat × (Nat → Int) × Unit) × Unit) => (fun (al nl ml : Nat) (tl : Nat → Int) => decide (al + nl ≤ ml ∧ nl ≤ 999999 ∧ S.bytes nl (fun j => tl (j + al)) = true)) x.1.1 x.1.2.1 x.1.2.2.1 x.1.2.2.2.1, fun (x : (Nat × Nat × Nat × (Nat → Int) × Unit) × Unit) => (fun (al nl ml : Nat) (tl : Nat → Int) => (V31 al nl ml tl) (S.mkl nl fun j => S.inp (tl (j + al)))) x.1.1 x.1.2.1 x.1.2.2.1 x.1.2.2.2.1, fun (x : (Nat × Nat × Nat × (Nat → Int) × Unit) × Unit) => (fun (al nl ml : Nat) (tl : Nat → Int) => (N31 al nl ml tl) (S.mkl nl fun j => S.inp (tl (j + al)))) x.1.1 x.1.2.1 x.1.2.2.1 x.1.2.2.2.1, fun _ _ => .dead⟩
theorem s31' (al nl ml : Nat) (tl : Nat → Int) (hp : al + nl ≤ ml ∧ nl ≤ 999999 ∧ S.bytes nl (fun j => tl (j + al)) = true) : ∀ (k i : Nat) (L : List Int), i + k = nl → Holds (L = S.mkl i fun j => S.inp (tl (j + al))) → Comes (q31 al nl ml tl) (.h0 (i : Int) L) (S.mkl nl fun j => S.inp (tl (j + al))) := by
  obtain ⟨hp1, hp2, hp3⟩ := hp
  intro k
  induction k with
  | zero =>
    intro i L hi eL
    have hL : L.length = i := by rw [eL.get]; exact mkl_len
    apply Comes.of
    show Goes _ _ _
    unfold q31
    repeat' first
      | with_reducible refine goes_if (fun h => ?_) (fun h => ?_) <;> (try simp only [lim64, decide_eq_true_eq, decide_eq_false_iff_not, Int.toNat_natCast, toNat_pred, toNat_succ, Option.getD_some, Option.getD_none, Bool.not_eq_true', Bool.not_eq_false', Bool.and_eq_true, Bool.or_eq_true, Bool.and_eq_false_iff, Bool.or_eq_false_iff, bne_iff_ne, beq_iff_eq, bne_eq_false_iff_eq, beq_eq_false_iff_ne, ne_eq, not_and, Int.not_le, Int.not_lt, ge_iff_le, gt_iff_lt, Nat.not_lt, Nat.not_le, Bool.not_eq_true, Bool.not_eq_false, Bool.true_eq_false, Bool.false_eq_true, not_false_eq_true, not_true_eq_false] at h)
      | exact goes_none.mpr (by omega)
    all_goals first | (exfalso; omega) | (obtain rfl : nl = i := (by omega);  exact goes_inr.mpr eL.get)
  | succ k ih =>
    intro i L hi eL
    have hL : L.length = i := by rw [eL.get]; exact mkl_len
    have b1 := of_decide_eq_true hp3 i (by omega)
    simp only at b1
    have c1 := byte_div b1
    apply Comes.of
    show Goes _ _ _
    unfold q31
    repeat' first
      | with_reducible refine goes_if (fun h => ?_) (fun h => ?_) <;> (try simp only [lim64, decide_eq_true_eq, decide_eq_false_iff_not, Int.toNat_natCast, toNat_pred, toNat_succ, Option.getD_some, Option.getD_none, Bool.not_eq_true', Bool.not_eq_false', Bool.and_eq_true, Bool.or_eq_true, Bool.and_eq_false_iff, Bool.or_eq_false_iff, bne_iff_ne, beq_iff_eq, bne_eq_false_iff_eq, beq_eq_false_iff_ne, ne_eq, not_and, Int.not_le, Int.not_lt, ge_iff_le, gt_iff_lt, Nat.not_lt, Nat.not_le, Bool.not_eq_true, Bool.not_eq_false, Bool.true_eq_false, Bool.false_eq_true, not_false_eq_true, not_true_eq_false] at h)
      | exact goes_none.mpr (by omega)
    all_goals first
      | (exfalso; omega)
      | (refine ih (i + 1) _ (by omega) ⟨?_⟩; rw [eL.get, mkl_succ]; rfl)
      | (refine ih (i + 1) _ (by omega) ⟨?_⟩ <;> (skip))
theorem s31 (al nl ml : Nat) (tl : Nat → Int) (hp : al + nl ≤ ml ∧ nl ≤ 999999 ∧ S.bytes nl (fun j => tl (j + al)) = true) : Goes ((q31 al nl ml tl)) ((p31 al nl ml tl)) (S.mkl nl fun j => S.inp (tl (j + al))) := by
  exact s31' al nl ml tl hp nl 0 [] (by omega) ⟨rfl⟩

theorem k31_ok : k31.ok Try.prog := by
  intro x hx
  obtain ⟨⟨al, nl, ml, tl, _⟩, _⟩ := x
  obtain ⟨h1, h2⟩ := a31 al nl ml tl (s31 al nl ml tl (of_decide_eq_true hx))
  exact ⟨⟨400, (by decide : 1 + 1 + 1 ≤ 400), h1⟩, h2⟩


end Go.Ev
