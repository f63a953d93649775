/-
  Lists: reversed.
-/
import Derived.Test.YtccojphjkaikeaaML0
namespace Go.Ev
open Go.Proofs
set_option linter.unusedVariables false
set_option linter.unusedSimpArgs false
set_option maxRecDepth 100000
inductive St48 where
  | h0 (x0 : Int) (x1 : Int) (x2 : List Int)
abbrev Rt48 := List Int
noncomputable def V48 (nl ml : Nat) (tl : Nat → Int) (r : Rt48) : PV := PV.tup []
noncomputable def N48 (nl ml : Nat) (tl : Nat → Int) (r : Rt48) : List Blk := []
noncomputable def W48 (nl ml : Nat) (tl : Nat → Int) (r : Rt48) : Nat → Blk := fun n => bif Nat.beq n 0 then Blk.cols (List.length r) [Col.int IntKind.i64 fun (j : Nat) => S.at' r j] else .dead
noncomputable def I48 (nl ml : Nat) (tl : Nat → Int) : St48 → Hd
  | .h0 x0 x1 x2 => ⟨hd Try.f48 0, [PV.own (0) (1) (List.length x2), PV.int IntKind.i64 x0, PV.int IntKind.i64 x1], [[], [(0, (true, Blk.cols (List.length x2) [Col.int IntKind.i64 fun (j : Nat) => S.at' x2 j]))]], 1⟩
noncomputable def q48 (nl ml : Nat) (tl : Nat → Int) : St48 → Option (St48 ⊕ Rt48)
  | .h0 x0 x1 x2 => bif (decide (x0 < x1))
 then (bif (decide ((0 : Int) ≤ x1 ∧ x1 < (↑(List.length x2) : Int)))
 then (bif (decide (Int.toNat x1 < List.length x2))
 then (bif (decide ((0 : Int) ≤ x0 ∧ x0 < (↑(List.length x2) : Int)))
 then (bif (decide (Int.toNat x0 < List.length x2))
 then (bif (lim IntKind.i64 (x0 + (1 : Int)))
 then (bif (lim IntKind.i64 (x1 - (1 : Int)))
 then (some (.inl (.h0 (x0 + (1 : Int)) (x1 - (1 : Int)) (S.mkl (List.length x2) fun (j : Nat) =>
 bif Nat.beq j (Int.toNat x1) then S.at' x2 (Int.toNat x0)
 else bif Nat.beq j (Int.toNat x0) then S.at' x2 (Int.toNat x1) else S.at' x2 j))))
 else (none))
 else (none))
 else (none))
 else (none))
 else (none))
 else (none))
 else (some (.inr (x2)))
noncomputable def p48 (nl ml : Nat) (tl : Nat → Int) : Option (St48 ⊕ Rt48) := bif (lim IntKind.i64 ((↑nl : Int) - (1 : Int)))
 then (some (.inl (.h0 ((0 : Int)) ((↑nl : Int) - (1 : Int)) (S.mkl nl fun (j : Nat) => tl j))))
 else (none)
noncomputable def Te48 (test : Bool → Prop → Prop → Prop) (Kst : KS) (Kret : KR) (nl ml : Nat) (tl : Nat → Int) : Prop :=
  test (lim IntKind.i64 ((↑nl : Int) - (1 : Int)))
 (Kst (hd Try.f48 0) ([PV.own (0) (1) nl, PV.int IntKind.i64 (0 : Int),
 PV.int IntKind.i64 ((↑nl : Int) - (1 : Int))]) ([[(0, true, Blk.cols nl [Col.int IntKind.i64 tl])]]) (1))
 (False)
set_option maxRecDepth 100000 in
theorem te48 (test : Bool → Prop → Prop → Prop) (Kst : KS) (Kret : KR) (nl ml : Nat) (tl : Nat → Int) : run test Try.env true noX true 400 ⟨48, [.cd (mkFn Try.f48).body], argT 0 [.own 0 1 nl], [[], [(0, (true, .cols nl [.int .i64 tl]))]], 1⟩ (proj 1 [0, 2, 3] Kst Kret) =
  Te48 test Kst Kret nl ml tl := by kernel_rfl
noncomputable def T48_0 (test : Bool → Prop → Prop → Prop) (Kst : KS) (Kret : KR) (nl ml : Nat) (tl : Nat → Int) (x0 : Int) (x1 : Int) (x2 : List Int) : Prop :=
  test (decide (x0 < x1))
 (test (decide ((0 : Int) ≤ x1 ∧ x1 < (↑(List.length x2) : Int)))
 (test (decide (Int.toNat x1 < List.length x2))
 (test (decide ((0 : Int) ≤ x0 ∧ x0 < (↑(List.length x2) : Int)))
 (test (decide (Int.toNat x0 < List.length x2))
 (test (decide ((0 : Int) ≤ x0 ∧ x0 < (↑(List.length x2) : Int)))
 (test (decide (Int.toNat x0 < List.length x2))
 (test (decide ((0 : Int) ≤ x1 ∧ x1 < (↑(List.length x2) : Int)))
 (test (decide (Int.toNat x1 < List.length x2))
 (test (lim IntKind.i64 (x0 + (1 : Int)))
 (test (lim IntKind.i64 (x1 - (1 : Int)))
 (Kst (hd Try.f48 0) ([PV.own (0) (1) (List.length x2), PV.int IntKind.i64 (x0 + (1 : Int)),
 PV.int IntKind.i64 (x1 - (1 : Int))]) ([[(0, true,
 Blk.cols (List.length x2)
 [Col.int IntKind.i64 fun (j : Nat) =>
 bif Nat.beq j (Int.toNat x1) then S.at' x2 (Int.toNat x0)
 else bif Nat.beq j (Int.toNat x0) then S.at' x2 (Int.toNat x1) else S.at' x2 j])]]) (1))
 (False))
 (False))
 (False))
 (False))
 (False))
 (False))
 (False))
 (False))
 (False))
 (False))
 (Kret (PV.tup []) ([[(0, true,
 Blk.cols (List.length x2) [Col.int IntKind.i64 fun (j : Nat) => S.at' x2 j])]]) (1))
set_option maxRecDepth 100000 in
theorem t48_0 (test : Bool → Prop → Prop → Prop) (Kst : KS) (Kret : KR) (nl ml : Nat) (tl : Nat → Int) (x0 : Int) (x1 : Int) (x2 : List Int) : run test Try.env true noX true 400 ⟨48, hd Try.f48 0, zipT [0, 2, 3] [PV.own (0) (1) (List.length x2), PV.int IntKind.i64 x0, PV.int IntKind.i64 x1], [[], [(0, (true, Blk.cols (List.length x2) [Col.int IntKind.i64 fun (j : Nat) => S.at' x2 j]))]], 1⟩ (proj 1 [0, 2, 3] Kst Kret) =
  T48_0 test Kst Kret nl ml tl x0 x1 x2 := by kernel_rfl
set_option maxRecDepth 100000 in
theorem be48 (nl ml : Nat) (tl : Nat → Int) (Kst : KS) (Kret : KR) (x : St48 ⊕ Rt48) (hS : HS 1 400 ((I48 nl ml tl)) Kst x) (hR : HR 1 400 ((V48 nl ml tl)) (fun r => [newL (1 + 1) ((N48 nl ml tl) r) ++ [(0, (true, ((W48 nl ml tl) r 0)))]]) Kret x) (h : (bif (lim IntKind.i64 ((↑nl : Int) - (1 : Int)))
 then (some (.inl (.h0 ((0 : Int)) ((↑nl : Int) - (1 : Int)) (S.mkl nl fun (j : Nat) => tl j))))
 else (none) : Option (St48 ⊕ Rt48)) = some x) : Te48 cond Kst Kret nl ml tl := by
  unfold Te48
  exact bif_split h
   (fun c0 h => stop_at hS _ h (fun n => n) rfl rfl rfl ⟨(rn_own (use_lo rfl) rfl mkl_len), ⟨(rn_int rfl), ⟨(rn_int rfl), trivial⟩⟩⟩ rfl (entl_new (use_lo rfl) rfl (Nat.le_of_eq mkl_len) (rcs_int (fun _ hj => col_mkl (fun (t : Int) => t) hj) rcs_nil) entl_nil))
   (fun c0 h => no_some h)
set_option maxRecDepth 100000 in
theorem b48_0 (nl ml : Nat) (tl : Nat → Int) (Kst : KS) (Kret : KR) (x : St48 ⊕ Rt48) (hS : HS 1 400 ((I48 nl ml tl)) Kst x) (hR : HR 1 400 ((V48 nl ml tl)) (fun r => [newL (1 + 1) ((N48 nl ml tl) r) ++ [(0, (true, ((W48 nl ml tl) r 0)))]]) Kret x) (x0 : Int) (x1 : Int) (x2 : List Int) (h : (bif (decide (x0 < x1))
 then (bif (decide ((0 : Int) ≤ x1 ∧ x1 < (↑(List.length x2) : Int)))
 then (bif (decide (Int.toNat x1 < List.length x2))
 then (bif (decide ((0 : Int) ≤ x0 ∧ x0 < (↑(List.length x2) : Int)))
 then (bif (decide (Int.toNat x0 < List.length x2))
 then (bif (lim IntKind.i64 (x0 + (1 : Int)))
 then (bif (lim IntKind.i64 (x1 - (1 : Int)))
 then (some (.inl (.h0 (x0 + (1 : Int)) (x1 - (1 : Int)) (S.mkl (List.length x2) fun (j : Nat) =>
 bif Nat.beq j (Int.toNat x1) then S.at' x2 (Int.toNat x0)
 else bif Nat.beq j (Int.toNat x0) then S.at' x2 (Int.toNat x1) else S.at' x2 j))))
 else (none))
 else (none))
 else (none))
 else (none))
 else (none))
 else (none))
 else (some (.inr (x2))) : Option (St48 ⊕ Rt48)) = some x) : T48_0 cond Kst Kret nl ml tl x0 x1 x2 := by
  unfold T48_0
  exact bif_split h
   (fun c0 h => bif_split h
   (fun c1 h => bif_split h
   (fun c2 h => bif_split h
   (fun c3 h => bif_split h
   (fun c4 h => cond_yes c3 (cond_yes c4 (cond_yes c1 (cond_yes c2 (bif_split h
   (fun c5 h => bif_split h
   (fun c6 h => stop_at hS _ h (fun n => n) rfl rfl rfl ⟨(rn_own (use_lo rfl) rfl mkl_len), ⟨(rn_int rfl), ⟨(rn_int rfl), trivial⟩⟩⟩ rfl (entl_new (use_lo rfl) rfl (Nat.le_of_eq mkl_len) (rcs_int (fun _ hj => col_mkl (fun (t : Int) => t) hj) rcs_nil) entl_nil))
   (fun c6 h => no_some h))
   (fun c5 h => no_some h))))))
   (fun c4 h => no_some h))
   (fun c3 h => no_some h))
   (fun c2 h => no_some h))
   (fun c1 h => no_some h))
   (fun c0 h => ret_at hR _ h (fun n => n) rfl rfl rfl (rn_tup trivial) rfl (entl_new (use_lo rfl) rfl (Nat.le_of_eq rfl) (rcs_int (fun _ _ => rfl) rcs_nil) entl_nil))
theorem a48 (nl ml : Nat) (tl : Nat → Int) {r : Rt48} (h : Goes ((q48 nl ml tl)) ((p48 nl ml tl)) r) : CallR Try.prog 48 [.own 0 1 nl] [[(0, (true, .cols nl [.int .i64 tl]))]] 1 ((V48 nl ml tl) r) ((fun r => [newL (1 + 1) ((N48 nl ml tl) r) ++ [(0, (true, ((W48 nl ml tl) r 0)))]]) r) 400 ∧ ∃ F, Try.prog.funcs[48]? = some F ∧ F.body.isSome = true ∧ (F.name == "runtime.NumGoroutine") = false := by
  refine dec_calls (f := 48) (lo := 1) (hi := 400) (H := [[(0, (true, .cols nl [.int .i64 tl]))]]) (args := [.own 0 1 nl]) Try.envOk Try.mixed noX_ok ((I48 nl ml tl)) ((V48 nl ml tl)) (fun r => [newL (1 + 1) ((N48 nl ml tl) r) ++ [(0, (true, ((W48 nl ml tl) r 0)))]]) (fn := mkFn Try.f48) (ts := [0, 2, 3]) (n := 400) rfl (by decide) (by simp) (names_of rfl) ?_ ?_ ?_ h
  · intro s; cases s <;> exact ⟨hd_ok _ _, by simp [I48], names_of rfl, Nat.le_of_ble_eq_true rfl⟩
  · intro Kst Kret x hS hR h
    exact Holds.eq (te48 cond Kst Kret nl ml tl) (be48 nl ml tl Kst Kret x hS hR h)
  · intro Kst Kret x hS hR s h
    cases s with
    | h0 x0 x1 x2 => exact Holds.eq (t48_0 cond Kst Kret nl ml tl x0 x1 x2) (b48_0 nl ml tl Kst Kret x hS hR x0 x1 x2 h)
noncomputable def k48 : Con := ⟨48, [.one (.own [.int .i64])], fun (x : (Nat × Nat × (Nat → Int) × Unit) × Unit) => (fun (nl ml : Nat) (tl : Nat → Int) => decide (nl ≤ 1000000)) x.1.1 x.1.2.1 x.1.2.2.1, fun (x : (Nat × Nat × (Nat → Int) × Unit) × Unit) => (fun (nl ml : Nat) (tl : Nat → Int) => (V48 nl ml tl) (S.mkl nl fun j => tl (nl - 1 - j))) x.1.1 x.1.2.1 x.1.2.2.1, fun (x : (Nat × Nat × (Nat → Int) × Unit) × Unit) => (fun (nl ml : Nat) (tl : Nat → Int) => (N48 nl ml tl) (S.mkl nl fun j => tl (nl - 1 - j))) x.1.1 x.1.2.1 x.1.2.2.1, fun (x : (Nat × Nat × (Nat → Int) × Unit) × Unit) => (fun (nl ml : Nat) (tl : Nat → Int) => (W48 nl ml tl) (S.mkl nl fun j => tl (nl - 1 - j))) x.1.1 x.1.2.1 x.1.2.2.1⟩
theorem s48' (nl ml : Nat) (tl : Nat → Int) (hp : nl ≤ 1000000) : ∀ k i : Nat, i + k = nl / 2 → Comes (q48 nl ml tl) (.h0 (i : Int) ((nl : Int) - 1 - i) (S.mkl nl fun j => if j < i ∨ nl ≤ j + i then tl (nl - 1 - j) else tl (j))) (S.mkl nl fun j => tl (nl - 1 - j)) := by
  intro k
  induction k with
  | zero =>
    intro i hi
    apply Comes.of
    show Goes _ _ _
    unfold q48
    repeat' first
      | with_reducible refine goes_if (fun h => ?_) (fun h => ?_) <;> (try simp only [lim64, decide_eq_true_eq, decide_eq_false_iff_not, Int.toNat_natCast, toNat_pred, toNat_succ, Option.getD_some, Option.getD_none, Bool.not_eq_true', Bool.not_eq_false', Bool.and_eq_true, Bool.or_eq_true, Bool.and_eq_false_iff, Bool.or_eq_false_iff, bne_iff_ne, beq_iff_eq, bne_eq_false_iff_eq, beq_eq_false_iff_ne, ne_eq, not_and, Int.not_le, Int.not_lt, ge_iff_le, gt_iff_lt, Nat.not_lt, Nat.not_le, Bool.not_eq_true, Bool.not_eq_false, Bool.true_eq_false, Bool.false_eq_true, not_false_eq_true, not_true_eq_false, mkl_len] at h)
      | exact goes_none.mpr (by omega)
    all_goals first | (exfalso; omega) | (refine goes_inr.mpr ?_; refine mkl_congr fun j hj => ?_; split <;> first | rfl | (have hh : nl - 1 - j = j := (by omega); simp only [hh]))
  | succ k ih =>
    intro i hi
    have ih := ih (i + 1) (by omega)
    have e1 : ((nl : Int) - 1 - i).toNat = nl - 1 - i := by omega
    have e2 : (nl : Int) - 1 - i - 1 = (nl : Int) - 1 - ((i + 1 : Nat) : Int) := by omega
    apply Comes.of
    show Goes _ _ _
    unfold q48
    repeat' first
      | with_reducible refine goes_if (fun h => ?_) (fun h => ?_) <;> (try simp only [lim64, decide_eq_true_eq, decide_eq_false_iff_not, Int.toNat_natCast, toNat_pred, toNat_succ, Option.getD_some, Option.getD_none, Bool.not_eq_true', Bool.not_eq_false', Bool.and_eq_true, Bool.or_eq_true, Bool.and_eq_false_iff, Bool.or_eq_false_iff, bne_iff_ne, beq_iff_eq, bne_eq_false_iff_eq, beq_eq_false_iff_ne, ne_eq, not_and, Int.not_le, Int.not_lt, ge_iff_le, gt_iff_lt, Nat.not_lt, Nat.not_le, Bool.not_eq_true, Bool.not_eq_false, Bool.true_eq_false, Bool.false_eq_true, not_false_eq_true, not_true_eq_false, mkl_len, e1] at h)
      | exact goes_none.mpr (by omega)
    all_goals first
      | (exfalso; omega)
      | (simp only [e1, mkl_len, Int.toNat_natCast, e2]
         refine Eq.mpr (congrArg (fun s => Comes _ s _) ?_) ih
         congr 1
         refine mkl_congr fun j hj => ?_
         rw [at_mkl (show i < nl by omega), at_mkl (show nl - 1 - i < nl by omega), at_mkl hj]
         by_cases h1 : j = nl - 1 - i
         · subst h1
           rw [show Nat.beq (nl - 1 - i) (nl - 1 - i) = true from Nat.beq_refl _, cond_true, if_neg (by omega), if_pos (by omega), show nl - 1 - (nl - 1 - i) = i by omega]
         · rw [show Nat.beq j (nl - 1 - i) = false by cases hb : Nat.beq j (nl - 1 - i); rfl; exact absurd (Nat.eq_of_beq_eq_true hb) h1, cond_false]
           by_cases h2 : j = i
           · subst h2
             rw [show Nat.beq j j = true from Nat.beq_refl _, cond_true, if_neg (by omega), if_pos (by omega)]
           · rw [show Nat.beq j i = false by cases hb : Nat.beq j i; rfl; exact absurd (Nat.eq_of_beq_eq_true hb) h2, cond_false]
             by_cases h3 : j < i ∨ nl ≤ j + i
             · rw [if_pos h3, if_pos (by omega)]
             · rw [if_neg h3, if_neg (by omega)])
theorem s48 (nl ml : Nat) (tl : Nat → Int) (hp : nl ≤ 1000000) : Goes ((q48 nl ml tl)) ((p48 nl ml tl)) (S.mkl nl fun j => tl (nl - 1 - j)) := by
  have hm := s48' nl ml tl hp (nl / 2) 0 (by omega)
  have e0 : (S.mkl nl fun j => if j < 0 ∨ nl ≤ j + 0 then tl (nl - 1 - j) else tl (j)) = S.mkl nl fun j => tl (j) := mkl_congr fun j hj => if_neg (by omega)
  rw [e0] at hm
  show Goes _ _ _
  unfold p48
  repeat' first
    | with_reducible refine goes_if (fun h => ?_) (fun h => ?_) <;> (try simp only [lim64, decide_eq_true_eq, decide_eq_false_iff_not, Int.toNat_natCast, toNat_pred, toNat_succ, Option.getD_some, Option.getD_none, Bool.not_eq_true', Bool.not_eq_false', Bool.and_eq_true, Bool.or_eq_true, Bool.and_eq_false_iff, Bool.or_eq_false_iff, bne_iff_ne, beq_iff_eq, bne_eq_false_iff_eq, beq_eq_false_iff_ne, ne_eq, not_and, Int.not_le, Int.not_lt, ge_iff_le, gt_iff_lt, Nat.not_lt, Nat.not_le, Bool.not_eq_true, Bool.not_eq_false, Bool.true_eq_false, Bool.false_eq_true, not_false_eq_true, not_true_eq_false] at h)
    | exact goes_none.mpr (by omega)
  all_goals first | (exfalso; omega) | (show Comes _ _ _; simpa using hm)

theorem k48_ok : k48.ok Try.prog := by
  intro x hx
  obtain ⟨⟨nl, ml, tl, _⟩, _⟩ := x
  obtain ⟨h1, h2⟩ := a48 nl ml tl (s48 nl ml tl (of_decide_eq_true hx))
  exact ⟨⟨400, (by decide : 1 + 1 + 0 ≤ 400), h1⟩, h2⟩

end Go.Ev
