/-
  Names.
-/
import Derived.Test.YtamccaclkkgkbaaNm1
namespace Go.Ev
open Go.Proofs
set_option linter.unusedVariables false
set_option linter.unusedSimpArgs false
set_option maxRecDepth 100000
abbrev St38 := Empty
abbrev Rt38 := Bool
noncomputable def V38 (ws : ByteArray) (r : Rt38) : PV := PV.bool r
noncomputable def N38 (ws : ByteArray) (r : Rt38) : List Blk := []
noncomputable def I38 (ws : ByteArray) : St38 → Hd := fun s => s.elim
noncomputable def q38 (ws : ByteArray) : St38 → Option (St38 ⊕ Rt38) := fun s => s.elim
noncomputable def p38 (ws : ByteArray) : Option (St38 ⊕ Rt38) := bif (!S.eqS ws (ByteArray.mk #[]))
 then (bif (decide ((↑(ByteArray.size ws) : Int) ≤ (20 : Int)))
 then (bif (decide ((0 : Int) ≤ (0 : Int) ∧ (0 : Int) < (↑(ByteArray.size ws) : Int)))
 then (bif (decide (keys ws (0) ≥ (97 : Int)))
 then (bif (decide (keys ws (0) ≤ (122 : Int)))
 then (bif (decide (ByteArray.size ws ≤ 1000 ∧ (0 : Int) = (0 : Int)))
 then (bif ((↑(S.runN (fun (j : Nat) => S.namB (keys ws j)) (0) (ByteArray.size ws)) : Int) ==
 (↑(ByteArray.size ws) : Int))
 then (some (.inr (true)))
 else (some (.inr (false))))
 else (none))
 else (some (.inr (false))))
 else (some (.inr (false))))
 else (none))
 else (some (.inr (false))))
 else (some (.inr (false)))
noncomputable def Te38 (test : Bool → Prop → Prop → Prop) (Kst : KS) (Kret : KR) (ws : ByteArray) : Prop :=
  test (!S.eqS ws (ByteArray.mk #[]))
 (test (decide ((↑(ByteArray.size ws) : Int) ≤ (20 : Int)))
 (test (decide ((0 : Int) ≤ (0 : Int) ∧ (0 : Int) < (↑(ByteArray.size ws) : Int)))
 (test (decide (keys ws (0) ≥ (97 : Int)))
 (test (decide (keys ws (0) ≤ (122 : Int)))
 (test (decide (ByteArray.size ws ≤ 1000 ∧ (0 : Int) = (0 : Int)))
 (test ((↑(S.runN (fun (j : Nat) => S.namB (keys ws j)) (0) (ByteArray.size ws)) : Int) ==
 (↑(ByteArray.size ws) : Int))
 (Kret (PV.tf true) ([[]]) (1))
 (Kret (PV.tf false) ([[]]) (1)))
 (False))
 (Kret (PV.tf false) ([[]]) (0)))
 (Kret (PV.tf false) ([[]]) (0)))
 (False))
 (Kret (PV.tf false) ([[]]) (0)))
 (Kret (PV.tf false) ([[]]) (0))
set_option maxRecDepth 100000 in
theorem te38 (test : Bool → Prop → Prop → Prop) (Kst : KS) (Kret : KR) (ws : ByteArray) : run test Try.env true (xN0 test) true 400 ⟨38, [.cd (mkFn Try.f38).body], argT 0 [.str ws], [[], []], 0⟩ (proj 0 [] Kst Kret) =
  Te38 test Kst Kret ws := by kernel_rfl
attribute [local irreducible] Int.subNatNat in
set_option maxRecDepth 100000 in
theorem be38 (ws : ByteArray) (Kst : KS) (Kret : KR) (x : St38 ⊕ Rt38) (hS : HS 0 400 ((I38 ws)) Kst x) (hR : HR 0 400 ((V38 ws)) (fun r => [newL (0 + 1) ((N38 ws) r) ++ []]) Kret x) (h : (bif (!S.eqS ws (ByteArray.mk #[]))
 then (bif (decide ((↑(ByteArray.size ws) : Int) ≤ (20 : Int)))
 then (bif (decide ((0 : Int) ≤ (0 : Int) ∧ (0 : Int) < (↑(ByteArray.size ws) : Int)))
 then (bif (decide (keys ws (0) ≥ (97 : Int)))
 then (bif (decide (keys ws (0) ≤ (122 : Int)))
 then (bif (decide (ByteArray.size ws ≤ 1000 ∧ (0 : Int) = (0 : Int)))
 then (bif ((↑(S.runN (fun (j : Nat) => S.namB (keys ws j)) (0) (ByteArray.size ws)) : Int) ==
 (↑(ByteArray.size ws) : Int))
 then (some (.inr (true)))
 else (some (.inr (false))))
 else (none))
 else (some (.inr (false))))
 else (some (.inr (false))))
 else (none))
 else (some (.inr (false))))
 else (some (.inr (false))) : Option (St38 ⊕ Rt38)) = some x) : Te38 cond Kst Kret ws := by
  unfold Te38
  exact bif_split h
   (fun c0 h => bif_split h
   (fun c1 h => bif_split h
   (fun c2 h => bif_split h
   (fun c3 h => bif_split h
   (fun c4 h => bif_split h
   (fun c5 h => bif_split h
   (fun c6 h => ret_at hR _ h (fun n => n) rfl rfl rfl (rn_bool_tf rfl) rfl entl_nil)
   (fun c6 h => ret_at hR _ h (fun n => n) rfl rfl rfl (rn_bool_tf rfl) rfl entl_nil))
   (fun c5 h => no_some h))
   (fun c4 h => ret_at hR _ h (fun n => n) rfl rfl rfl (rn_bool_tf rfl) rfl entl_nil))
   (fun c3 h => ret_at hR _ h (fun n => n) rfl rfl rfl (rn_bool_tf rfl) rfl entl_nil))
   (fun c2 h => no_some h))
   (fun c1 h => ret_at hR _ h (fun n => n) rfl rfl rfl (rn_bool_tf rfl) rfl entl_nil))
   (fun c0 h => ret_at hR _ h (fun n => n) rfl rfl rfl (rn_bool_tf rfl) rfl entl_nil)
theorem a38 (ws : ByteArray) {r : Rt38} (h : Goes ((q38 ws)) ((p38 ws)) r) : CallR Try.prog 38 [.str ws] [[]] 0 ((V38 ws) r) ((fun r => [newL (0 + 1) ((N38 ws) r) ++ []]) r) 400 ∧ ∃ F, Try.prog.funcs[38]? = some F ∧ F.body.isSome = true ∧ (F.name == "runtime.NumGoroutine") = false := by
  refine dec_calls (f := 38) (lo := 0) (hi := 400) (H := [[]]) (args := [.str ws]) Try.envOk Try.mixed xN0_ok ((I38 ws)) ((V38 ws)) (fun r => [newL (0 + 1) ((N38 ws) r) ++ []]) (fn := mkFn Try.f38) (ts := []) (n := 400) rfl (by decide) (by simp) (names_of rfl) ?_ ?_ ?_ h
  · intro s; exact s.elim
  · intro Kst Kret x hS hR h
    exact Holds.eq (te38 cond Kst Kret ws) (be38 ws Kst Kret x hS hR h)
  · intro Kst Kret x hS hR s h; exact s.elim
noncomputable def k38 : Con := ⟨38, [.one (.plain (.str))], fun (x : ByteArray × Unit) => (fun (ws : ByteArray) => decide (True)) x.1, fun (x : ByteArray × Unit) => (fun (ws : ByteArray) => (V38 ws) (S.isNam ws)) x.1, fun (x : ByteArray × Unit) => (fun (ws : ByteArray) => (N38 ws) (S.isNam ws)) x.1, fun _ _ => .dead⟩
theorem s38 (ws : ByteArray) (hp : True) : Goes ((q38 ws)) ((p38 ws)) (S.isNam ws) := by
  have hs : S.eqS ws (ByteArray.mk #[]) = decide (ws.size = 0) := by
    show (ws.toList == (ByteArray.mk #[]).toList) = _
    rw [ByteArray.toList_eq (ByteArray.mk #[])]
    exact size_nil
  have hr := runN_le (p := (fun j => S.namB (keys ws j))) (k := ws.size) (i := 0)
  have e : S.isNam ws = (decide (1 ≤ ws.size ∧ ws.size ≤ 20) && (S.lowB (keys ws 0) && decide (S.runN (fun j => S.namB (keys ws j)) 0 ws.size = ws.size))) := rfl
  rw [e]
  unfold p38
  simp only [hs]
  have hk : S.lowB (keys ws 0) = decide (97 ≤ keys ws 0 ∧ keys ws 0 ≤ 122) := rfl
  generalize S.runN (fun j => S.namB (keys ws j)) 0 ws.size = rn at *
  show Goes _ _ _
  repeat' first
    | with_reducible refine goes_if (fun h => ?_) (fun h => ?_) <;> (try simp only [lim64, imp_false, decide_eq_true_eq, decide_eq_false_iff_not, Int.toNat_natCast, toNat_pred, toNat_succ, Option.getD_some, Option.getD_none, Bool.not_eq_true', Bool.not_eq_false', Bool.and_eq_true, Bool.or_eq_true, Bool.and_eq_false_iff, Bool.or_eq_false_iff, bne_iff_ne, beq_iff_eq, bne_eq_false_iff_eq, beq_eq_false_iff_ne, ne_eq, not_and, Int.not_le, Int.not_lt, ge_iff_le, gt_iff_lt, Nat.not_lt, Nat.not_le, Bool.not_eq_true, Bool.not_eq_false, Bool.true_eq_false, Bool.false_eq_true, not_false_eq_true, not_true_eq_false] at h)
    | exact goes_none.mpr (by omega)
  all_goals first
    | (exfalso; omega)
    | (refine goes_inr.mpr ?_; simp only [hk, ← Bool.decide_and]; first | exact (decide_eq_true (by omega)).symm | exact (decide_eq_false (by omega)).symm | (rw [Bool.eq_iff_iff]; simp only [decide_eq_true_eq, beq_iff_eq]; omega))

theorem k38_ok : k38.ok Try.prog := by
  intro x hx
  obtain ⟨ws, _⟩ := x
  obtain ⟨h1, h2⟩ := a38 ws (s38 ws (of_dec hx rfl))
  exact ⟨⟨400, (by decide : 0 + 1 + 0 ≤ 400), h1⟩, h2⟩
abbrev St76 := Empty
abbrev Rt76 := Bool
noncomputable def V76 (ws : ByteArray) (r : Rt76) : PV := PV.bool r
noncomputable def N76 (ws : ByteArray) (r : Rt76) : List Blk := []
noncomputable def I76 (ws : ByteArray) : St76 → Hd := fun s => s.elim
noncomputable def q76 (ws : ByteArray) : St76 → Option (St76 ⊕ Rt76) := fun s => s.elim
noncomputable def p76 (ws : ByteArray) : Option (St76 ⊕ Rt76) := bif (!S.eqS ws (ByteArray.mk #[]))
 then (bif (decide ((↑(ByteArray.size ws) : Int) ≤ (20 : Int)))
 then (bif (decide (ByteArray.size ws ≤ 1000))
 then (bif ((↑(S.runN
 (fun (j : Nat) => if j = 0 then S.lowB (keys ws j) else S.namB (keys ws j))
 (0) (ByteArray.size ws)) :
 Int) ==
 (↑(ByteArray.size ws) : Int))
 then (some (.inr (true)))
 else (some (.inr (false))))
 else (none))
 else (some (.inr (false))))
 else (some (.inr (false)))
noncomputable def Te76 (test : Bool → Prop → Prop → Prop) (Kst : KS) (Kret : KR) (ws : ByteArray) : Prop :=
  test (!S.eqS ws (ByteArray.mk #[]))
 (test (decide ((↑(ByteArray.size ws) : Int) ≤ (20 : Int)))
 (test (decide (ByteArray.size ws ≤ 1000))
 (test ((↑(S.runN
 (fun (j : Nat) => if j = 0 then S.lowB (keys ws j) else S.namB (keys ws j))
 (0) (ByteArray.size ws)) :
 Int) ==
 (↑(ByteArray.size ws) : Int))
 (Kret (PV.tf true) ([[]]) (1))
 (Kret (PV.tf false) ([[]]) (1)))
 (False))
 (Kret (PV.tf false) ([[]]) (0)))
 (Kret (PV.tf false) ([[]]) (0))
set_option maxRecDepth 100000 in
theorem te76 (test : Bool → Prop → Prop → Prop) (Kst : KS) (Kret : KR) (ws : ByteArray) : run test Try.env true (xN0 test) true 400 ⟨76, [.cd (mkFn Try.f76).body], argT 0 [.str ws], [[], []], 0⟩ (proj 0 [] Kst Kret) =
  Te76 test Kst Kret ws := by kernel_rfl
attribute [local irreducible] Int.subNatNat in
set_option maxRecDepth 100000 in
theorem be76 (ws : ByteArray) (Kst : KS) (Kret : KR) (x : St76 ⊕ Rt76) (hS : HS 0 400 ((I76 ws)) Kst x) (hR : HR 0 400 ((V76 ws)) (fun r => [newL (0 + 1) ((N76 ws) r) ++ []]) Kret x) (h : (bif (!S.eqS ws (ByteArray.mk #[]))
 then (bif (decide ((↑(ByteArray.size ws) : Int) ≤ (20 : Int)))
 then (bif (decide (ByteArray.size ws ≤ 1000))
 then (bif ((↑(S.runN
 (fun (j : Nat) => if j = 0 then S.lowB (keys ws j) else S.namB (keys ws j))
 (0) (ByteArray.size ws)) :
 Int) ==
 (↑(ByteArray.size ws) : Int))
 then (some (.inr (true)))
 else (some (.inr (false))))
 else (none))
 else (some (.inr (false))))
 else (some (.inr (false))) : Option (St76 ⊕ Rt76)) = some x) : Te76 cond Kst Kret ws := by
  unfold Te76
  exact bif_split h
   (fun c0 h => bif_split h
   (fun c1 h => bif_split h
   (fun c2 h => bif_split h
   (fun c3 h => ret_at hR _ h (fun n => n) rfl rfl rfl (rn_bool_tf rfl) rfl entl_nil)
   (fun c3 h => ret_at hR _ h (fun n => n) rfl rfl rfl (rn_bool_tf rfl) rfl entl_nil))
   (fun c2 h => no_some h))
   (fun c1 h => ret_at hR _ h (fun n => n) rfl rfl rfl (rn_bool_tf rfl) rfl entl_nil))
   (fun c0 h => ret_at hR _ h (fun n => n) rfl rfl rfl (rn_bool_tf rfl) rfl entl_nil)
theorem a76 (ws : ByteArray) {r : Rt76} (h : Goes ((q76 ws)) ((p76 ws)) r) : CallR Try.prog 76 [.str ws] [[]] 0 ((V76 ws) r) ((fun r => [newL (0 + 1) ((N76 ws) r) ++ []]) r) 400 ∧ ∃ F, Try.prog.funcs[76]? = some F ∧ F.body.isSome = true ∧ (F.name == "runtime.NumGoroutine") = false := by
  refine dec_calls (f := 76) (lo := 0) (hi := 400) (H := [[]]) (args := [.str ws]) Try.envOk Try.mixed xN0_ok ((I76 ws)) ((V76 ws)) (fun r => [newL (0 + 1) ((N76 ws) r) ++ []]) (fn := mkFn Try.f76) (ts := []) (n := 400) rfl (by decide) (by simp) (names_of rfl) ?_ ?_ ?_ h
  · intro s; exact s.elim
  · intro Kst Kret x hS hR h
    exact Holds.eq (te76 cond Kst Kret ws) (be76 ws Kst Kret x hS hR h)
  · intro Kst Kret x hS hR s h; exact s.elim
noncomputable def k76 : Con := ⟨76, [.one (.plain (.str))], fun (x : ByteArray × Unit) => (fun (ws : ByteArray) => decide (True)) x.1, fun (x : ByteArray × Unit) => (fun (ws : ByteArray) => (V76 ws) (S.isNam ws)) x.1, fun (x : ByteArray × Unit) => (fun (ws : ByteArray) => (N76 ws) (S.isNam ws)) x.1, fun _ _ => .dead⟩
theorem s76 (ws : ByteArray) (hp : True) : Goes ((q76 ws)) ((p76 ws)) (S.isNam ws) := by
  have hs : S.eqS ws (ByteArray.mk #[]) = decide (ws.size = 0) := by
    show (ws.toList == (ByteArray.mk #[]).toList) = _
    rw [ByteArray.toList_eq (ByteArray.mk #[])]
    exact size_nil
  have hr := runN_le (p := (fun j => if j = 0 then S.lowB (keys ws j) else S.namB (keys ws j))) (k := ws.size) (i := 0)
  have e : S.isNam ws = (decide (1 ≤ ws.size ∧ ws.size ≤ 20) && decide (S.runN (fun j => if j = 0 then S.lowB (keys ws j) else S.namB (keys ws j)) 0 ws.size = ws.size)) := by
    unfold S.isNam
    by_cases h1 : 1 ≤ ws.size ∧ ws.size ≤ 20
    · congr 1
      rw [Bool.eq_iff_iff, Bool.and_eq_true, decide_eq_true_eq, decide_eq_true_eq, runN_all, runN_all]
      constructor
      · rintro ⟨a, c⟩ j h2 h3
        split
        · rename_i h4; rw [h4]; exact a
        · exact c j h2 h3
      · intro a
        have a0 := a 0 (Nat.le_refl _) (by omega)
        rw [if_pos rfl] at a0
        refine ⟨a0, fun j h2 h3 => ?_⟩
        have aj := a j h2 h3
        split at aj
        · rename_i h4
          rw [h4]
          simp only [S.lowB, S.namB, decide_eq_true_eq] at a0 ⊢
          omega
        · exact aj
    · rw [decide_eq_false h1, Bool.false_and, Bool.false_and]
  rw [e]
  unfold p76
  simp only [hs]
  skip
  generalize S.runN (fun j => if j = 0 then S.lowB (keys ws j) else S.namB (keys ws j)) 0 ws.size = rn at *
  show Goes _ _ _
  repeat' first
    | with_reducible refine goes_if (fun h => ?_) (fun h => ?_) <;> (try simp only [lim64, imp_false, decide_eq_true_eq, decide_eq_false_iff_not, Int.toNat_natCast, toNat_pred, toNat_succ, Option.getD_some, Option.getD_none, Bool.not_eq_true', Bool.not_eq_false', Bool.and_eq_true, Bool.or_eq_true, Bool.and_eq_false_iff, Bool.or_eq_false_iff, bne_iff_ne, beq_iff_eq, bne_eq_false_iff_eq, beq_eq_false_iff_ne, ne_eq, not_and, Int.not_le, Int.not_lt, ge_iff_le, gt_iff_lt, Nat.not_lt, Nat.not_le, Bool.not_eq_true, Bool.not_eq_false, Bool.true_eq_false, Bool.false_eq_true, not_false_eq_true, not_true_eq_false] at h)
    | exact goes_none.mpr (by omega)
  all_goals first
    | (exfalso; omega)
    | (refine goes_inr.mpr ?_; simp only [← Bool.decide_and]; first | exact (decide_eq_true (by omega)).symm | exact (decide_eq_false (by omega)).symm | (rw [Bool.eq_iff_iff]; simp only [decide_eq_true_eq, beq_iff_eq]; omega))

theorem k76_ok : k76.ok Try.prog := by
  intro x hx
  obtain ⟨ws, _⟩ := x
  obtain ⟨h1, h2⟩ := a76 ws (s76 ws (of_dec hx rfl))
  exact ⟨⟨400, (by decide : 0 + 1 + 0 ≤ 400), h1⟩, h2⟩
noncomputable def xN (test : Bool → Prop → Prop → Prop) : Ext := consX test [k38, k76]
theorem xN_ok : ExtOk Try.prog (xN cond) := consX_ok ⟨k38_ok, k76_ok, trivial⟩

end Go.Ev
