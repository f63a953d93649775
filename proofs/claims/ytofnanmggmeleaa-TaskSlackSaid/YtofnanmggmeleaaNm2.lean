/-
  Names.
-/
import Derived.Test.YtofnanmggmeleaaNm1
namespace Go.Ev
open Go.Proofs
set_option linter.unusedVariables false
set_option linter.unusedSimpArgs false
set_option maxRecDepth 100000
abbrev St45 := Empty
abbrev Rt45 := Bool
noncomputable def V45 (ws : ByteArray) (r : Rt45) : PV := PV.bool r
noncomputable def N45 (ws : ByteArray) (r : Rt45) : List Blk := []
noncomputable def I45 (ws : ByteArray) : St45 → Hd := fun s => s.elim
noncomputable def q45 (ws : ByteArray) : St45 → Option (St45 ⊕ Rt45) := fun s => s.elim
noncomputable def p45 (ws : ByteArray) : Option (St45 ⊕ Rt45) := bif (!S.eqS ws (ByteArray.mk #[]))
 then (bif (decide ((↑(ByteArray.size ws) : Int) ≤ (20 : Int)))
 then (bif (decide ((0 : Int) ≤ (0 : Int) ∧ (0 : Int) < (↑(ByteArray.size ws) : Int)))
 then (bif (decide (keys ws (0) ≥ (97 : Int)))
 then (bif (decide (keys ws (0) ≤ (122 : Int)))
 then (bif (decide (ByteArray.size ws ≤ 1000 ∧ (0 : Int) = (0 : Int)))
 then (bif ((↑(S.runN (fun (j : Nat) => S.namB (keys ws j)) (0) (ByteArray.size ws)) : Int) ==
 (↑(ByteArray.size ws) : Int))
 then (some (.inr (true)))
 else (some (.inr (false))))
 else (none))
 else (some (.inr (false))))
 else (some (.inr (false))))
 else (none))
 else (some (.inr (false))))
 else (some (.inr (false)))
noncomputable def Te45 (test : Bool → Prop → Prop → Prop) (Kst : KS) (Kret : KR) (ws : ByteArray) : Prop :=
  test (!S.eqS ws (ByteArray.mk #[]))
 (test (decide ((↑(ByteArray.size ws) : Int) ≤ (20 : Int)))
 (test (decide ((0 : Int) ≤ (0 : Int) ∧ (0 : Int) < (↑(ByteArray.size ws) : Int)))
 (test (decide (keys ws (0) ≥ (97 : Int)))
 (test (decide (keys ws (0) ≤ (122 : Int)))
 (test (decide (ByteArray.size ws ≤ 1000 ∧ (0 : Int) = (0 : Int)))
 (test ((↑(S.runN (fun (j : Nat) => S.namB (keys ws j)) (0) (ByteArray.size ws)) : Int) ==
 (↑(ByteArray.size ws) : Int))
 (Kret (PV.tf true) ([[]]) (1))
 (Kret (PV.tf false) ([[]]) (1)))
 (False))
 (Kret (PV.tf false) ([[]]) (0)))
 (Kret (PV.tf false) ([[]]) (0)))
 (False))
 (Kret (PV.tf false) ([[]]) (0)))
 (Kret (PV.tf false) ([[]]) (0))
set_option maxRecDepth 100000 in
theorem te45 (test : Bool → Prop → Prop → Prop) (Kst : KS) (Kret : KR) (ws : ByteArray) : run test Try.env true (xN0 test) true 400 ⟨45, [.cd (mkFn Try.f45).body], argT 0 [.str ws], [[], []], 0⟩ (proj 0 [] Kst Kret) =
  Te45 test Kst Kret ws := by kernel_rfl
attribute [local irreducible] Int.subNatNat in
set_option maxRecDepth 100000 in
theorem be45 (ws : ByteArray) (Kst : KS) (Kret : KR) (x : St45 ⊕ Rt45) (hS : HS 0 400 ((I45 ws)) Kst x) (hR : HR 0 400 ((V45 ws)) (fun r => [newL (0 + 1) ((N45 ws) r) ++ []]) Kret x) (h : (bif (!S.eqS ws (ByteArray.mk #[]))
 then (bif (decide ((↑(ByteArray.size ws) : Int) ≤ (20 : Int)))
 then (bif (decide ((0 : Int) ≤ (0 : Int) ∧ (0 : Int) < (↑(ByteArray.size ws) : Int)))
 then (bif (decide (keys ws (0) ≥ (97 : Int)))
 then (bif (decide (keys ws (0) ≤ (122 : Int)))
 then (bif (decide (ByteArray.size ws ≤ 1000 ∧ (0 : Int) = (0 : Int)))
 then (bif ((↑(S.runN (fun (j : Nat) => S.namB (keys ws j)) (0) (ByteArray.size ws)) : Int) ==
 (↑(ByteArray.size ws) : Int))
 then (some (.inr (true)))
 else (some (.inr (false))))
 else (none))
 else (some (.inr (false))))
 else (some (.inr (false))))
 else (none))
 else (some (.inr (false))))
 else (some (.inr (false))) : Option (St45 ⊕ Rt45)) = some x) : Te45 cond Kst Kret ws := by
  unfold Te45
  exact bif_split h
   (fun c0 h => bif_split h
   (fun c1 h => bif_split h
   (fun c2 h => bif_split h
   (fun c3 h => bif_split h
   (fun c4 h => bif_split h
   (fun c5 h => bif_split h
   (fun c6 h => ret_at hR _ h (fun n => n) rfl rfl rfl (rn_bool_tf rfl) rfl entl_nil)
   (fun c6 h => ret_at hR _ h (fun n => n) rfl rfl rfl (rn_bool_tf rfl) rfl entl_nil))
   (fun c5 h => no_some h))
   (fun c4 h => ret_at hR _ h (fun n => n) rfl rfl rfl (rn_bool_tf rfl) rfl entl_nil))
   (fun c3 h => ret_at hR _ h (fun n => n) rfl rfl rfl (rn_bool_tf rfl) rfl entl_nil))
   (fun c2 h => no_some h))
   (fun c1 h => ret_at hR _ h (fun n => n) rfl rfl rfl (rn_bool_tf rfl) rfl entl_nil))
   (fun c0 h => ret_at hR _ h (fun n => n) rfl rfl rfl (rn_bool_tf rfl) rfl entl_nil)
theorem a45 (ws : ByteArray) {r : Rt45} (h : Goes ((q45 ws)) ((p45 ws)) r) : CallR Try.prog 45 [.str ws] [[]] 0 ((V45 ws) r) ((fun r => [newL (0 + 1) ((N45 ws) r) ++ []]) r) 400 ∧ ∃ F, Try.prog.funcs[45]? = some F ∧ F.body.isSome = true ∧ (F.name == "runtime.NumGoroutine") = false := by
  refine dec_calls (sy := true) (f := 45) (lo := 0) (hi := 400) (H := [[]]) (args := [.str ws]) Try.envOk Try.mixed xN0_ok ((I45 ws)) ((V45 ws)) (fun r => [newL (0 + 1) ((N45 ws) r) ++ []]) (fn := mkFn Try.f45) (ts := []) (n := 400) rfl (by decide) (by simp) (names_of rfl) ?_ ?_ ?_ h
  · intro s; exact s.elim
  · intro Kst Kret x hS hR h
    exact Holds.eq (te45 cond Kst Kret ws) (be45 ws Kst Kret x hS hR h)
  · intro Kst Kret x hS hR s h; exact s.elim
noncomputable def k45 : Con := ⟨45, [.one (.plain (.str))], fun (x : ByteArray × Unit) => (fun (ws : ByteArray) => decide (True)) x.1, fun (x : ByteArray × Unit) => (fun (ws : ByteArray) => (V45 ws) (S.isNam ws)) x.1, fun (x : ByteArray × Unit) => (fun (ws : ByteArray) => (N45 ws) (S.isNam ws)) x.1, fun _ _ => .dead⟩
theorem s45 (ws : ByteArray) (hp : True) : Goes ((q45 ws)) ((p45 ws)) (S.isNam ws) := by
  have hs : S.eqS ws (ByteArray.mk #[]) = decide (ws.size = 0) := by
    show (ws.toList == (ByteArray.mk #[]).toList) = _
    rw [ByteArray.toList_eq (ByteArray.mk #[])]
    exact size_nil
  have hr := runN_le (p := (fun j => S.namB (keys ws j))) (k := ws.size) (i := 0)
  have e : S.isNam ws = (decide (1 ≤ ws.size ∧ ws.size ≤ 20) && (S.lowB (keys ws 0) && decide (S.runN (fun j => S.namB (keys ws j)) 0 ws.size = ws.size))) := rfl
  rw [e]
  unfold p45
  simp only [hs]
  have hk : S.lowB (keys ws 0) = decide (97 ≤ keys ws 0 ∧ keys ws 0 ≤ 122) := rfl
  generalize S.runN (fun j => S.namB (keys ws j)) 0 ws.size = rn at *
  show Goes _ _ _
  repeat' first
    | with_reducible refine goes_if (fun h => ?_) (fun h => ?_) <;> (try simp only [lim64, imp_false, decide_eq_true_eq, decide_eq_false_iff_not, Int.toNat_natCast, toNat_pred, toNat_succ, Option.getD_some, Option.getD_none, Bool.not_eq_true', Bool.not_eq_false', Bool.and_eq_true, Bool.or_eq_true, Bool.and_eq_false_iff, Bool.or_eq_false_iff, bne_iff_ne, beq_iff_eq, bne_eq_false_iff_eq, beq_eq_false_iff_ne, ne_eq, not_and, Int.not_le, Int.not_lt, ge_iff_le, gt_iff_lt, Nat.not_lt, Nat.not_le, Bool.not_eq_true, Bool.not_eq_false, Bool.true_eq_false, Bool.false_eq_true, not_false_eq_true, not_true_eq_false] at h)
    | exact goes_none.mpr (by omega)
  all_goals first
    | (exfalso; omega)
    | (refine goes_inr.mpr ?_; simp only [hk, ← Bool.decide_and]; first | exact (decide_eq_true (by omega)).symm | exact (decide_eq_false (by omega)).symm | (rw [Bool.eq_iff_iff]; simp only [decide_eq_true_eq, beq_iff_eq]; omega))

theorem k45_ok : k45.ok Try.prog := by
  intro x hx
  obtain ⟨ws, _⟩ := x
  obtain ⟨h1, h2⟩ := a45 ws (s45 ws (of_dec hx rfl))
  exact ⟨⟨400, (by decide : 0 + 1 + 0 ≤ 400), h1⟩, h2⟩
abbrev St49 := Empty
abbrev Rt49 := Bool
noncomputable def V49 (ws : ByteArray) (r : Rt49) : PV := PV.bool r
noncomputable def N49 (ws : ByteArray) (r : Rt49) : List Blk := []
noncomputable def I49 (ws : ByteArray) : St49 → Hd := fun s => s.elim
noncomputable def q49 (ws : ByteArray) : St49 → Option (St49 ⊕ Rt49) := fun s => s.elim
noncomputable def p49 (ws : ByteArray) : Option (St49 ⊕ Rt49) := bif (!S.eqS ws (ByteArray.mk #[]))
 then (bif (decide ((↑(ByteArray.size ws) : Int) ≤ (20 : Int)))
 then (bif (decide (ByteArray.size ws ≤ 1000))
 then (bif ((↑(S.runN
 (fun (j : Nat) => if j = 0 then S.lowB (keys ws j) else S.namB (keys ws j))
 (0) (ByteArray.size ws)) :
 Int) ==
 (↑(ByteArray.size ws) : Int))
 then (some (.inr (true)))
 else (some (.inr (false))))
 else (none))
 else (some (.inr (false))))
 else (some (.inr (false)))
noncomputable def Te49 (test : Bool → Prop → Prop → Prop) (Kst : KS) (Kret : KR) (ws : ByteArray) : Prop :=
  test (!S.eqS ws (ByteArray.mk #[]))
 (test (decide ((↑(ByteArray.size ws) : Int) ≤ (20 : Int)))
 (test (decide (ByteArray.size ws ≤ 1000))
 (test ((↑(S.runN
 (fun (j : Nat) => if j = 0 then S.lowB (keys ws j) else S.namB (keys ws j))
 (0) (ByteArray.size ws)) :
 Int) ==
 (↑(ByteArray.size ws) : Int))
 (Kret (PV.tf true) ([[]]) (1))
 (Kret (PV.tf false) ([[]]) (1)))
 (False))
 (Kret (PV.tf false) ([[]]) (0)))
 (Kret (PV.tf false) ([[]]) (0))
set_option maxRecDepth 100000 in
theorem te49 (test : Bool → Prop → Prop → Prop) (Kst : KS) (Kret : KR) (ws : ByteArray) : run test Try.env true (xN0 test) true 400 ⟨49, [.cd (mkFn Try.f49).body], argT 0 [.str ws], [[], []], 0⟩ (proj 0 [] Kst Kret) =
  Te49 test Kst Kret ws := by kernel_rfl
attribute [local irreducible] Int.subNatNat in
set_option maxRecDepth 100000 in
theorem be49 (ws : ByteArray) (Kst : KS) (Kret : KR) (x : St49 ⊕ Rt49) (hS : HS 0 400 ((I49 ws)) Kst x) (hR : HR 0 400 ((V49 ws)) (fun r => [newL (0 + 1) ((N49 ws) r) ++ []]) Kret x) (h : (bif (!S.eqS ws (ByteArray.mk #[]))
 then (bif (decide ((↑(ByteArray.size ws) : Int) ≤ (20 : Int)))
 then (bif (decide (ByteArray.size ws ≤ 1000))
 then (bif ((↑(S.runN
 (fun (j : Nat) => if j = 0 then S.lowB (keys ws j) else S.namB (keys ws j))
 (0) (ByteArray.size ws)) :
 Int) ==
 (↑(ByteArray.size ws) : Int))
 then (some (.inr (true)))
 else (some (.inr (false))))
 else (none))
 else (some (.inr (false))))
 else (some (.inr (false))) : Option (St49 ⊕ Rt49)) = some x) : Te49 cond Kst Kret ws := by
  unfold Te49
  exact bif_split h
   (fun c0 h => bif_split h
   (fun c1 h => bif_split h
   (fun c2 h => bif_split h
   (fun c3 h => ret_at hR _ h (fun n => n) rfl rfl rfl (rn_bool_tf rfl) rfl entl_nil)
   (fun c3 h => ret_at hR _ h (fun n => n) rfl rfl rfl (rn_bool_tf rfl) rfl entl_nil))
   (fun c2 h => no_some h))
   (fun c1 h => ret_at hR _ h (fun n => n) rfl rfl rfl (rn_bool_tf rfl) rfl entl_nil))
   (fun c0 h => ret_at hR _ h (fun n => n) rfl rfl rfl (rn_bool_tf rfl) rfl entl_nil)
theorem a49 (ws : ByteArray) {r : Rt49} (h : Goes ((q49 ws)) ((p49 ws)) r) : CallR Try.prog 49 [.str ws] [[]] 0 ((V49 ws) r) ((fun r => [newL (0 + 1) ((N49 ws) r) ++ []]) r) 400 ∧ ∃ F, Try.prog.funcs[49]? = some F ∧ F.body.isSome = true ∧ (F.name == "runtime.NumGoroutine") = false := by
  refine dec_calls (sy := true) (f := 49) (lo := 0) (hi := 400) (H := [[]]) (args := [.str ws]) Try.envOk Try.mixed xN0_ok ((I49 ws)) ((V49 ws)) (fun r => [newL (0 + 1) ((N49 ws) r) ++ []]) (fn := mkFn Try.f49) (ts := []) (n := 400) rfl (by decide) (by simp) (names_of rfl) ?_ ?_ ?_ h
  · intro s; exact s.elim
  · intro Kst Kret x hS hR h
    exact Holds.eq (te49 cond Kst Kret ws) (be49 ws Kst Kret x hS hR h)
  · intro Kst Kret x hS hR s h; exact s.elim
noncomputable def k49 : Con := ⟨49, [.one (.plain (.str))], fun (x : ByteArray × Unit) => (fun (ws : ByteArray) => decide (True)) x.1, fun (x : ByteArray × Unit) => (fun (ws : ByteArray) => (V49 ws) (S.isNam ws)) x.1, fun (x : ByteArray × Unit) => (fun (ws : ByteArray) => (N49 ws) (S.isNam ws)) x.1, fun _ _ => .dead⟩
theorem s49 (ws : ByteArray) (hp : True) : Goes ((q49 ws)) ((p49 ws)) (S.isNam ws) := by
  have hs : S.eqS ws (ByteArray.mk #[]) = decide (ws.size = 0) := by
    show (ws.toList == (ByteArray.mk #[]).toList) = _
    rw [ByteArray.toList_eq (ByteArray.mk #[])]
    exact size_nil
  have hr := runN_le (p := (fun j => if j = 0 then S.lowB (keys ws j) else S.namB (keys ws j))) (k := ws.size) (i := 0)
  have e : S.isNam ws = (decide (1 ≤ ws.size ∧ ws.size ≤ 20) && decide (S.runN (fun j => if j = 0 then S.lowB (keys ws j) else S.namB (keys ws j)) 0 ws.size = ws.size)) := by
    unfold S.isNam
    by_cases h1 : 1 ≤ ws.size ∧ ws.size ≤ 20
    · congr 1
      rw [Bool.eq_iff_iff, Bool.and_eq_true, decide_eq_true_eq, decide_eq_true_eq, runN_all, runN_all]
      constructor
      · rintro ⟨a, c⟩ j h2 h3
        split
        · rename_i h4; rw [h4]; exact a
        · exact c j h2 h3
      · intro a
        have a0 := a 0 (Nat.le_refl _) (by omega)
        rw [if_pos rfl] at a0
        refine ⟨a0, fun j h2 h3 => ?_⟩
        have aj := a j h2 h3
        split at aj
        · rename_i h4
          rw [h4]
          simp only [S.lowB, S.namB, decide_eq_true_eq] at a0 ⊢
          omega
        · exact aj
    · rw [decide_eq_false h1, Bool.false_and, Bool.false_and]
  rw [e]
  unfold p49
  simp only [hs]
  skip
  generalize S.runN (fun j => if j = 0 then S.lowB (keys ws j) else S.namB (keys ws j)) 0 ws.size = rn at *
  show Goes _ _ _
  repeat' first
    | with_reducible refine goes_if (fun h => ?_) (fun h => ?_) <;> (try simp only [lim64, imp_false, decide_eq_true_eq, decide_eq_false_iff_not, Int.toNat_natCast, toNat_pred, toNat_succ, Option.getD_some, Option.getD_none, Bool.not_eq_true', Bool.not_eq_false', Bool.and_eq_true, Bool.or_eq_true, Bool.and_eq_false_iff, Bool.or_eq_false_iff, bne_iff_ne, beq_iff_eq, bne_eq_false_iff_eq, beq_eq_false_iff_ne, ne_eq, not_and, Int.not_le, Int.not_lt, ge_iff_le, gt_iff_lt, Nat.not_lt, Nat.not_le, Bool.not_eq_true, Bool.not_eq_false, Bool.true_eq_false, Bool.false_eq_true, not_false_eq_true, not_true_eq_false] at h)
    | exact goes_none.mpr (by omega)
  all_goals first
    | (exfalso; omega)
    | (refine goes_inr.mpr ?_; simp only [← Bool.decide_and]; first | exact (decide_eq_true (by omega)).symm | exact (decide_eq_false (by omega)).symm | (rw [Bool.eq_iff_iff]; simp only [decide_eq_true_eq, beq_iff_eq]; omega))

theorem k49_ok : k49.ok Try.prog := by
  intro x hx
  obtain ⟨ws, _⟩ := x
  obtain ⟨h1, h2⟩ := a49 ws (s49 ws (of_dec hx rfl))
  exact ⟨⟨400, (by decide : 0 + 1 + 0 ≤ 400), h1⟩, h2⟩
noncomputable def xN (test : Bool → Prop → Prop → Prop) : Ext := consX test [k45, k49]
theorem xN_ok : ExtOk Try.prog (xN cond) := consX_ok ⟨k45_ok, k49_ok, trivial⟩

end Go.Ev
