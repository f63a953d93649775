/-
  The first task without a response time.
-/
import Derived.Test.YtofnanmggmeleaaD2
import Derived.Test.YtofnanmggmeleaaV1
import Derived.Test.YtofnanmggmeleaaV2
namespace Go.Ev
open Go.Proofs
set_option linter.unusedVariables false
set_option linter.unusedSimpArgs false
set_option maxRecDepth 100000
inductive St51 where
  | h0 (x0 : Int)
abbrev Rt51 := Int
noncomputable def V51 (al nl ml : Nat) (tl : Nat → ByteArray) (vl : Nat → Int) (gl : Nat → Int) (wl : Nat → Int) (r : Rt51) : PV := PV.int IntKind.i64 r
noncomputable def N51 (al nl ml : Nat) (tl : Nat → ByteArray) (vl : Nat → Int) (gl : Nat → Int) (wl : Nat → Int) (r : Rt51) : List Blk := []
noncomputable def I51 (al nl ml : Nat) (tl : Nat → ByteArray) (vl : Nat → Int) (gl : Nat → Int) (wl : Nat → Int) : St51 → Hd
  | .h0 x0 => ⟨hd Try.f51 0, [PV.loose (PA.mk (0) (4) al (0)) nl, PV.int IntKind.i64 (↑nl : Int),
 PV.int IntKind.i64 x0], [[], [(0, (false, .cols ml [.str tl, .int .i64 vl, .int .i64 gl, .int .i64 wl]))]], 1⟩
noncomputable def q51 (al nl ml : Nat) (tl : Nat → ByteArray) (vl : Nat → Int) (gl : Nat → Int) (wl : Nat → Int) : St51 → Option (St51 ⊕ Rt51)
  | .h0 x0 => bif (decide (x0 < (↑nl : Int)))
 then (bif (decide
 (al + nl ≤ ml ∧
 ((0 : Int) ≤ x0 ∧ x0 < (↑nl : Int)) ∧
 (S.okT nl (fun (j : Nat) => vl (j + al)) (fun (j : Nat) => gl (j + al)) fun (j : Nat) => wl (j + al)) =
 true))
 then (bif (Prod.snd
 (S.resT (fun (j : Nat) => vl (j + al)) (fun (j : Nat) => gl (j + al)) (fun (j : Nat) => wl (j + al))
 (Int.toNat x0)))
 then (bif (lim IntKind.i64 (x0 + (1 : Int)))
 then (some (.inl (.h0 (x0 + (1 : Int)))))
 else (none))
 else (some (.inr (x0))))
 else (none))
 else (some (.inr ((-1 : Int))))
noncomputable def p51 (al nl ml : Nat) (tl : Nat → ByteArray) (vl : Nat → Int) (gl : Nat → Int) (wl : Nat → Int) : Option (St51 ⊕ Rt51) := some (.inl (.h0 ((0 : Int))))
noncomputable def Te51 (test : Bool → Prop → Prop → Prop) (Kst : KS) (Kret : KR) (al nl ml : Nat) (tl : Nat → ByteArray) (vl : Nat → Int) (gl : Nat → Int) (wl : Nat → Int) : Prop :=
  Kst (hd Try.f51 0) ([PV.loose (PA.mk (0) (4) al (0)) nl, PV.int IntKind.i64 (↑nl : Int),
 PV.int IntKind.i64 (0 : Int)]) ([[(0, false,
 Blk.cols ml
 [Col.str tl, Col.int IntKind.i64 vl, Col.int IntKind.i64 gl,
 Col.int IntKind.i64 wl])]]) (1)
set_option maxRecDepth 100000 in
theorem te51 (test : Bool → Prop → Prop → Prop) (Kst : KS) (Kret : KR) (al nl ml : Nat) (tl : Nat → ByteArray) (vl : Nat → Int) (gl : Nat → Int) (wl : Nat → Int) : run test Try.env true (xR test) true 400 ⟨51, [.cd (mkFn Try.f51).body], argT 0 [.loose ⟨0, 4, al, 0⟩ nl], [[], [(0, (false, .cols ml [.str tl, .int .i64 vl, .int .i64 gl, .int .i64 wl]))]], 1⟩ (proj 1 [0, 7, 8] Kst Kret) =
  Te51 test Kst Kret al nl ml tl vl gl wl := by kernel_rfl
noncomputable def T51_0 (test : Bool → Prop → Prop → Prop) (Kst : KS) (Kret : KR) (al nl ml : Nat) (tl : Nat → ByteArray) (vl : Nat → Int) (gl : Nat → Int) (wl : Nat → Int) (x0 : Int) : Prop :=
  test (decide (x0 < (↑nl : Int)))
 (test (decide
 (al + nl ≤ ml ∧
 ((0 : Int) ≤ x0 ∧ x0 < (↑nl : Int)) ∧
 (S.okT nl (fun (j : Nat) => vl (j + al)) (fun (j : Nat) => gl (j + al)) fun (j : Nat) => wl (j + al)) =
 true))
 (test (Prod.snd
 (S.resT (fun (j : Nat) => vl (j + al)) (fun (j : Nat) => gl (j + al)) (fun (j : Nat) => wl (j + al))
 (Int.toNat x0)))
 (test (lim IntKind.i64 (x0 + (1 : Int)))
 (Kst (hd Try.f51 0) ([PV.loose (PA.mk (0) (4) al (0)) nl, PV.int IntKind.i64 (↑nl : Int),
 PV.int IntKind.i64 (x0 + (1 : Int))]) ([[(0, false,
 Blk.cols ml
 [Col.str tl, Col.int IntKind.i64 vl, Col.int IntKind.i64 gl,
 Col.int IntKind.i64 wl])]]) (2))
 (False))
 (Kret (PV.int IntKind.i64 x0) ([[(0, false,
 Blk.cols ml
 [Col.str tl, Col.int IntKind.i64 vl, Col.int IntKind.i64 gl,
 Col.int IntKind.i64 wl])]]) (2)))
 (False))
 (Kret (PV.int IntKind.i64 (-1 : Int)) ([[(0, false,
 Blk.cols ml
 [Col.str tl, Col.int IntKind.i64 vl, Col.int IntKind.i64 gl,
 Col.int IntKind.i64 wl])]]) (1))
set_option maxRecDepth 100000 in
theorem t51_0 (test : Bool → Prop → Prop → Prop) (Kst : KS) (Kret : KR) (al nl ml : Nat) (tl : Nat → ByteArray) (vl : Nat → Int) (gl : Nat → Int) (wl : Nat → Int) (x0 : Int) : run test Try.env true (xR test) true 400 ⟨51, hd Try.f51 0, zipT [0, 7, 8] [PV.loose (PA.mk (0) (4) al (0)) nl, PV.int IntKind.i64 (↑nl : Int),
 PV.int IntKind.i64 x0], [[], [(0, (false, .cols ml [.str tl, .int .i64 vl, .int .i64 gl, .int .i64 wl]))]], 1⟩ (proj 1 [0, 7, 8] Kst Kret) =
  T51_0 test Kst Kret al nl ml tl vl gl wl x0 := by kernel_rfl
attribute [local irreducible] Int.subNatNat in
set_option maxRecDepth 100000 in
theorem be51 (al nl ml : Nat) (tl : Nat → ByteArray) (vl : Nat → Int) (gl : Nat → Int) (wl : Nat → Int) (Kst : KS) (Kret : KR) (x : St51 ⊕ Rt51) (hS : HS 1 400 ((I51 al nl ml tl vl gl wl)) Kst x) (hR : HR 1 400 ((V51 al nl ml tl vl gl wl)) (fun r => [newL (1 + 1) ((N51 al nl ml tl vl gl wl) r) ++ [(0, (false, .cols ml [.str tl, .int .i64 vl, .int .i64 gl, .int .i64 wl]))]]) Kret x) (h : (some (.inl (.h0 ((0 : Int)))) : Option (St51 ⊕ Rt51)) = some x) : Te51 cond Kst Kret al nl ml tl vl gl wl := by
  unfold Te51
  exact stop_at hS _ h (fun n => n) rfl rfl rfl ⟨(rn_loose (use_lo rfl) rfl rfl rfl), ⟨(rn_int rfl), ⟨(rn_int rfl), trivial⟩⟩⟩ rfl (entl_bor (use_lo rfl) rfl rfl entl_nil)
attribute [local irreducible] Int.subNatNat in
set_option maxRecDepth 100000 in
theorem b51_0 (al nl ml : Nat) (tl : Nat → ByteArray) (vl : Nat → Int) (gl : Nat → Int) (wl : Nat → Int) (Kst : KS) (Kret : KR) (x : St51 ⊕ Rt51) (hS : HS 1 400 ((I51 al nl ml tl vl gl wl)) Kst x) (hR : HR 1 400 ((V51 al nl ml tl vl gl wl)) (fun r => [newL (1 + 1) ((N51 al nl ml tl vl gl wl) r) ++ [(0, (false, .cols ml [.str tl, .int .i64 vl, .int .i64 gl, .int .i64 wl]))]]) Kret x) (x0 : Int) (h : (bif (decide (x0 < (↑nl : Int)))
 then (bif (decide
 (al + nl ≤ ml ∧
 ((0 : Int) ≤ x0 ∧ x0 < (↑nl : Int)) ∧
 (S.okT nl (fun (j : Nat) => vl (j + al)) (fun (j : Nat) => gl (j + al)) fun (j : Nat) => wl (j + al)) =
 true))
 then (bif (Prod.snd
 (S.resT (fun (j : Nat) => vl (j + al)) (fun (j : Nat) => gl (j + al)) (fun (j : Nat) => wl (j + al))
 (Int.toNat x0)))
 then (bif (lim IntKind.i64 (x0 + (1 : Int)))
 then (some (.inl (.h0 (x0 + (1 : Int)))))
 else (none))
 else (some (.inr (x0))))
 else (none))
 else (some (.inr ((-1 : Int)))) : Option (St51 ⊕ Rt51)) = some x) : T51_0 cond Kst Kret al nl ml tl vl gl wl x0 := by
  unfold T51_0
  exact bif_split h
   (fun c0 h => bif_split h
   (fun c1 h => bif_split h
   (fun c2 h => bif_split h
   (fun c3 h => stop_at hS _ h (fun n => n) rfl rfl rfl ⟨(rn_loose (use_lo rfl) rfl rfl rfl), ⟨(rn_int rfl), ⟨(rn_int rfl), trivial⟩⟩⟩ rfl (entl_bor (use_lo rfl) rfl rfl entl_nil))
   (fun c3 h => no_some h))
   (fun c2 h => ret_at hR _ h (fun n => n) rfl rfl rfl (rn_int rfl) rfl (entl_bor (use_lo rfl) rfl rfl entl_nil)))
   (fun c1 h => no_some h))
   (fun c0 h => ret_at hR _ h (fun n => n) rfl rfl rfl (rn_int rfl) rfl (entl_bor (use_lo rfl) rfl rfl entl_nil))
theorem a51 (al nl ml : Nat) (tl : Nat → ByteArray) (vl : Nat → Int) (gl : Nat → Int) (wl : Nat → Int) {r : Rt51} (h : Goes ((q51 al nl ml tl vl gl wl)) ((p51 al nl ml tl vl gl wl)) r) : CallR Try.prog 51 [.loose ⟨0, 4, al, 0⟩ nl] [[(0, (false, .cols ml [.str tl, .int .i64 vl, .int .i64 gl, .int .i64 wl]))]] 1 ((V51 al nl ml tl vl gl wl) r) ((fun r => [newL (1 + 1) ((N51 al nl ml tl vl gl wl) r) ++ [(0, (false, .cols ml [.str tl, .int .i64 vl, .int .i64 gl, .int .i64 wl]))]]) r) 400 ∧ ∃ F, Try.prog.funcs[51]? = some F ∧ F.body.isSome = true ∧ (F.name == "runtime.NumGoroutine") = false := by
  refine dec_calls (sy := true) (f := 51) (lo := 1) (hi := 400) (H := [[(0, (false, .cols ml [.str tl, .int .i64 vl, .int .i64 gl, .int .i64 wl]))]]) (args := [.loose ⟨0, 4, al, 0⟩ nl]) Try.envOk Try.mixed xR_ok ((I51 al nl ml tl vl gl wl)) ((V51 al nl ml tl vl gl wl)) (fun r => [newL (1 + 1) ((N51 al nl ml tl vl gl wl) r) ++ [(0, (false, .cols ml [.str tl, .int .i64 vl, .int .i64 gl, .int .i64 wl]))]]) (fn := mkFn Try.f51) (ts := [0, 7, 8]) (n := 400) rfl (by decide) (by simp) (names_of rfl) ?_ ?_ ?_ h
  · intro s; cases s <;> exact ⟨hd_ok _ _, by simp [I51], names_of rfl, Nat.le_of_ble_eq_true rfl⟩
  · intro Kst Kret x hS hR h
    exact Holds.eq (te51 cond Kst Kret al nl ml tl vl gl wl) (be51 al nl ml tl vl gl wl Kst Kret x hS hR h)
  · intro Kst Kret x hS hR s h
    cases s with
    | h0 x0 => exact Holds.eq (t51_0 cond Kst Kret al nl ml tl vl gl wl x0) (b51_0 al nl ml tl vl gl wl Kst Kret x hS hR x0 h)
noncomputable def k51 : Con := ⟨51, [.one (.list [.str, .int .i64, .int .i64, .int .i64])], fun (x : (Nat × Nat × Nat × (Nat → ByteArray) × (Nat → Int) × (Nat → Int) × (Nat → Int) × Unit) × Unit) => (fun (al nl ml : Nat) (tl : Nat → ByteArray) (vl : Nat → Int) (gl : Nat → Int) (wl : Nat → Int) => decide (al + nl ≤ ml ∧ S.okT nl (fun j => vl (j + al)) (fun j => gl (j + al)) (fun j => wl (j + al)) = true)) x.1.1 x.1.2.1 x.1.2.2.1 x.1.2.2.2.1 x.1.2.2.2.2.1 x.1.2.2.2.2.2.1 x.1.2.2.2.2.2.2.1, fun (x : (Nat × Nat × Nat × (Nat → ByteArray) × (Nat → Int) × (Nat → Int) × (Nat → Int) × Unit) × Unit) => (fun (al nl ml : Nat) (tl : Nat → ByteArray) (vl : Nat → Int) (gl : Nat → Int) (wl : Nat → Int) => (V51 al nl ml tl vl gl wl) (S.misT nl (fun j => vl (j + al)) (fun j => gl (j + al)) (fun j => wl (j + al)))) x.1.1 x.1.2.1 x.1.2.2.1 x.1.2.2.2.1 x.1.2.2.2.2.1 x.1.2.2.2.2.2.1 x.1.2.2.2.2.2.2.1, fun (x : (Nat × Nat × Nat × (Nat → ByteArray) × (Nat → Int) × (Nat → Int) × (Nat → Int) × Unit) × Unit) => (fun (al nl ml : Nat) (tl : Nat → ByteArray) (vl : Nat → Int) (gl : Nat → Int) (wl : Nat → Int) => (N51 al nl ml tl vl gl wl) (S.misT nl (fun j => vl (j + al)) (fun j => gl (j + al)) (fun j => wl (j + al)))) x.1.1 x.1.2.1 x.1.2.2.1 x.1.2.2.2.1 x.1.2.2.2.2.1 x.1.2.2.2.2.2.1 x.1.2.2.2.2.2.2.1, fun _ _ => .dead⟩
theorem s51' (al nl ml : Nat) (tl : Nat → ByteArray) (vl : Nat → Int) (gl : Nat → Int) (wl : Nat → Int) (hp : al + nl ≤ ml ∧ S.okT nl (fun j => vl (j + al)) (fun j => gl (j + al)) (fun j => wl (j + al)) = true) : ∀ (k i : Nat), i + k = nl → Comes (q51 al nl ml tl vl gl wl) (.h0 (i : Int)) (S.idx (fun i => !(S.resT (fun j => vl (j + al)) (fun j => gl (j + al)) (fun j => wl (j + al)) i).2) i k) := by
  have hp' := hp
  obtain ⟨hp1, hT⟩ := hp
  have h8 := (okT_at hT).1
  intro k
  induction k with
  | zero =>
    intro i hi
    clear hT
    apply Comes.of
    show Goes _ _ _
    (first | rw [q51] | unfold q51)
    repeat' first
      | with_reducible refine goes_if (fun h => ?_) (fun h => ?_) <;> (try simp only [lim64, imp_false, decide_eq_true_eq, decide_eq_false_iff_not, Int.toNat_natCast, toNat_pred, toNat_succ, Option.getD_some, Option.getD_none, Bool.not_eq_true', Bool.not_eq_false', Bool.and_eq_true, Bool.or_eq_true, Bool.and_eq_false_iff, Bool.or_eq_false_iff, bne_iff_ne, beq_iff_eq, bne_eq_false_iff_eq, beq_eq_false_iff_ne, ne_eq, not_and, Int.not_le, Int.not_lt, ge_iff_le, gt_iff_lt, Nat.not_lt, Nat.not_le, Bool.not_eq_true, Bool.not_eq_false, Bool.true_eq_false, Bool.false_eq_true, not_false_eq_true, not_true_eq_false] at h)
      | exact goes_none.mpr (by omega)
    all_goals first | (exfalso; omega) | rfl
  | succ k ih =>
    intro i hi
    have ih2 := ih (i + 1) (by omega)
    have hpr : decide (al + nl ≤ ml ∧ (0 ≤ (i : Int) ∧ (i : Int) < nl) ∧ S.okT nl (fun j => vl (j + al)) (fun j => gl (j + al)) (fun j => wl (j + al)) = true) = true := decide_eq_true ⟨hp1, ⟨by omega, by omega⟩, hT⟩
    clear ih
    by_cases hq : (S.resT (fun j => vl (j + al)) (fun j => gl (j + al)) (fun j => wl (j + al)) i).2 = true
    · have e : S.idx (fun i => !(S.resT (fun j => vl (j + al)) (fun j => gl (j + al)) (fun j => wl (j + al)) i).2) i (k + 1) = S.idx (fun i => !(S.resT (fun j => vl (j + al)) (fun j => gl (j + al)) (fun j => wl (j + al)) i).2) (i + 1) k := if_neg (by show ¬ ((!(S.resT (fun j => vl (j + al)) (fun j => gl (j + al)) (fun j => wl (j + al)) i).2) = true); rw [hq]; exact Bool.false_ne_true)
      rw [e]
      apply Comes.of
      rw [q51]
      simp only [Int.toNat_natCast, hpr, hq]
      clear hpr hT hp'
      repeat' first
        | with_reducible refine goes_if (fun h => ?_) (fun h => ?_) <;> (try simp only [lim64, imp_false, decide_eq_true_eq, decide_eq_false_iff_not, Int.toNat_natCast, toNat_pred, toNat_succ, Option.getD_some, Option.getD_none, Bool.not_eq_true', Bool.not_eq_false', Bool.and_eq_true, Bool.or_eq_true, Bool.and_eq_false_iff, Bool.or_eq_false_iff, bne_iff_ne, beq_iff_eq, bne_eq_false_iff_eq, beq_eq_false_iff_ne, ne_eq, not_and, Int.not_le, Int.not_lt, ge_iff_le, gt_iff_lt, Nat.not_lt, Nat.not_le, Bool.not_eq_true, Bool.not_eq_false, Bool.true_eq_false, Bool.false_eq_true, not_false_eq_true, not_true_eq_false] at h)
        | exact goes_none.mpr (by omega)
      all_goals first | (exfalso; omega) | exact ih2
    · have hq := Bool.eq_false_iff.mpr hq
      have e : S.idx (fun i => !(S.resT (fun j => vl (j + al)) (fun j => gl (j + al)) (fun j => wl (j + al)) i).2) i (k + 1) = i := if_pos (by show (!(S.resT (fun j => vl (j + al)) (fun j => gl (j + al)) (fun j => wl (j + al)) i).2) = true; rw [hq]; rfl)
      rw [e]
      apply Comes.of
      rw [q51]
      simp only [Int.toNat_natCast, hpr, hq]
      clear hpr hT ih2
      repeat' first
        | with_reducible refine goes_if (fun h => ?_) (fun h => ?_) <;> (try simp only [lim64, imp_false, decide_eq_true_eq, decide_eq_false_iff_not, Int.toNat_natCast, toNat_pred, toNat_succ, Option.getD_some, Option.getD_none, Bool.not_eq_true', Bool.not_eq_false', Bool.and_eq_true, Bool.or_eq_true, Bool.and_eq_false_iff, Bool.or_eq_false_iff, bne_iff_ne, beq_iff_eq, bne_eq_false_iff_eq, beq_eq_false_iff_ne, ne_eq, not_and, Int.not_le, Int.not_lt, ge_iff_le, gt_iff_lt, Nat.not_lt, Nat.not_le, Bool.not_eq_true, Bool.not_eq_false, Bool.true_eq_false, Bool.false_eq_true, not_false_eq_true, not_true_eq_false] at h)
        | exact goes_none.mpr (by omega)
      all_goals first | (exfalso; omega) | rfl
theorem s51 (al nl ml : Nat) (tl : Nat → ByteArray) (vl : Nat → Int) (gl : Nat → Int) (wl : Nat → Int) (hp : al + nl ≤ ml ∧ S.okT nl (fun j => vl (j + al)) (fun j => gl (j + al)) (fun j => wl (j + al)) = true) : Goes ((q51 al nl ml tl vl gl wl)) ((p51 al nl ml tl vl gl wl)) (S.misT nl (fun j => vl (j + al)) (fun j => gl (j + al)) (fun j => wl (j + al))) := by
  exact s51' al nl ml tl vl gl wl hp nl 0 (Nat.zero_add _)
theorem k51_ok : k51.ok Try.prog := by
  intro x hx
  obtain ⟨⟨al, nl, ml, tl, vl, gl, wl, _⟩, _⟩ := x
  obtain ⟨h1, h2⟩ := a51 al nl ml tl vl gl wl (s51 al nl ml tl vl gl wl (of_dec hx rfl))
  exact ⟨⟨400, (by decide : 1 + 1 + 0 ≤ 400), h1⟩, h2⟩
inductive St52 where
  | h0 (x0 : Int)
abbrev Rt52 := Int
noncomputable def V52 (al nl ml : Nat) (tl : Nat → ByteArray) (vl : Nat → Int) (gl : Nat → Int) (wl : Nat → Int) (r : Rt52) : PV := PV.int IntKind.i64 r
noncomputable def N52 (al nl ml : Nat) (tl : Nat → ByteArray) (vl : Nat → Int) (gl : Nat → Int) (wl : Nat → Int) (r : Rt52) : List Blk := []
noncomputable def I52 (al nl ml : Nat) (tl : Nat → ByteArray) (vl : Nat → Int) (gl : Nat → Int) (wl : Nat → Int) : St52 → Hd
  | .h0 x0 => ⟨hd Try.f52 0, [PV.loose (PA.mk (0) (4) al (0)) nl, PV.int IntKind.i64 x0], [[], [(0, (false, .cols ml [.str tl, .int .i64 vl, .int .i64 gl, .int .i64 wl]))]], 1⟩
noncomputable def q52 (al nl ml : Nat) (tl : Nat → ByteArray) (vl : Nat → Int) (gl : Nat → Int) (wl : Nat → Int) : St52 → Option (St52 ⊕ Rt52)
  | .h0 x0 => bif (decide (x0 < (↑nl : Int)))
 then (bif (decide
 (al + nl ≤ ml ∧
 ((0 : Int) ≤ x0 ∧ x0 < (↑nl : Int)) ∧
 (S.okT nl (fun (j : Nat) => vl (j + al)) (fun (j : Nat) => gl (j + al)) fun (j : Nat) => wl (j + al)) =
 true))
 then (bif (Prod.snd
 (S.resT (fun (j : Nat) => vl (j + al)) (fun (j : Nat) => gl (j + al)) (fun (j : Nat) => wl (j + al))
 (Int.toNat x0)))
 then (bif (lim IntKind.i64 (x0 + (1 : Int)))
 then (some (.inl (.h0 (x0 + (1 : Int)))))
 else (none))
 else (some (.inr (x0))))
 else (none))
 else (some (.inr ((-1 : Int))))
noncomputable def p52 (al nl ml : Nat) (tl : Nat → ByteArray) (vl : Nat → Int) (gl : Nat → Int) (wl : Nat → Int) : Option (St52 ⊕ Rt52) := some (.inl (.h0 ((0 : Int))))
noncomputable def Te52 (test : Bool → Prop → Prop → Prop) (Kst : KS) (Kret : KR) (al nl ml : Nat) (tl : Nat → ByteArray) (vl : Nat → Int) (gl : Nat → Int) (wl : Nat → Int) : Prop :=
  Kst (hd Try.f52 0) ([PV.loose (PA.mk (0) (4) al (0)) nl, PV.int IntKind.i64 (0 : Int)]) ([[(0, false,
 Blk.cols ml
 [Col.str tl, Col.int IntKind.i64 vl, Col.int IntKind.i64 gl,
 Col.int IntKind.i64 wl])]]) (1)
set_option maxRecDepth 100000 in
theorem te52 (test : Bool → Prop → Prop → Prop) (Kst : KS) (Kret : KR) (al nl ml : Nat) (tl : Nat → ByteArray) (vl : Nat → Int) (gl : Nat → Int) (wl : Nat → Int) : run test Try.env true (xR test) true 400 ⟨52, [.cd (mkFn Try.f52).body], argT 0 [.loose ⟨0, 4, al, 0⟩ nl], [[], [(0, (false, .cols ml [.str tl, .int .i64 vl, .int .i64 gl, .int .i64 wl]))]], 1⟩ (proj 1 [0, 3] Kst Kret) =
  Te52 test Kst Kret al nl ml tl vl gl wl := by kernel_rfl
noncomputable def T52_0 (test : Bool → Prop → Prop → Prop) (Kst : KS) (Kret : KR) (al nl ml : Nat) (tl : Nat → ByteArray) (vl : Nat → Int) (gl : Nat → Int) (wl : Nat → Int) (x0 : Int) : Prop :=
  test (decide (x0 < (↑nl : Int)))
 (test (decide
 (al + nl ≤ ml ∧
 ((0 : Int) ≤ x0 ∧ x0 < (↑nl : Int)) ∧
 (S.okT nl (fun (j : Nat) => vl (j + al)) (fun (j : Nat) => gl (j + al)) fun (j : Nat) => wl (j + al)) =
 true))
 (test (Prod.snd
 (S.resT (fun (j : Nat) => vl (j + al)) (fun (j : Nat) => gl (j + al)) (fun (j : Nat) => wl (j + al))
 (Int.toNat x0)))
 (test (lim IntKind.i64 (x0 + (1 : Int)))
 (Kst (hd Try.f52 0) ([PV.loose (PA.mk (0) (4) al (0)) nl, PV.int IntKind.i64 (x0 + (1 : Int))]) ([[(0, false,
 Blk.cols ml
 [Col.str tl, Col.int IntKind.i64 vl, Col.int IntKind.i64 gl,
 Col.int IntKind.i64 wl])]]) (2))
 (False))
 (Kret (PV.int IntKind.i64 x0) ([[(0, false,
 Blk.cols ml
 [Col.str tl, Col.int IntKind.i64 vl, Col.int IntKind.i64 gl,
 Col.int IntKind.i64 wl])]]) (2)))
 (False))
 (Kret (PV.int IntKind.i64 (-1 : Int)) ([[(0, false,
 Blk.cols ml
 [Col.str tl, Col.int IntKind.i64 vl, Col.int IntKind.i64 gl,
 Col.int IntKind.i64 wl])]]) (1))
set_option maxRecDepth 100000 in
theorem t52_0 (test : Bool → Prop → Prop → Prop) (Kst : KS) (Kret : KR) (al nl ml : Nat) (tl : Nat → ByteArray) (vl : Nat → Int) (gl : Nat → Int) (wl : Nat → Int) (x0 : Int) : run test Try.env true (xR test) true 400 ⟨52, hd Try.f52 0, zipT [0, 3] [PV.loose (PA.mk (0) (4) al (0)) nl, PV.int IntKind.i64 x0], [[], [(0, (false, .cols ml [.str tl, .int .i64 vl, .int .i64 gl, .int .i64 wl]))]], 1⟩ (proj 1 [0, 3] Kst Kret) =
  T52_0 test Kst Kret al nl ml tl vl gl wl x0 := by kernel_rfl
attribute [local irreducible] Int.subNatNat in
set_option maxRecDepth 100000 in
theorem be52 (al nl ml : Nat) (tl : Nat → ByteArray) (vl : Nat → Int) (gl : Nat → Int) (wl : Nat → Int) (Kst : KS) (Kret : KR) (x : St52 ⊕ Rt52) (hS : HS 1 400 ((I52 al nl ml tl vl gl wl)) Kst x) (hR : HR 1 400 ((V52 al nl ml tl vl gl wl)) (fun r => [newL (1 + 1) ((N52 al nl ml tl vl gl wl) r) ++ [(0, (false, .cols ml [.str tl, .int .i64 vl, .int .i64 gl, .int .i64 wl]))]]) Kret x) (h : (some (.inl (.h0 ((0 : Int)))) : Option (St52 ⊕ Rt52)) = some x) : Te52 cond Kst Kret al nl ml tl vl gl wl := by
  unfold Te52
  exact stop_at hS _ h (fun n => n) rfl rfl rfl ⟨(rn_loose (use_lo rfl) rfl rfl rfl), ⟨(rn_int rfl), trivial⟩⟩ rfl (entl_bor (use_lo rfl) rfl rfl entl_nil)
attribute [local irreducible] Int.subNatNat in
set_option maxRecDepth 100000 in
theorem b52_0 (al nl ml : Nat) (tl : Nat → ByteArray) (vl : Nat → Int) (gl : Nat → Int) (wl : Nat → Int) (Kst : KS) (Kret : KR) (x : St52 ⊕ Rt52) (hS : HS 1 400 ((I52 al nl ml tl vl gl wl)) Kst x) (hR : HR 1 400 ((V52 al nl ml tl vl gl wl)) (fun r => [newL (1 + 1) ((N52 al nl ml tl vl gl wl) r) ++ [(0, (false, .cols ml [.str tl, .int .i64 vl, .int .i64 gl, .int .i64 wl]))]]) Kret x) (x0 : Int) (h : (bif (decide (x0 < (↑nl : Int)))
 then (bif (decide
 (al + nl ≤ ml ∧
 ((0 : Int) ≤ x0 ∧ x0 < (↑nl : Int)) ∧
 (S.okT nl (fun (j : Nat) => vl (j + al)) (fun (j : Nat) => gl (j + al)) fun (j : Nat) => wl (j + al)) =
 true))
 then (bif (Prod.snd
 (S.resT (fun (j : Nat) => vl (j + al)) (fun (j : Nat) => gl (j + al)) (fun (j : Nat) => wl (j + al))
 (Int.toNat x0)))
 then (bif (lim IntKind.i64 (x0 + (1 : Int)))
 then (some (.inl (.h0 (x0 + (1 : Int)))))
 else (none))
 else (some (.inr (x0))))
 else (none))
 else (some (.inr ((-1 : Int)))) : Option (St52 ⊕ Rt52)) = some x) : T52_0 cond Kst Kret al nl ml tl vl gl wl x0 := by
  unfold T52_0
  exact bif_split h
   (fun c0 h => bif_split h
   (fun c1 h => bif_split h
   (fun c2 h => bif_split h
   (fun c3 h => stop_at hS _ h (fun n => n) rfl rfl rfl ⟨(rn_loose (use_lo rfl) rfl rfl rfl), ⟨(rn_int rfl), trivial⟩⟩ rfl (entl_bor (use_lo rfl) rfl rfl entl_nil))
   (fun c3 h => no_some h))
   (fun c2 h => ret_at hR _ h (fun n => n) rfl rfl rfl (rn_int rfl) rfl (entl_bor (use_lo rfl) rfl rfl entl_nil)))
   (fun c1 h => no_some h))
   (fun c0 h => ret_at hR _ h (fun n => n) rfl rfl rfl (rn_int rfl) rfl (entl_bor (use_lo rfl) rfl rfl entl_nil))
theorem a52 (al nl ml : Nat) (tl : Nat → ByteArray) (vl : Nat → Int) (gl : Nat → Int) (wl : Nat → Int) {r : Rt52} (h : Goes ((q52 al nl ml tl vl gl wl)) ((p52 al nl ml tl vl gl wl)) r) : CallR Try.prog 52 [.loose ⟨0, 4, al, 0⟩ nl] [[(0, (false, .cols ml [.str tl, .int .i64 vl, .int .i64 gl, .int .i64 wl]))]] 1 ((V52 al nl ml tl vl gl wl) r) ((fun r => [newL (1 + 1) ((N52 al nl ml tl vl gl wl) r) ++ [(0, (false, .cols ml [.str tl, .int .i64 vl, .int .i64 gl, .int .i64 wl]))]]) r) 400 ∧ ∃ F, Try.prog.funcs[52]? = some F ∧ F.body.isSome = true ∧ (F.name == "runtime.NumGoroutine") = false := by
  refine dec_calls (sy := true) (f := 52) (lo := 1) (hi := 400) (H := [[(0, (false, .cols ml [.str tl, .int .i64 vl, .int .i64 gl, .int .i64 wl]))]]) (args := [.loose ⟨0, 4, al, 0⟩ nl]) Try.envOk Try.mixed xR_ok ((I52 al nl ml tl vl gl wl)) ((V52 al nl ml tl vl gl wl)) (fun r => [newL (1 + 1) ((N52 al nl ml tl vl gl wl) r) ++ [(0, (false, .cols ml [.str tl, .int .i64 vl, .int .i64 gl, .int .i64 wl]))]]) (fn := mkFn Try.f52) (ts := [0, 3]) (n := 400) rfl (by decide) (by simp) (names_of rfl) ?_ ?_ ?_ h
  · intro s; cases s <;> exact ⟨hd_ok _ _, by simp [I52], names_of rfl, Nat.le_of_ble_eq_true rfl⟩
  · intro Kst Kret x hS hR h
    exact Holds.eq (te52 cond Kst Kret al nl ml tl vl gl wl) (be52 al nl ml tl vl gl wl Kst Kret x hS hR h)
  · intro Kst Kret x hS hR s h
    cases s with
    | h0 x0 => exact Holds.eq (t52_0 cond Kst Kret al nl ml tl vl gl wl x0) (b52_0 al nl ml tl vl gl wl Kst Kret x hS hR x0 h)
noncomputable def k52 : Con := ⟨52, [.one (.list [.str, .int .i64, .int .i64, .int .i64])], fun (x : (Nat × Nat × Nat × (Nat → ByteArray) × (Nat → Int) × (Nat → Int) × (Nat → Int) × Unit) × Unit) => (fun (al nl ml : Nat) (tl : Nat → ByteArray) (vl : Nat → Int) (gl : Nat → Int) (wl : Nat → Int) => decide (al + nl ≤ ml ∧ S.okT nl (fun j => vl (j + al)) (fun j => gl (j + al)) (fun j => wl (j + al)) = true)) x.1.1 x.1.2.1 x.1.2.2.1 x.1.2.2.2.1 x.1.2.2.2.2.1 x.1.2.2.2.2.2.1 x.1.2.2.2.2.2.2.1, fun (x : (Nat × Nat × Nat × (Nat → ByteArray) × (Nat → Int) × (Nat → Int) × (Nat → Int) × Unit) × Unit) => (fun (al nl ml : Nat) (tl : Nat → ByteArray) (vl : Nat → Int) (gl : Nat → Int) (wl : Nat → Int) => (V52 al nl ml tl vl gl wl) (S.misT nl (fun j => vl (j + al)) (fun j => gl (j + al)) (fun j => wl (j + al)))) x.1.1 x.1.2.1 x.1.2.2.1 x.1.2.2.2.1 x.1.2.2.2.2.1 x.1.2.2.2.2.2.1 x.1.2.2.2.2.2.2.1, fun (x : (Nat × Nat × Nat × (Nat → ByteArray) × (Nat → Int) × (Nat → Int) × (Nat → Int) × Unit) × Unit) => (fun (al nl ml : Nat) (tl : Nat → ByteArray) (vl : Nat → Int) (gl : Nat → Int) (wl : Nat → Int) => (N52 al nl ml tl vl gl wl) (S.misT nl (fun j => vl (j + al)) (fun j => gl (j + al)) (fun j => wl (j + al)))) x.1.1 x.1.2.1 x.1.2.2.1 x.1.2.2.2.1 x.1.2.2.2.2.1 x.1.2.2.2.2.2.1 x.1.2.2.2.2.2.2.1, fun _ _ => .dead⟩
theorem s52' (al nl ml : Nat) (tl : Nat → ByteArray) (vl : Nat → Int) (gl : Nat → Int) (wl : Nat → Int) (hp : al + nl ≤ ml ∧ S.okT nl (fun j => vl (j + al)) (fun j => gl (j + al)) (fun j => wl (j + al)) = true) : ∀ (k i : Nat), i + k = nl → Comes (q52 al nl ml tl vl gl wl) (.h0 (i : Int)) (S.idx (fun i => !(S.resT (fun j => vl (j + al)) (fun j => gl (j + al)) (fun j => wl (j + al)) i).2) i k) := by
  have hp' := hp
  obtain ⟨hp1, hT⟩ := hp
  have h8 := (okT_at hT).1
  intro k
  induction k with
  | zero =>
    intro i hi
    clear hT
    apply Comes.of
    show Goes _ _ _
    (first | rw [q52] | unfold q52)
    repeat' first
      | with_reducible refine goes_if (fun h => ?_) (fun h => ?_) <;> (try simp only [lim64, imp_false, decide_eq_true_eq, decide_eq_false_iff_not, Int.toNat_natCast, toNat_pred, toNat_succ, Option.getD_some, Option.getD_none, Bool.not_eq_true', Bool.not_eq_false', Bool.and_eq_true, Bool.or_eq_true, Bool.and_eq_false_iff, Bool.or_eq_false_iff, bne_iff_ne, beq_iff_eq, bne_eq_false_iff_eq, beq_eq_false_iff_ne, ne_eq, not_and, Int.not_le, Int.not_lt, ge_iff_le, gt_iff_lt, Nat.not_lt, Nat.not_le, Bool.not_eq_true, Bool.not_eq_false, Bool.true_eq_false, Bool.false_eq_true, not_false_eq_true, not_true_eq_false] at h)
      | exact goes_none.mpr (by omega)
    all_goals first | (exfalso; omega) | rfl
  | succ k ih =>
    intro i hi
    have ih2 := ih (i + 1) (by omega)
    have hpr : decide (al + nl ≤ ml ∧ (0 ≤ (i : Int) ∧ (i : Int) < nl) ∧ S.okT nl (fun j => vl (j + al)) (fun j => gl (j + al)) (fun j => wl (j + al)) = true) = true := decide_eq_true ⟨hp1, ⟨by omega, by omega⟩, hT⟩
    clear ih
    by_cases hq : (S.resT (fun j => vl (j + al)) (fun j => gl (j + al)) (fun j => wl (j + al)) i).2 = true
    · have e : S.idx (fun i => !(S.resT (fun j => vl (j + al)) (fun j => gl (j + al)) (fun j => wl (j + al)) i).2) i (k + 1) = S.idx (fun i => !(S.resT (fun j => vl (j + al)) (fun j => gl (j + al)) (fun j => wl (j + al)) i).2) (i + 1) k := if_neg (by show ¬ ((!(S.resT (fun j => vl (j + al)) (fun j => gl (j + al)) (fun j => wl (j + al)) i).2) = true); rw [hq]; exact Bool.false_ne_true)
      rw [e]
      apply Comes.of
      rw [q52]
      simp only [Int.toNat_natCast, hpr, hq]
      clear hpr hT hp'
      repeat' first
        | with_reducible refine goes_if (fun h => ?_) (fun h => ?_) <;> (try simp only [lim64, imp_false, decide_eq_true_eq, decide_eq_false_iff_not, Int.toNat_natCast, toNat_pred, toNat_succ, Option.getD_some, Option.getD_none, Bool.not_eq_true', Bool.not_eq_false', Bool.and_eq_true, Bool.or_eq_true, Bool.and_eq_false_iff, Bool.or_eq_false_iff, bne_iff_ne, beq_iff_eq, bne_eq_false_iff_eq, beq_eq_false_iff_ne, ne_eq, not_and, Int.not_le, Int.not_lt, ge_iff_le, gt_iff_lt, Nat.not_lt, Nat.not_le, Bool.not_eq_true, Bool.not_eq_false, Bool.true_eq_false, Bool.false_eq_true, not_false_eq_true, not_true_eq_false] at h)
        | exact goes_none.mpr (by omega)
      all_goals first | (exfalso; omega) | exact ih2
    · have hq := Bool.eq_false_iff.mpr hq
      have e : S.idx (fun i => !(S.resT (fun j => vl (j + al)) (fun j => gl (j + al)) (fun j => wl (j + al)) i).2) i (k + 1) = i := if_pos (by show (!(S.resT (fun j => vl (j + al)) (fun j => gl (j + al)) (fun j => wl (j + al)) i).2) = true; rw [hq]; rfl)
      rw [e]
      apply Comes.of
      rw [q52]
      simp only [Int.toNat_natCast, hpr, hq]
      clear hpr hT ih2
      repeat' first
        | with_reducible refine goes_if (fun h => ?_) (fun h => ?_) <;> (try simp only [lim64, imp_false, decide_eq_true_eq, decide_eq_false_iff_not, Int.toNat_natCast, toNat_pred, toNat_succ, Option.getD_some, Option.getD_none, Bool.not_eq_true', Bool.not_eq_false', Bool.and_eq_true, Bool.or_eq_true, Bool.and_eq_false_iff, Bool.or_eq_false_iff, bne_iff_ne, beq_iff_eq, bne_eq_false_iff_eq, beq_eq_false_iff_ne, ne_eq, not_and, Int.not_le, Int.not_lt, ge_iff_le, gt_iff_lt, Nat.not_lt, Nat.not_le, Bool.not_eq_true, Bool.not_eq_false, Bool.true_eq_false, Bool.false_eq_true, not_false_eq_true, not_true_eq_false] at h)
        | exact goes_none.mpr (by omega)
      all_goals first | (exfalso; omega) | rfl
theorem s52 (al nl ml : Nat) (tl : Nat → ByteArray) (vl : Nat → Int) (gl : Nat → Int) (wl : Nat → Int) (hp : al + nl ≤ ml ∧ S.okT nl (fun j => vl (j + al)) (fun j => gl (j + al)) (fun j => wl (j + al)) = true) : Goes ((q52 al nl ml tl vl gl wl)) ((p52 al nl ml tl vl gl wl)) (S.misT nl (fun j => vl (j + al)) (fun j => gl (j + al)) (fun j => wl (j + al))) := by
  exact s52' al nl ml tl vl gl wl hp nl 0 (Nat.zero_add _)
theorem k52_ok : k52.ok Try.prog := by
  intro x hx
  obtain ⟨⟨al, nl, ml, tl, vl, gl, wl, _⟩, _⟩ := x
  obtain ⟨h1, h2⟩ := a52 al nl ml tl vl gl wl (s52 al nl ml tl vl gl wl (of_dec hx rfl))
  exact ⟨⟨400, (by decide : 1 + 1 + 0 ≤ 400), h1⟩, h2⟩
noncomputable def xM (test : Bool → Prop → Prop → Prop) : Ext := consX test [k17, k18, k43, k44, k51, k52, k50, k53]
theorem xM_ok : ExtOk Try.prog (xM cond) := consX_ok ⟨k17_ok, k18_ok, k43_ok, k44_ok, k51_ok, k52_ok, k50_ok, k53_ok, trivial⟩

end Go.Ev
