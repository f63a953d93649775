/-
  Response times.
-/
import Derived.Test.YtofnanmggmeleaaD1
namespace Go.Ev
open Go.Proofs
set_option linter.unusedVariables false
set_option linter.unusedSimpArgs false
set_option maxRecDepth 100000
inductive St43 where
  | h0 (x0 : Int)
abbrev Rt43 := Int × Bool
noncomputable def V43 (al nl ml : Nat) (tl : Nat → ByteArray) (vl : Nat → Int) (gl : Nat → Int) (wl : Nat → Int) (cn : Int) (r : Rt43) : PV := PV.tup [PV.int IntKind.i64 r.1, PV.bool r.2]
noncomputable def N43 (al nl ml : Nat) (tl : Nat → ByteArray) (vl : Nat → Int) (gl : Nat → Int) (wl : Nat → Int) (cn : Int) (r : Rt43) : List Blk := []
noncomputable def I43 (al nl ml : Nat) (tl : Nat → ByteArray) (vl : Nat → Int) (gl : Nat → Int) (wl : Nat → Int) (cn : Int) : St43 → Hd
  | .h0 x0 => ⟨hd Try.f43 0, [PV.loose (PA.mk (0) (4) al (0)) nl, PV.int IntKind.i64 cn,
 PV.int IntKind.i64 x0], [[], [(0, (false, .cols ml [.str tl, .int .i64 vl, .int .i64 gl, .int .i64 wl]))]], 1⟩
noncomputable def q43 (al nl ml : Nat) (tl : Nat → ByteArray) (vl : Nat → Int) (gl : Nat → Int) (wl : Nat → Int) (cn : Int) : St43 → Option (St43 ⊕ Rt43)
  | .h0 x0 => bif (decide ((0 : Int) ≤ cn ∧ cn < (↑nl : Int)))
 then (bif (decide (Int.toNat cn + al < ml))
 then (bif (decide (x0 ≤ wl (Int.toNat cn + al)))
 then (bif (decide
 (al + nl ≤ ml ∧
 ((0 : Int) ≤ cn ∧ cn < (↑nl : Int)) ∧
 ((0 : Int) ≤ x0 ∧ x0 ≤ (1000000 : Int)) ∧
 (S.okT nl (fun (j : Nat) => vl (j + al)) (fun (j : Nat) => gl (j + al)) fun (j : Nat) => wl (j + al)) =
 true))
 then (bif (S.dem (fun (j : Nat) => vl (j + al)) (fun (j : Nat) => gl (j + al)) (Int.toNat cn) x0 == x0)
 then (some (.inr (x0, true)))
 else (some (.inl (.h0 (S.dem (fun (j : Nat) => vl (j + al)) (fun (j : Nat) => gl (j + al)) (Int.toNat cn) x0)))))
 else (none))
 else (some (.inr ((0 : Int), false))))
 else (none))
 else (none)
noncomputable def p43 (al nl ml : Nat) (tl : Nat → ByteArray) (vl : Nat → Int) (gl : Nat → Int) (wl : Nat → Int) (cn : Int) : Option (St43 ⊕ Rt43) := some (.inl (.h0 ((1 : Int))))
noncomputable def Te43 (test : Bool → Prop → Prop → Prop) (Kst : KS) (Kret : KR) (al nl ml : Nat) (tl : Nat → ByteArray) (vl : Nat → Int) (gl : Nat → Int) (wl : Nat → Int) (cn : Int) : Prop :=
  Kst (hd Try.f43 0) ([PV.loose (PA.mk (0) (4) al (0)) nl, PV.int IntKind.i64 cn,
 PV.int IntKind.i64 (1 : Int)]) ([[(0, false,
 Blk.cols ml
 [Col.str tl, Col.int IntKind.i64 vl, Col.int IntKind.i64 gl,
 Col.int IntKind.i64 wl])]]) (1)
set_option maxRecDepth 100000 in
theorem te43 (test : Bool → Prop → Prop → Prop) (Kst : KS) (Kret : KR) (al nl ml : Nat) (tl : Nat → ByteArray) (vl : Nat → Int) (gl : Nat → Int) (wl : Nat → Int) (cn : Int) : run test Try.env true (xD test) true 400 ⟨43, [.cd (mkFn Try.f43).body], argT 0 [.loose ⟨0, 4, al, 0⟩ nl, .int .i64 cn], [[], [(0, (false, .cols ml [.str tl, .int .i64 vl, .int .i64 gl, .int .i64 wl]))]], 1⟩ (proj 1 [0, 1, 6] Kst Kret) =
  Te43 test Kst Kret al nl ml tl vl gl wl cn := by kernel_rfl
noncomputable def T43_0 (test : Bool → Prop → Prop → Prop) (Kst : KS) (Kret : KR) (al nl ml : Nat) (tl : Nat → ByteArray) (vl : Nat → Int) (gl : Nat → Int) (wl : Nat → Int) (cn : Int) (x0 : Int) : Prop :=
  test (decide ((0 : Int) ≤ cn ∧ cn < (↑nl : Int)))
 (test (decide (Int.toNat cn + al < ml))
 (test (decide (x0 ≤ wl (Int.toNat cn + al)))
 (test (decide
 (al + nl ≤ ml ∧
 ((0 : Int) ≤ cn ∧ cn < (↑nl : Int)) ∧
 ((0 : Int) ≤ x0 ∧ x0 ≤ (1000000 : Int)) ∧
 (S.okT nl (fun (j : Nat) => vl (j + al)) (fun (j : Nat) => gl (j + al)) fun (j : Nat) => wl (j + al)) =
 true))
 (test (S.dem (fun (j : Nat) => vl (j + al)) (fun (j : Nat) => gl (j + al)) (Int.toNat cn) x0 == x0)
 (Kret (PV.tup [PV.int IntKind.i64 x0, PV.tf true]) ([[(0, false,
 Blk.cols ml
 [Col.str tl, Col.int IntKind.i64 vl, Col.int IntKind.i64 gl,
 Col.int IntKind.i64 wl])]]) (2))
 (Kst (hd Try.f43 0) ([PV.loose (PA.mk (0) (4) al (0)) nl, PV.int IntKind.i64 cn,
 PV.int IntKind.i64
 (S.dem (fun (j : Nat) => vl (j + al)) (fun (j : Nat) => gl (j + al)) (Int.toNat cn) x0)]) ([[(0, false,
 Blk.cols ml
 [Col.str tl, Col.int IntKind.i64 vl, Col.int IntKind.i64 gl,
 Col.int IntKind.i64 wl])]]) (2)))
 (False))
 (Kret (PV.tup [PV.int IntKind.i64 (0 : Int), PV.tf false]) ([[(0, false,
 Blk.cols ml
 [Col.str tl, Col.int IntKind.i64 vl, Col.int IntKind.i64 gl,
 Col.int IntKind.i64 wl])]]) (1)))
 (False))
 (False)
set_option maxRecDepth 100000 in
theorem t43_0 (test : Bool → Prop → Prop → Prop) (Kst : KS) (Kret : KR) (al nl ml : Nat) (tl : Nat → ByteArray) (vl : Nat → Int) (gl : Nat → Int) (wl : Nat → Int) (cn : Int) (x0 : Int) : run test Try.env true (xD test) true 400 ⟨43, hd Try.f43 0, zipT [0, 1, 6] [PV.loose (PA.mk (0) (4) al (0)) nl, PV.int IntKind.i64 cn,
 PV.int IntKind.i64 x0], [[], [(0, (false, .cols ml [.str tl, .int .i64 vl, .int .i64 gl, .int .i64 wl]))]], 1⟩ (proj 1 [0, 1, 6] Kst Kret) =
  T43_0 test Kst Kret al nl ml tl vl gl wl cn x0 := by kernel_rfl
attribute [local irreducible] Int.subNatNat in
set_option maxRecDepth 100000 in
theorem be43 (al nl ml : Nat) (tl : Nat → ByteArray) (vl : Nat → Int) (gl : Nat → Int) (wl : Nat → Int) (cn : Int) (Kst : KS) (Kret : KR) (x : St43 ⊕ Rt43) (hS : HS 1 400 ((I43 al nl ml tl vl gl wl cn)) Kst x) (hR : HR 1 400 ((V43 al nl ml tl vl gl wl cn)) (fun r => [newL (1 + 1) ((N43 al nl ml tl vl gl wl cn) r) ++ [(0, (false, .cols ml [.str tl, .int .i64 vl, .int .i64 gl, .int .i64 wl]))]]) Kret x) (h : (some (.inl (.h0 ((1 : Int)))) : Option (St43 ⊕ Rt43)) = some x) : Te43 cond Kst Kret al nl ml tl vl gl wl cn := by
  unfold Te43
  exact stop_at hS _ h (fun n => n) rfl rfl rfl ⟨(rn_loose (use_lo rfl) rfl rfl rfl), ⟨(rn_int rfl), ⟨(rn_int rfl), trivial⟩⟩⟩ rfl (entl_bor (use_lo rfl) rfl rfl entl_nil)
attribute [local irreducible] Int.subNatNat in
set_option maxRecDepth 100000 in
theorem b43_0 (al nl ml : Nat) (tl : Nat → ByteArray) (vl : Nat → Int) (gl : Nat → Int) (wl : Nat → Int) (cn : Int) (Kst : KS) (Kret : KR) (x : St43 ⊕ Rt43) (hS : HS 1 400 ((I43 al nl ml tl vl gl wl cn)) Kst x) (hR : HR 1 400 ((V43 al nl ml tl vl gl wl cn)) (fun r => [newL (1 + 1) ((N43 al nl ml tl vl gl wl cn) r) ++ [(0, (false, .cols ml [.str tl, .int .i64 vl, .int .i64 gl, .int .i64 wl]))]]) Kret x) (x0 : Int) (h : (bif (decide ((0 : Int) ≤ cn ∧ cn < (↑nl : Int)))
 then (bif (decide (Int.toNat cn + al < ml))
 then (bif (decide (x0 ≤ wl (Int.toNat cn + al)))
 then (bif (decide
 (al + nl ≤ ml ∧
 ((0 : Int) ≤ cn ∧ cn < (↑nl : Int)) ∧
 ((0 : Int) ≤ x0 ∧ x0 ≤ (1000000 : Int)) ∧
 (S.okT nl (fun (j : Nat) => vl (j + al)) (fun (j : Nat) => gl (j + al)) fun (j : Nat) => wl (j + al)) =
 true))
 then (bif (S.dem (fun (j : Nat) => vl (j + al)) (fun (j : Nat) => gl (j + al)) (Int.toNat cn) x0 == x0)
 then (some (.inr (x0, true)))
 else (some (.inl (.h0 (S.dem (fun (j : Nat) => vl (j + al)) (fun (j : Nat) => gl (j + al)) (Int.toNat cn) x0)))))
 else (none))
 else (some (.inr ((0 : Int), false))))
 else (none))
 else (none) : Option (St43 ⊕ Rt43)) = some x) : T43_0 cond Kst Kret al nl ml tl vl gl wl cn x0 := by
  unfold T43_0
  exact bif_split h
   (fun c0 h => bif_split h
   (fun c1 h => bif_split h
   (fun c2 h => bif_split h
   (fun c3 h => bif_split h
   (fun c4 h => ret_at hR _ h (fun n => n) rfl rfl rfl (rn_tup ⟨(rn_int rfl), (rn_bool_tf rfl), trivial⟩) rfl (entl_bor (use_lo rfl) rfl rfl entl_nil))
   (fun c4 h => stop_at hS _ h (fun n => n) rfl rfl rfl ⟨(rn_loose (use_lo rfl) rfl rfl rfl), ⟨(rn_int rfl), ⟨(rn_int rfl), trivial⟩⟩⟩ rfl (entl_bor (use_lo rfl) rfl rfl entl_nil)))
   (fun c3 h => no_some h))
   (fun c2 h => ret_at hR _ h (fun n => n) rfl rfl rfl (rn_tup ⟨(rn_int rfl), (rn_bool_tf rfl), trivial⟩) rfl (entl_bor (use_lo rfl) rfl rfl entl_nil)))
   (fun c1 h => no_some h))
   (fun c0 h => no_some h)
theorem a43 (al nl ml : Nat) (tl : Nat → ByteArray) (vl : Nat → Int) (gl : Nat → Int) (wl : Nat → Int) (cn : Int) {r : Rt43} (h : Goes ((q43 al nl ml tl vl gl wl cn)) ((p43 al nl ml tl vl gl wl cn)) r) : CallR Try.prog 43 [.loose ⟨0, 4, al, 0⟩ nl, .int .i64 cn] [[(0, (false, .cols ml [.str tl, .int .i64 vl, .int .i64 gl, .int .i64 wl]))]] 1 ((V43 al nl ml tl vl gl wl cn) r) ((fun r => [newL (1 + 1) ((N43 al nl ml tl vl gl wl cn) r) ++ [(0, (false, .cols ml [.str tl, .int .i64 vl, .int .i64 gl, .int .i64 wl]))]]) r) 400 ∧ ∃ F, Try.prog.funcs[43]? = some F ∧ F.body.isSome = true ∧ (F.name == "runtime.NumGoroutine") = false := by
  refine dec_calls (sy := true) (f := 43) (lo := 1) (hi := 400) (H := [[(0, (false, .cols ml [.str tl, .int .i64 vl, .int .i64 gl, .int .i64 wl]))]]) (args := [.loose ⟨0, 4, al, 0⟩ nl, .int .i64 cn]) Try.envOk Try.mixed xD_ok ((I43 al nl ml tl vl gl wl cn)) ((V43 al nl ml tl vl gl wl cn)) (fun r => [newL (1 + 1) ((N43 al nl ml tl vl gl wl cn) r) ++ [(0, (false, .cols ml [.str tl, .int .i64 vl, .int .i64 gl, .int .i64 wl]))]]) (fn := mkFn Try.f43) (ts := [0, 1, 6]) (n := 400) rfl (by decide) (by simp) (names_of rfl) ?_ ?_ ?_ h
  · intro s; cases s <;> exact ⟨hd_ok _ _, by simp [I43], names_of rfl, Nat.le_of_ble_eq_true rfl⟩
  · intro Kst Kret x hS hR h
    exact Holds.eq (te43 cond Kst Kret al nl ml tl vl gl wl cn) (be43 al nl ml tl vl gl wl cn Kst Kret x hS hR h)
  · intro Kst Kret x hS hR s h
    cases s with
    | h0 x0 => exact Holds.eq (t43_0 cond Kst Kret al nl ml tl vl gl wl cn x0) (b43_0 al nl ml tl vl gl wl cn Kst Kret x hS hR x0 h)
noncomputable def k43 : Con := ⟨43, [.one (.list [.str, .int .i64, .int .i64, .int .i64]), .one (.plain (.int .i64))], fun (x : (Nat × Nat × Nat × (Nat → ByteArray) × (Nat → Int) × (Nat → Int) × (Nat → Int) × Unit) × Int × Unit) => (fun (al nl ml : Nat) (tl : Nat → ByteArray) (vl : Nat → Int) (gl : Nat → Int) (wl : Nat → Int) (cn : Int) => decide (al + nl ≤ ml ∧ (0 ≤ cn ∧ cn < nl) ∧ S.okT nl (fun j => vl (j + al)) (fun j => gl (j + al)) (fun j => wl (j + al)) = true)) x.1.1 x.1.2.1 x.1.2.2.1 x.1.2.2.2.1 x.1.2.2.2.2.1 x.1.2.2.2.2.2.1 x.1.2.2.2.2.2.2.1 x.2.1, fun (x : (Nat × Nat × Nat × (Nat → ByteArray) × (Nat → Int) × (Nat → Int) × (Nat → Int) × Unit) × Int × Unit) => (fun (al nl ml : Nat) (tl : Nat → ByteArray) (vl : Nat → Int) (gl : Nat → Int) (wl : Nat → Int) (cn : Int) => (V43 al nl ml tl vl gl wl cn) (S.resT (fun j => vl (j + al)) (fun j => gl (j + al)) (fun j => wl (j + al)) cn.toNat)) x.1.1 x.1.2.1 x.1.2.2.1 x.1.2.2.2.1 x.1.2.2.2.2.1 x.1.2.2.2.2.2.1 x.1.2.2.2.2.2.2.1 x.2.1, fun (x : (Nat × Nat × Nat × (Nat → ByteArray) × (Nat → Int) × (Nat → Int) × (Nat → Int) × Unit) × Int × Unit) => (fun (al nl ml : Nat) (tl : Nat → ByteArray) (vl : Nat → Int) (gl : Nat → Int) (wl : Nat → Int) (cn : Int) => (N43 al nl ml tl vl gl wl cn) (S.resT (fun j => vl (j + al)) (fun j => gl (j + al)) (fun j => wl (j + al)) cn.toNat)) x.1.1 x.1.2.1 x.1.2.2.1 x.1.2.2.2.1 x.1.2.2.2.2.1 x.1.2.2.2.2.2.1 x.1.2.2.2.2.2.2.1 x.2.1, fun _ _ => .dead⟩
theorem s43' (al nl ml : Nat) (tl : Nat → ByteArray) (vl : Nat → Int) (gl : Nat → Int) (wl : Nat → Int) (cn : Int) (hp : al + nl ≤ ml ∧ (0 ≤ cn ∧ cn < nl) ∧ S.okT nl (fun j => vl (j + al)) (fun j => gl (j + al)) (fun j => wl (j + al)) = true) : ∀ (k : Nat) (x0 : Int), (wl (cn.toNat + al) - x0 + 1).toNat ≤ k → 1 ≤ x0 → x0 ≤ S.dem (fun j => vl (j + al)) (fun j => gl (j + al)) cn.toNat x0 → Comes (q43 al nl ml tl vl gl wl cn) (.h0 x0) (S.fixF (fun t => S.dem (fun j => vl (j + al)) (fun j => gl (j + al)) cn.toNat t) (wl (cn.toNat + al) - x0 + 1).toNat x0) := by
  obtain ⟨hp1, ⟨hp2, hp3⟩, hT⟩ := hp
  obtain ⟨h8, hA⟩ := okT_at hT
  have hAc : 1 ≤ vl (cn.toNat + al) ∧ vl (cn.toNat + al) ≤ 1000000 ∧ 1 ≤ gl (cn.toNat + al) ∧ gl (cn.toNat + al) ≤ vl (cn.toNat + al) ∧ gl (cn.toNat + al) ≤ wl (cn.toNat + al) ∧ wl (cn.toNat + al) ≤ vl (cn.toNat + al) := hA cn.toNat (by omega)
  have hm : ∀ u v : Int, 0 ≤ u → u ≤ v → S.dem (fun j => vl (j + al)) (fun j => gl (j + al)) cn.toNat u ≤ S.dem (fun j => vl (j + al)) (fun j => gl (j + al)) cn.toNat v := fun u v h1 h2 => dem_mono hT (by omega) h1 h2
  intro k
  induction k with
  | zero =>
    intro x0 hk h1 h2
    have e0 : (wl (cn.toNat + al) - x0 + 1).toNat = 0 := by omega
    rw [e0]
    show Comes _ _ (0, false)
    apply Comes.of
    rw [q43]
    refine goes_ok (decide_eq_true (by omega)) (goes_ok (decide_eq_true (by omega)) (goes_no (decide_eq_false (by omega)) rfl))
  | succ k ih =>
    intro x0 hk h1 h2
    by_cases hD : x0 ≤ wl (cn.toNat + al)
    · apply Comes.of
      rw [q43]
      refine goes_ok (decide_eq_true (by omega)) (goes_ok (decide_eq_true (by omega)) (goes_ok (decide_eq_true (by omega)) (goes_ok (decide_eq_true ⟨hp1, ⟨hp2, hp3⟩, ⟨by omega, by omega⟩, hT⟩) ?_)))
      by_cases he : S.dem (fun j => vl (j + al)) (fun j => gl (j + al)) cn.toNat x0 = x0
      · refine goes_ok (by rw [he]; exact beq_self_eq_true _) ?_
        obtain ⟨m, hm'⟩ : ∃ m, (wl (cn.toNat + al) - x0 + 1).toNat = m + 1 := ⟨(wl (cn.toNat + al) - x0).toNat, by omega⟩
        rw [hm']
        simp only [S.fixF]
        rw [if_pos he]
        exact goes_inr.mpr rfl
      · refine goes_no (by simpa using he) ?_
        rw [fix_step (f := (fun t => S.dem (fun j => vl (j + al)) (fun j => gl (j + al)) cn.toNat t)) (D := wl (cn.toNat + al)) hm h1 hD h2 he]
        exact ih _ (by show (wl (cn.toNat + al) - S.dem (fun j => vl (j + al)) (fun j => gl (j + al)) cn.toNat x0 + 1).toNat ≤ k; omega) (by omega) (hm _ _ (by omega) h2)
    · have e0 : (wl (cn.toNat + al) - x0 + 1).toNat = 0 := by omega
      rw [e0]
      show Comes _ _ (0, false)
      apply Comes.of
      rw [q43]
      refine goes_ok (decide_eq_true (by omega)) (goes_ok (decide_eq_true (by omega)) (goes_no (decide_eq_false (by omega)) rfl))
theorem s43 (al nl ml : Nat) (tl : Nat → ByteArray) (vl : Nat → Int) (gl : Nat → Int) (wl : Nat → Int) (cn : Int) (hp : al + nl ≤ ml ∧ (0 ≤ cn ∧ cn < nl) ∧ S.okT nl (fun j => vl (j + al)) (fun j => gl (j + al)) (fun j => wl (j + al)) = true) : Goes ((q43 al nl ml tl vl gl wl cn)) ((p43 al nl ml tl vl gl wl cn)) (S.resT (fun j => vl (j + al)) (fun j => gl (j + al)) (fun j => wl (j + al)) cn.toNat) := by
  obtain ⟨hp1, ⟨hp2, hp3⟩, hT⟩ := hp
  obtain ⟨h8, hA⟩ := okT_at hT
  have hAc : 1 ≤ vl (cn.toNat + al) ∧ vl (cn.toNat + al) ≤ 1000000 ∧ 1 ≤ gl (cn.toNat + al) ∧ gl (cn.toNat + al) ≤ vl (cn.toNat + al) ∧ gl (cn.toNat + al) ≤ wl (cn.toNat + al) ∧ wl (cn.toNat + al) ≤ vl (cn.toNat + al) := hA cn.toNat (by omega)
  have hb : gl (cn.toNat + al) ≤ S.dem (fun j => vl (j + al)) (fun j => gl (j + al)) cn.toNat 1 := (dem_b hT (i := cn.toNat) (by omega) (t := 1) (by omega) (by omega)).1
  have hm := s43' al nl ml tl vl gl wl cn ⟨hp1, ⟨hp2, hp3⟩, hT⟩ _ 1 (Nat.le_refl _) (by omega) (by omega)
  rw [show (wl (cn.toNat + al) - 1 + 1).toNat = (wl (cn.toNat + al)).toNat by omega] at hm
  unfold p43
  exact hm

theorem k43_ok : k43.ok Try.prog := by
  intro x hx
  obtain ⟨⟨al, nl, ml, tl, vl, gl, wl, _⟩, cn, _⟩ := x
  obtain ⟨h1, h2⟩ := a43 al nl ml tl vl gl wl cn (s43 al nl ml tl vl gl wl cn (of_dec hx rfl))
  exact ⟨⟨400, (by decide : 1 + 1 + 0 ≤ 400), h1⟩, h2⟩
inductive St44 where
  | h0 (x0 : Int)
abbrev Rt44 := Int × Bool
noncomputable def V44 (al nl ml : Nat) (tl : Nat → ByteArray) (vl : Nat → Int) (gl : Nat → Int) (wl : Nat → Int) (cn : Int) (r : Rt44) : PV := PV.tup [PV.int IntKind.i64 r.1, PV.bool r.2]
noncomputable def N44 (al nl ml : Nat) (tl : Nat → ByteArray) (vl : Nat → Int) (gl : Nat → Int) (wl : Nat → Int) (cn : Int) (r : Rt44) : List Blk := []
noncomputable def I44 (al nl ml : Nat) (tl : Nat → ByteArray) (vl : Nat → Int) (gl : Nat → Int) (wl : Nat → Int) (cn : Int) : St44 → Hd
  | .h0 x0 => ⟨hd Try.f44 0, [PV.loose (PA.mk (0) (4) al (0)) nl, PV.int IntKind.i64 cn,
 PV.int IntKind.i64 x0], [[], [(0, (false, .cols ml [.str tl, .int .i64 vl, .int .i64 gl, .int .i64 wl]))]], 1⟩
noncomputable def q44 (al nl ml : Nat) (tl : Nat → ByteArray) (vl : Nat → Int) (gl : Nat → Int) (wl : Nat → Int) (cn : Int) : St44 → Option (St44 ⊕ Rt44)
  | .h0 x0 => bif (decide ((0 : Int) ≤ cn ∧ cn < (↑nl : Int)))
 then (bif (decide (Int.toNat cn + al < ml))
 then (bif (decide (x0 ≤ wl (Int.toNat cn + al)))
 then (bif (decide
 (al + nl ≤ ml ∧
 ((0 : Int) ≤ cn ∧ cn < (↑nl : Int)) ∧
 ((0 : Int) ≤ x0 ∧ x0 ≤ (1000000 : Int)) ∧
 (S.okT nl (fun (j : Nat) => vl (j + al)) (fun (j : Nat) => gl (j + al)) fun (j : Nat) => wl (j + al)) =
 true))
 then (bif (S.dem (fun (j : Nat) => vl (j + al)) (fun (j : Nat) => gl (j + al)) (Int.toNat cn) x0 == x0)
 then (some (.inr (x0, true)))
 else (some (.inl (.h0 (S.dem (fun (j : Nat) => vl (j + al)) (fun (j : Nat) => gl (j + al)) (Int.toNat cn) x0)))))
 else (none))
 else (some (.inr ((0 : Int), false))))
 else (none))
 else (none)
noncomputable def p44 (al nl ml : Nat) (tl : Nat → ByteArray) (vl : Nat → Int) (gl : Nat → Int) (wl : Nat → Int) (cn : Int) : Option (St44 ⊕ Rt44) := bif (decide ((0 : Int) ≤ cn ∧ cn < (↑nl : Int)))
 then (bif (decide (Int.toNat cn + al < ml))
 then (some (.inl (.h0 (gl (Int.toNat cn + al)))))
 else (none))
 else (none)
noncomputable def Te44 (test : Bool → Prop → Prop → Prop) (Kst : KS) (Kret : KR) (al nl ml : Nat) (tl : Nat → ByteArray) (vl : Nat → Int) (gl : Nat → Int) (wl : Nat → Int) (cn : Int) : Prop :=
  test (decide ((0 : Int) ≤ cn ∧ cn < (↑nl : Int)))
 (test (decide (Int.toNat cn + al < ml))
 (Kst (hd Try.f44 0) ([PV.loose (PA.mk (0) (4) al (0)) nl, PV.int IntKind.i64 cn,
 PV.int IntKind.i64 (gl (Int.toNat cn + al))]) ([[(0, false,
 Blk.cols ml
 [Col.str tl, Col.int IntKind.i64 vl, Col.int IntKind.i64 gl,
 Col.int IntKind.i64 wl])]]) (1))
 (False))
 (False)
set_option maxRecDepth 100000 in
theorem te44 (test : Bool → Prop → Prop → Prop) (Kst : KS) (Kret : KR) (al nl ml : Nat) (tl : Nat → ByteArray) (vl : Nat → Int) (gl : Nat → Int) (wl : Nat → Int) (cn : Int) : run test Try.env true (xD test) true 400 ⟨44, [.cd (mkFn Try.f44).body], argT 0 [.loose ⟨0, 4, al, 0⟩ nl, .int .i64 cn], [[], [(0, (false, .cols ml [.str tl, .int .i64 vl, .int .i64 gl, .int .i64 wl]))]], 1⟩ (proj 1 [0, 1, 6] Kst Kret) =
  Te44 test Kst Kret al nl ml tl vl gl wl cn := by kernel_rfl
noncomputable def T44_0 (test : Bool → Prop → Prop → Prop) (Kst : KS) (Kret : KR) (al nl ml : Nat) (tl : Nat → ByteArray) (vl : Nat → Int) (gl : Nat → Int) (wl : Nat → Int) (cn : Int) (x0 : Int) : Prop :=
  test (decide ((0 : Int) ≤ cn ∧ cn < (↑nl : Int)))
 (test (decide (Int.toNat cn + al < ml))
 (test (decide (x0 ≤ wl (Int.toNat cn + al)))
 (test (decide
 (al + nl ≤ ml ∧
 ((0 : Int) ≤ cn ∧ cn < (↑nl : Int)) ∧
 ((0 : Int) ≤ x0 ∧ x0 ≤ (1000000 : Int)) ∧
 (S.okT nl (fun (j : Nat) => vl (j + al)) (fun (j : Nat) => gl (j + al)) fun (j : Nat) => wl (j + al)) =
 true))
 (test (S.dem (fun (j : Nat) => vl (j + al)) (fun (j : Nat) => gl (j + al)) (Int.toNat cn) x0 == x0)
 (Kret (PV.tup [PV.int IntKind.i64 x0, PV.tf true]) ([[(0, false,
 Blk.cols ml
 [Col.str tl, Col.int IntKind.i64 vl, Col.int IntKind.i64 gl,
 Col.int IntKind.i64 wl])]]) (2))
 (Kst (hd Try.f44 0) ([PV.loose (PA.mk (0) (4) al (0)) nl, PV.int IntKind.i64 cn,
 PV.int IntKind.i64
 (S.dem (fun (j : Nat) => vl (j + al)) (fun (j : Nat) => gl (j + al)) (Int.toNat cn) x0)]) ([[(0, false,
 Blk.cols ml
 [Col.str tl, Col.int IntKind.i64 vl, Col.int IntKind.i64 gl,
 Col.int IntKind.i64 wl])]]) (2)))
 (False))
 (Kret (PV.tup [PV.int IntKind.i64 (0 : Int), PV.tf false]) ([[(0, false,
 Blk.cols ml
 [Col.str tl, Col.int IntKind.i64 vl, Col.int IntKind.i64 gl,
 Col.int IntKind.i64 wl])]]) (1)))
 (False))
 (False)
set_option maxRecDepth 100000 in
theorem t44_0 (test : Bool → Prop → Prop → Prop) (Kst : KS) (Kret : KR) (al nl ml : Nat) (tl : Nat → ByteArray) (vl : Nat → Int) (gl : Nat → Int) (wl : Nat → Int) (cn : Int) (x0 : Int) : run test Try.env true (xD test) true 400 ⟨44, hd Try.f44 0, zipT [0, 1, 6] [PV.loose (PA.mk (0) (4) al (0)) nl, PV.int IntKind.i64 cn,
 PV.int IntKind.i64 x0], [[], [(0, (false, .cols ml [.str tl, .int .i64 vl, .int .i64 gl, .int .i64 wl]))]], 1⟩ (proj 1 [0, 1, 6] Kst Kret) =
  T44_0 test Kst Kret al nl ml tl vl gl wl cn x0 := by kernel_rfl
attribute [local irreducible] Int.subNatNat in
set_option maxRecDepth 100000 in
theorem be44 (al nl ml : Nat) (tl : Nat → ByteArray) (vl : Nat → Int) (gl : Nat → Int) (wl : Nat → Int) (cn : Int) (Kst : KS) (Kret : KR) (x : St44 ⊕ Rt44) (hS : HS 1 400 ((I44 al nl ml tl vl gl wl cn)) Kst x) (hR : HR 1 400 ((V44 al nl ml tl vl gl wl cn)) (fun r => [newL (1 + 1) ((N44 al nl ml tl vl gl wl cn) r) ++ [(0, (false, .cols ml [.str tl, .int .i64 vl, .int .i64 gl, .int .i64 wl]))]]) Kret x) (h : (bif (decide ((0 : Int) ≤ cn ∧ cn < (↑nl : Int)))
 then (bif (decide (Int.toNat cn + al < ml))
 then (some (.inl (.h0 (gl (Int.toNat cn + al)))))
 else (none))
 else (none) : Option (St44 ⊕ Rt44)) = some x) : Te44 cond Kst Kret al nl ml tl vl gl wl cn := by
  unfold Te44
  exact bif_split h
   (fun c0 h => bif_split h
   (fun c1 h => stop_at hS _ h (fun n => n) rfl rfl rfl ⟨(rn_loose (use_lo rfl) rfl rfl rfl), ⟨(rn_int rfl), ⟨(rn_int rfl), trivial⟩⟩⟩ rfl (entl_bor (use_lo rfl) rfl rfl entl_nil))
   (fun c1 h => no_some h))
   (fun c0 h => no_some h)
attribute [local irreducible] Int.subNatNat in
set_option maxRecDepth 100000 in
theorem b44_0 (al nl ml : Nat) (tl : Nat → ByteArray) (vl : Nat → Int) (gl : Nat → Int) (wl : Nat → Int) (cn : Int) (Kst : KS) (Kret : KR) (x : St44 ⊕ Rt44) (hS : HS 1 400 ((I44 al nl ml tl vl gl wl cn)) Kst x) (hR : HR 1 400 ((V44 al nl ml tl vl gl wl cn)) (fun r => [newL (1 + 1) ((N44 al nl ml tl vl gl wl cn) r) ++ [(0, (false, .cols ml [.str tl, .int .i64 vl, .int .i64 gl, .int .i64 wl]))]]) Kret x) (x0 : Int) (h : (bif (decide ((0 : Int) ≤ cn ∧ cn < (↑nl : Int)))
 then (bif (decide (Int.toNat cn + al < ml))
 then (bif (decide (x0 ≤ wl (Int.toNat cn + al)))
 then (bif (decide
 (al + nl ≤ ml ∧
 ((0 : Int) ≤ cn ∧ cn < (↑nl : Int)) ∧
 ((0 : Int) ≤ x0 ∧ x0 ≤ (1000000 : Int)) ∧
 (S.okT nl (fun (j : Nat) => vl (j + al)) (fun (j : Nat) => gl (j + al)) fun (j : Nat) => wl (j + al)) =
 true))
 then (bif (S.dem (fun (j : Nat) => vl (j + al)) (fun (j : Nat) => gl (j + al)) (Int.toNat cn) x0 == x0)
 then (some (.inr (x0, true)))
 else (some (.inl (.h0 (S.dem (fun (j : Nat) => vl (j + al)) (fun (j : Nat) => gl (j + al)) (Int.toNat cn) x0)))))
 else (none))
 else (some (.inr ((0 : Int), false))))
 else (none))
 else (none) : Option (St44 ⊕ Rt44)) = some x) : T44_0 cond Kst Kret al nl ml tl vl gl wl cn x0 := by
  unfold T44_0
  exact bif_split h
   (fun c0 h => bif_split h
   (fun c1 h => bif_split h
   (fun c2 h => bif_split h
   (fun c3 h => bif_split h
   (fun c4 h => ret_at hR _ h (fun n => n) rfl rfl rfl (rn_tup ⟨(rn_int rfl), (rn_bool_tf rfl), trivial⟩) rfl (entl_bor (use_lo rfl) rfl rfl entl_nil))
   (fun c4 h => stop_at hS _ h (fun n => n) rfl rfl rfl ⟨(rn_loose (use_lo rfl) rfl rfl rfl), ⟨(rn_int rfl), ⟨(rn_int rfl), trivial⟩⟩⟩ rfl (entl_bor (use_lo rfl) rfl rfl entl_nil)))
   (fun c3 h => no_some h))
   (fun c2 h => ret_at hR _ h (fun n => n) rfl rfl rfl (rn_tup ⟨(rn_int rfl), (rn_bool_tf rfl), trivial⟩) rfl (entl_bor (use_lo rfl) rfl rfl entl_nil)))
   (fun c1 h => no_some h))
   (fun c0 h => no_some h)
theorem a44 (al nl ml : Nat) (tl : Nat → ByteArray) (vl : Nat → Int) (gl : Nat → Int) (wl : Nat → Int) (cn : Int) {r : Rt44} (h : Goes ((q44 al nl ml tl vl gl wl cn)) ((p44 al nl ml tl vl gl wl cn)) r) : CallR Try.prog 44 [.loose ⟨0, 4, al, 0⟩ nl, .int .i64 cn] [[(0, (false, .cols ml [.str tl, .int .i64 vl, .int .i64 gl, .int .i64 wl]))]] 1 ((V44 al nl ml tl vl gl wl cn) r) ((fun r => [newL (1 + 1) ((N44 al nl ml tl vl gl wl cn) r) ++ [(0, (false, .cols ml [.str tl, .int .i64 vl, .int .i64 gl, .int .i64 wl]))]]) r) 400 ∧ ∃ F, Try.prog.funcs[44]? = some F ∧ F.body.isSome = true ∧ (F.name == "runtime.NumGoroutine") = false := by
  refine dec_calls (sy := true) (f := 44) (lo := 1) (hi := 400) (H := [[(0, (false, .cols ml [.str tl, .int .i64 vl, .int .i64 gl, .int .i64 wl]))]]) (args := [.loose ⟨0, 4, al, 0⟩ nl, .int .i64 cn]) Try.envOk Try.mixed xD_ok ((I44 al nl ml tl vl gl wl cn)) ((V44 al nl ml tl vl gl wl cn)) (fun r => [newL (1 + 1) ((N44 al nl ml tl vl gl wl cn) r) ++ [(0, (false, .cols ml [.str tl, .int .i64 vl, .int .i64 gl, .int .i64 wl]))]]) (fn := mkFn Try.f44) (ts := [0, 1, 6]) (n := 400) rfl (by decide) (by simp) (names_of rfl) ?_ ?_ ?_ h
  · intro s; cases s <;> exact ⟨hd_ok _ _, by simp [I44], names_of rfl, Nat.le_of_ble_eq_true rfl⟩
  · intro Kst Kret x hS hR h
    exact Holds.eq (te44 cond Kst Kret al nl ml tl vl gl wl cn) (be44 al nl ml tl vl gl wl cn Kst Kret x hS hR h)
  · intro Kst Kret x hS hR s h
    cases s with
    | h0 x0 => exact Holds.eq (t44_0 cond Kst Kret al nl ml tl vl gl wl cn x0) (b44_0 al nl ml tl vl gl wl cn Kst Kret x hS hR x0 h)
noncomputable def k44 : Con := ⟨44, [.one (.list [.str, .int .i64, .int .i64, .int .i64]), .one (.plain (.int .i64))], fun (x : (Nat × Nat × Nat × (Nat → ByteArray) × (Nat → Int) × (Nat → Int) × (Nat → Int) × Unit) × Int × Unit) => (fun (al nl ml : Nat) (tl : Nat → ByteArray) (vl : Nat → Int) (gl : Nat → Int) (wl : Nat → Int) (cn : Int) => decide (al + nl ≤ ml ∧ (0 ≤ cn ∧ cn < nl) ∧ S.okT nl (fun j => vl (j + al)) (fun j => gl (j + al)) (fun j => wl (j + al)) = true)) x.1.1 x.1.2.1 x.1.2.2.1 x.1.2.2.2.1 x.1.2.2.2.2.1 x.1.2.2.2.2.2.1 x.1.2.2.2.2.2.2.1 x.2.1, fun (x : (Nat × Nat × Nat × (Nat → ByteArray) × (Nat → Int) × (Nat → Int) × (Nat → Int) × Unit) × Int × Unit) => (fun (al nl ml : Nat) (tl : Nat → ByteArray) (vl : Nat → Int) (gl : Nat → Int) (wl : Nat → Int) (cn : Int) => (V44 al nl ml tl vl gl wl cn) (S.resT (fun j => vl (j + al)) (fun j => gl (j + al)) (fun j => wl (j + al)) cn.toNat)) x.1.1 x.1.2.1 x.1.2.2.1 x.1.2.2.2.1 x.1.2.2.2.2.1 x.1.2.2.2.2.2.1 x.1.2.2.2.2.2.2.1 x.2.1, fun (x : (Nat × Nat × Nat × (Nat → ByteArray) × (Nat → Int) × (Nat → Int) × (Nat → Int) × Unit) × Int × Unit) => (fun (al nl ml : Nat) (tl : Nat → ByteArray) (vl : Nat → Int) (gl : Nat → Int) (wl : Nat → Int) (cn : Int) => (N44 al nl ml tl vl gl wl cn) (S.resT (fun j => vl (j + al)) (fun j => gl (j + al)) (fun j => wl (j + al)) cn.toNat)) x.1.1 x.1.2.1 x.1.2.2.1 x.1.2.2.2.1 x.1.2.2.2.2.1 x.1.2.2.2.2.2.1 x.1.2.2.2.2.2.2.1 x.2.1, fun _ _ => .dead⟩
theorem s44' (al nl ml : Nat) (tl : Nat → ByteArray) (vl : Nat → Int) (gl : Nat → Int) (wl : Nat → Int) (cn : Int) (hp : al + nl ≤ ml ∧ (0 ≤ cn ∧ cn < nl) ∧ S.okT nl (fun j => vl (j + al)) (fun j => gl (j + al)) (fun j => wl (j + al)) = true) : ∀ (k : Nat) (x0 : Int), (wl (cn.toNat + al) - x0 + 1).toNat ≤ k → 1 ≤ x0 → x0 ≤ S.dem (fun j => vl (j + al)) (fun j => gl (j + al)) cn.toNat x0 → Comes (q44 al nl ml tl vl gl wl cn) (.h0 x0) (S.fixF (fun t => S.dem (fun j => vl (j + al)) (fun j => gl (j + al)) cn.toNat t) (wl (cn.toNat + al) - x0 + 1).toNat x0) := by
  obtain ⟨hp1, ⟨hp2, hp3⟩, hT⟩ := hp
  obtain ⟨h8, hA⟩ := okT_at hT
  have hAc : 1 ≤ vl (cn.toNat + al) ∧ vl (cn.toNat + al) ≤ 1000000 ∧ 1 ≤ gl (cn.toNat + al) ∧ gl (cn.toNat + al) ≤ vl (cn.toNat + al) ∧ gl (cn.toNat + al) ≤ wl (cn.toNat + al) ∧ wl (cn.toNat + al) ≤ vl (cn.toNat + al) := hA cn.toNat (by omega)
  have hm : ∀ u v : Int, 0 ≤ u → u ≤ v → S.dem (fun j => vl (j + al)) (fun j => gl (j + al)) cn.toNat u ≤ S.dem (fun j => vl (j + al)) (fun j => gl (j + al)) cn.toNat v := fun u v h1 h2 => dem_mono hT (by omega) h1 h2
  intro k
  induction k with
  | zero =>
    intro x0 hk h1 h2
    have e0 : (wl (cn.toNat + al) - x0 + 1).toNat = 0 := by omega
    rw [e0]
    show Comes _ _ (0, false)
    apply Comes.of
    rw [q44]
    refine goes_ok (decide_eq_true (by omega)) (goes_ok (decide_eq_true (by omega)) (goes_no (decide_eq_false (by omega)) rfl))
  | succ k ih =>
    intro x0 hk h1 h2
    by_cases hD : x0 ≤ wl (cn.toNat + al)
    · apply Comes.of
      rw [q44]
      refine goes_ok (decide_eq_true (by omega)) (goes_ok (decide_eq_true (by omega)) (goes_ok (decide_eq_true (by omega)) (goes_ok (decide_eq_true ⟨hp1, ⟨hp2, hp3⟩, ⟨by omega, by omega⟩, hT⟩) ?_)))
      by_cases he : S.dem (fun j => vl (j + al)) (fun j => gl (j + al)) cn.toNat x0 = x0
      · refine goes_ok (by rw [he]; exact beq_self_eq_true _) ?_
        obtain ⟨m, hm'⟩ : ∃ m, (wl (cn.toNat + al) - x0 + 1).toNat = m + 1 := ⟨(wl (cn.toNat + al) - x0).toNat, by omega⟩
        rw [hm']
        simp only [S.fixF]
        rw [if_pos he]
        exact goes_inr.mpr rfl
      · refine goes_no (by simpa using he) ?_
        rw [fix_step (f := (fun t => S.dem (fun j => vl (j + al)) (fun j => gl (j + al)) cn.toNat t)) (D := wl (cn.toNat + al)) hm h1 hD h2 he]
        exact ih _ (by show (wl (cn.toNat + al) - S.dem (fun j => vl (j + al)) (fun j => gl (j + al)) cn.toNat x0 + 1).toNat ≤ k; omega) (by omega) (hm _ _ (by omega) h2)
    · have e0 : (wl (cn.toNat + al) - x0 + 1).toNat = 0 := by omega
      rw [e0]
      show Comes _ _ (0, false)
      apply Comes.of
      rw [q44]
      refine goes_ok (decide_eq_true (by omega)) (goes_ok (decide_eq_true (by omega)) (goes_no (decide_eq_false (by omega)) rfl))
theorem s44 (al nl ml : Nat) (tl : Nat → ByteArray) (vl : Nat → Int) (gl : Nat → Int) (wl : Nat → Int) (cn : Int) (hp : al + nl ≤ ml ∧ (0 ≤ cn ∧ cn < nl) ∧ S.okT nl (fun j => vl (j + al)) (fun j => gl (j + al)) (fun j => wl (j + al)) = true) : Goes ((q44 al nl ml tl vl gl wl cn)) ((p44 al nl ml tl vl gl wl cn)) (S.resT (fun j => vl (j + al)) (fun j => gl (j + al)) (fun j => wl (j + al)) cn.toNat) := by
  obtain ⟨hp1, ⟨hp2, hp3⟩, hT⟩ := hp
  obtain ⟨h8, hA⟩ := okT_at hT
  have hAc : 1 ≤ vl (cn.toNat + al) ∧ vl (cn.toNat + al) ≤ 1000000 ∧ 1 ≤ gl (cn.toNat + al) ∧ gl (cn.toNat + al) ≤ vl (cn.toNat + al) ∧ gl (cn.toNat + al) ≤ wl (cn.toNat + al) ∧ wl (cn.toNat + al) ≤ vl (cn.toNat + al) := hA cn.toNat (by omega)
  have hb : gl (cn.toNat + al) ≤ S.dem (fun j => vl (j + al)) (fun j => gl (j + al)) cn.toNat (gl (cn.toNat + al)) := (dem_b hT (i := cn.toNat) (by omega) (t := (gl (cn.toNat + al))) (by omega) (by omega)).1
  have hm := s44' al nl ml tl vl gl wl cn ⟨hp1, ⟨hp2, hp3⟩, hT⟩ _ (gl (cn.toNat + al)) (Nat.le_refl _) (by omega) (by omega)
  have hsk := fixF_skip (f := (fun t => S.dem (fun j => vl (j + al)) (fun j => gl (j + al)) cn.toNat t)) (k := (wl (cn.toNat + al)).toNat) (t := 1) (gl (cn.toNat + al) - 1).toNat (by omega) fun u h1 h2 => by
    have := (dem_b hT (i := cn.toNat) (by omega) (t := u) (by omega) (by omega)).1
    have h3 : gl (cn.toNat + al) ≤ S.dem (fun j => vl (j + al)) (fun j => gl (j + al)) cn.toNat u := this
    show S.dem (fun j => vl (j + al)) (fun j => gl (j + al)) cn.toNat u ≠ u
    omega
  rw [show (wl (cn.toNat + al)).toNat - (gl (cn.toNat + al) - 1).toNat = (wl (cn.toNat + al) - gl (cn.toNat + al) + 1).toNat by omega, show (1 : Int) + ((gl (cn.toNat + al) - 1).toNat : Int) = gl (cn.toNat + al) by omega] at hsk
  rw [← hsk] at hm
  unfold p44
  exact goes_ok (decide_eq_true (by omega)) (goes_ok (decide_eq_true (by omega)) hm)

theorem k44_ok : k44.ok Try.prog := by
  intro x hx
  obtain ⟨⟨al, nl, ml, tl, vl, gl, wl, _⟩, cn, _⟩ := x
  obtain ⟨h1, h2⟩ := a44 al nl ml tl vl gl wl cn (s44 al nl ml tl vl gl wl cn (of_dec hx rfl))
  exact ⟨⟨400, (by decide : 1 + 1 + 0 ≤ 400), h1⟩, h2⟩
noncomputable def xR (test : Bool → Prop → Prop → Prop) : Ext := consX test [k43, k44]
theorem xR_ok : ExtOk Try.prog (xR cond) := consX_ok ⟨k43_ok, k44_ok, trivial⟩

end Go.Ev
