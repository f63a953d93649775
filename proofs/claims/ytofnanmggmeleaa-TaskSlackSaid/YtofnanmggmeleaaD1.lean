/-
  Demand.
-/
import Derived.Test.YtofnanmggmeleaaT0
namespace Go.Ev
open Go.Proofs
set_option linter.unusedVariables false
set_option linter.unusedSimpArgs false
set_option maxRecDepth 100000
inductive St50 where
  | h0 (x0 : Int) (x1 : Int)
abbrev Rt50 := Int
noncomputable def V50 (al nl ml : Nat) (tl : Nat → ByteArray) (vl : Nat → Int) (gl : Nat → Int) (wl : Nat → Int) (cn : Int) (ct : Int) (r : Rt50) : PV := PV.int IntKind.i64 r
noncomputable def N50 (al nl ml : Nat) (tl : Nat → ByteArray) (vl : Nat → Int) (gl : Nat → Int) (wl : Nat → Int) (cn : Int) (ct : Int) (r : Rt50) : List Blk := []
noncomputable def I50 (al nl ml : Nat) (tl : Nat → ByteArray) (vl : Nat → Int) (gl : Nat → Int) (wl : Nat → Int) (cn : Int) (ct : Int) : St50 → Hd
  | .h0 x0 x1 => ⟨hd Try.f50 0, [PV.int IntKind.i64 ct, PV.int IntKind.i64 x0,
 PV.loose (PA.mk (0) (4) (0 + al) (0)) (Int.toNat cn),
 PV.int IntKind.i64 (↑(Int.toNat cn) : Int), PV.int IntKind.i64 x1], [[], [(0, (false, .cols ml [.str tl, .int .i64 vl, .int .i64 gl, .int .i64 wl]))]], 1⟩
noncomputable def q50 (al nl ml : Nat) (tl : Nat → ByteArray) (vl : Nat → Int) (gl : Nat → Int) (wl : Nat → Int) (cn : Int) (ct : Int) : St50 → Option (St50 ⊕ Rt50)
  | .h0 x0 x1 => bif (decide (x1 < (↑(Int.toNat cn) : Int)))
 then (bif (decide ((0 : Int) ≤ x1 ∧ x1 < (↑(Int.toNat cn) : Int)))
 then (bif (decide (Int.toNat x1 + (0 + al) < ml))
 then (bif (lim IntKind.i64 (ct + vl (Int.toNat x1 + (0 + al))))
 then (bif (lim IntKind.i64 (ct + vl (Int.toNat x1 + (0 + al)) - (1 : Int)))
 then (bif (decide (vl (Int.toNat x1 + (0 + al)) = (0 : Int)))
 then (none)
 else (bif (lim IntKind.i64
 (Int.tdiv (ct + vl (Int.toNat x1 + (0 + al)) - (1 : Int)) (vl (Int.toNat x1 + (0 + al)))))
 then (bif (lim IntKind.i64
 (gl (Int.toNat x1 + (0 + al)) *
 Int.tdiv (ct + vl (Int.toNat x1 + (0 + al)) - (1 : Int)) (vl (Int.toNat x1 + (0 + al)))))
 then (bif (lim IntKind.i64
 (x0 +
 gl (Int.toNat x1 + (0 + al)) *
 Int.tdiv (ct + vl (Int.toNat x1 + (0 + al)) - (1 : Int)) (vl (Int.toNat x1 + (0 + al)))))
 then (bif (lim IntKind.i64 (x1 + (1 : Int)))
 then (some (.inl (.h0 (x0 +
 gl (Int.toNat x1 + (0 + al)) *
 Int.tdiv (ct + vl (Int.toNat x1 + (0 + al)) - (1 : Int)) (vl (Int.toNat x1 + (0 + al)))) (x1 + (1 : Int)))))
 else (none))
 else (none))
 else (none))
 else (none)))
 else (none))
 else (none))
 else (none))
 else (none))
 else (some (.inr (x0)))
noncomputable def p50 (al nl ml : Nat) (tl : Nat → ByteArray) (vl : Nat → Int) (gl : Nat → Int) (wl : Nat → Int) (cn : Int) (ct : Int) : Option (St50 ⊕ Rt50) := bif (decide ((0 : Int) ≤ cn ∧ cn < (↑nl : Int)))
 then (bif (decide (Int.toNat cn + al < ml))
 then (bif (decide ((0 : Int) ≤ Option.getD Option.none (0 : Int) ∧ (0 : Int) ≤ cn ∧ cn ≤ (↑nl : Int)))
 then (some (.inl (.h0 (gl (Int.toNat cn + al)) ((0 : Int)))))
 else (none))
 else (none))
 else (none)
noncomputable def Te50 (test : Bool → Prop → Prop → Prop) (Kst : KS) (Kret : KR) (al nl ml : Nat) (tl : Nat → ByteArray) (vl : Nat → Int) (gl : Nat → Int) (wl : Nat → Int) (cn : Int) (ct : Int) : Prop :=
  test (decide ((0 : Int) ≤ cn ∧ cn < (↑nl : Int)))
 (test (decide (Int.toNat cn + al < ml))
 (test (decide ((0 : Int) ≤ Option.getD Option.none (0 : Int) ∧ (0 : Int) ≤ cn ∧ cn ≤ (↑nl : Int)))
 (Kst (hd Try.f50 0) ([PV.int IntKind.i64 ct, PV.int IntKind.i64 (gl (Int.toNat cn + al)),
 PV.loose (PA.mk (0) (4) (0 + al) (0)) (Int.toNat cn),
 PV.int IntKind.i64 (↑(Int.toNat cn) : Int), PV.int IntKind.i64 (0 : Int)]) ([[(0, false,
 Blk.cols ml
 [Col.str tl, Col.int IntKind.i64 vl, Col.int IntKind.i64 gl,
 Col.int IntKind.i64 wl])]]) (1))
 (False))
 (False))
 (False)
set_option maxRecDepth 100000 in
theorem te50 (test : Bool → Prop → Prop → Prop) (Kst : KS) (Kret : KR) (al nl ml : Nat) (tl : Nat → ByteArray) (vl : Nat → Int) (gl : Nat → Int) (wl : Nat → Int) (cn : Int) (ct : Int) : run test Try.env true noX true 400 ⟨50, [.cd (mkFn Try.f50).body], argT 0 [.loose ⟨0, 4, al, 0⟩ nl, .int .i64 cn, .int .i64 ct], [[], [(0, (false, .cols ml [.str tl, .int .i64 vl, .int .i64 gl, .int .i64 wl]))]], 1⟩ (proj 1 [2, 7, 17, 18, 19] Kst Kret) =
  Te50 test Kst Kret al nl ml tl vl gl wl cn ct := by kernel_rfl
noncomputable def T50_0 (test : Bool → Prop → Prop → Prop) (Kst : KS) (Kret : KR) (al nl ml : Nat) (tl : Nat → ByteArray) (vl : Nat → Int) (gl : Nat → Int) (wl : Nat → Int) (cn : Int) (ct : Int) (x0 : Int) (x1 : Int) : Prop :=
  test (decide (x1 < (↑(Int.toNat cn) : Int)))
 (test (decide ((0 : Int) ≤ x1 ∧ x1 < (↑(Int.toNat cn) : Int)))
 (test (decide (Int.toNat x1 + (0 + al) < ml))
 (test (decide (Int.toNat x1 + (0 + al) < ml))
 (test (decide (Int.toNat x1 + (0 + al) < ml))
 (test (decide (Int.toNat x1 + (0 + al) < ml))
 (test (lim IntKind.i64 (ct + vl (Int.toNat x1 + (0 + al))))
 (test (lim IntKind.i64 (ct + vl (Int.toNat x1 + (0 + al)) - (1 : Int)))
 (test (decide (vl (Int.toNat x1 + (0 + al)) = (0 : Int)))
 (False)
 (test (lim IntKind.i64
 (Int.tdiv (ct + vl (Int.toNat x1 + (0 + al)) - (1 : Int)) (vl (Int.toNat x1 + (0 + al)))))
 (test (lim IntKind.i64
 (gl (Int.toNat x1 + (0 + al)) *
 Int.tdiv (ct + vl (Int.toNat x1 + (0 + al)) - (1 : Int)) (vl (Int.toNat x1 + (0 + al)))))
 (test (lim IntKind.i64
 (x0 +
 gl (Int.toNat x1 + (0 + al)) *
 Int.tdiv (ct + vl (Int.toNat x1 + (0 + al)) - (1 : Int)) (vl (Int.toNat x1 + (0 + al)))))
 (test (lim IntKind.i64 (x1 + (1 : Int)))
 (Kst (hd Try.f50 0) ([PV.int IntKind.i64 ct,
 PV.int IntKind.i64
 (x0 +
 gl (Int.toNat x1 + (0 + al)) *
 Int.tdiv (ct + vl (Int.toNat x1 + (0 + al)) - (1 : Int)) (vl (Int.toNat x1 + (0 + al)))),
 PV.loose (PA.mk (0) (4) (0 + al) (0)) (Int.toNat cn),
 PV.int IntKind.i64 (↑(Int.toNat cn) : Int), PV.int IntKind.i64 (x1 + (1 : Int))]) ([[(0, false,
 Blk.cols ml
 [Col.str tl, Col.int IntKind.i64 vl, Col.int IntKind.i64 gl,
 Col.int IntKind.i64 wl])]]) (2))
 (False))
 (False))
 (False))
 (False)))
 (False))
 (False))
 (False))
 (False))
 (False))
 (False))
 (False))
 (Kret (PV.int IntKind.i64 x0) ([[(0, false,
 Blk.cols ml
 [Col.str tl, Col.int IntKind.i64 vl, Col.int IntKind.i64 gl,
 Col.int IntKind.i64 wl])]]) (1))
set_option maxRecDepth 100000 in
theorem t50_0 (test : Bool → Prop → Prop → Prop) (Kst : KS) (Kret : KR) (al nl ml : Nat) (tl : Nat → ByteArray) (vl : Nat → Int) (gl : Nat → Int) (wl : Nat → Int) (cn : Int) (ct : Int) (x0 : Int) (x1 : Int) : run test Try.env true noX true 400 ⟨50, hd Try.f50 0, zipT [2, 7, 17, 18, 19] [PV.int IntKind.i64 ct, PV.int IntKind.i64 x0,
 PV.loose (PA.mk (0) (4) (0 + al) (0)) (Int.toNat cn),
 PV.int IntKind.i64 (↑(Int.toNat cn) : Int), PV.int IntKind.i64 x1], [[], [(0, (false, .cols ml [.str tl, .int .i64 vl, .int .i64 gl, .int .i64 wl]))]], 1⟩ (proj 1 [2, 7, 17, 18, 19] Kst Kret) =
  T50_0 test Kst Kret al nl ml tl vl gl wl cn ct x0 x1 := by kernel_rfl
attribute [local irreducible] Int.subNatNat in
set_option maxRecDepth 100000 in
theorem be50 (al nl ml : Nat) (tl : Nat → ByteArray) (vl : Nat → Int) (gl : Nat → Int) (wl : Nat → Int) (cn : Int) (ct : Int) (Kst : KS) (Kret : KR) (x : St50 ⊕ Rt50) (hS : HS 1 400 ((I50 al nl ml tl vl gl wl cn ct)) Kst x) (hR : HR 1 400 ((V50 al nl ml tl vl gl wl cn ct)) (fun r => [newL (1 + 1) ((N50 al nl ml tl vl gl wl cn ct) r) ++ [(0, (false, .cols ml [.str tl, .int .i64 vl, .int .i64 gl, .int .i64 wl]))]]) Kret x) (h : (bif (decide ((0 : Int) ≤ cn ∧ cn < (↑nl : Int)))
 then (bif (decide (Int.toNat cn + al < ml))
 then (bif (decide ((0 : Int) ≤ Option.getD Option.none (0 : Int) ∧ (0 : Int) ≤ cn ∧ cn ≤ (↑nl : Int)))
 then (some (.inl (.h0 (gl (Int.toNat cn + al)) ((0 : Int)))))
 else (none))
 else (none))
 else (none) : Option (St50 ⊕ Rt50)) = some x) : Te50 cond Kst Kret al nl ml tl vl gl wl cn ct := by
  unfold Te50
  exact bif_split h
   (fun c0 h => bif_split h
   (fun c1 h => bif_split h
   (fun c2 h => stop_at hS _ h (fun n => n) rfl rfl rfl ⟨(rn_int rfl), ⟨(rn_int rfl), ⟨(rn_loose (use_lo rfl) rfl rfl rfl), ⟨(rn_int rfl), ⟨(rn_int rfl), trivial⟩⟩⟩⟩⟩ rfl (entl_bor (use_lo rfl) rfl rfl entl_nil))
   (fun c2 h => no_some h))
   (fun c1 h => no_some h))
   (fun c0 h => no_some h)
attribute [local irreducible] Int.subNatNat in
set_option maxRecDepth 100000 in
theorem b50_0 (al nl ml : Nat) (tl : Nat → ByteArray) (vl : Nat → Int) (gl : Nat → Int) (wl : Nat → Int) (cn : Int) (ct : Int) (Kst : KS) (Kret : KR) (x : St50 ⊕ Rt50) (hS : HS 1 400 ((I50 al nl ml tl vl gl wl cn ct)) Kst x) (hR : HR 1 400 ((V50 al nl ml tl vl gl wl cn ct)) (fun r => [newL (1 + 1) ((N50 al nl ml tl vl gl wl cn ct) r) ++ [(0, (false, .cols ml [.str tl, .int .i64 vl, .int .i64 gl, .int .i64 wl]))]]) Kret x) (x0 : Int) (x1 : Int) (h : (bif (decide (x1 < (↑(Int.toNat cn) : Int)))
 then (bif (decide ((0 : Int) ≤ x1 ∧ x1 < (↑(Int.toNat cn) : Int)))
 then (bif (decide (Int.toNat x1 + (0 + al) < ml))
 then (bif (lim IntKind.i64 (ct + vl (Int.toNat x1 + (0 + al))))
 then (bif (lim IntKind.i64 (ct + vl (Int.toNat x1 + (0 + al)) - (1 : Int)))
 then (bif (decide (vl (Int.toNat x1 + (0 + al)) = (0 : Int)))
 then (none)
 else (bif (lim IntKind.i64
 (Int.tdiv (ct + vl (Int.toNat x1 + (0 + al)) - (1 : Int)) (vl (Int.toNat x1 + (0 + al)))))
 then (bif (lim IntKind.i64
 (gl (Int.toNat x1 + (0 + al)) *
 Int.tdiv (ct + vl (Int.toNat x1 + (0 + al)) - (1 : Int)) (vl (Int.toNat x1 + (0 + al)))))
 then (bif (lim IntKind.i64
 (x0 +
 gl (Int.toNat x1 + (0 + al)) *
 Int.tdiv (ct + vl (Int.toNat x1 + (0 + al)) - (1 : Int)) (vl (Int.toNat x1 + (0 + al)))))
 then (bif (lim IntKind.i64 (x1 + (1 : Int)))
 then (some (.inl (.h0 (x0 +
 gl (Int.toNat x1 + (0 + al)) *
 Int.tdiv (ct + vl (Int.toNat x1 + (0 + al)) - (1 : Int)) (vl (Int.toNat x1 + (0 + al)))) (x1 + (1 : Int)))))
 else (none))
 else (none))
 else (none))
 else (none)))
 else (none))
 else (none))
 else (none))
 else (none))
 else (some (.inr (x0))) : Option (St50 ⊕ Rt50)) = some x) : T50_0 cond Kst Kret al nl ml tl vl gl wl cn ct x0 x1 := by
  unfold T50_0
  exact bif_split h
   (fun c0 h => bif_split h
   (fun c1 h => bif_split h
   (fun c2 h => cond_yes c2 (cond_yes c2 (cond_yes c2 (bif_split h
   (fun c3 h => bif_split h
   (fun c4 h => bif_split h
   (fun c5 h => no_some h)
   (fun c5 h => bif_split h
   (fun c6 h => bif_split h
   (fun c7 h => bif_split h
   (fun c8 h => bif_split h
   (fun c9 h => stop_at hS _ h (fun n => n) rfl rfl rfl ⟨(rn_int rfl), ⟨(rn_int rfl), ⟨(rn_loose (use_lo rfl) rfl rfl rfl), ⟨(rn_int rfl), ⟨(rn_int rfl), trivial⟩⟩⟩⟩⟩ rfl (entl_bor (use_lo rfl) rfl rfl entl_nil))
   (fun c9 h => no_some h))
   (fun c8 h => no_some h))
   (fun c7 h => no_some h))
   (fun c6 h => no_some h)))
   (fun c4 h => no_some h))
   (fun c3 h => no_some h)))))
   (fun c2 h => no_some h))
   (fun c1 h => no_some h))
   (fun c0 h => ret_at hR _ h (fun n => n) rfl rfl rfl (rn_int rfl) rfl (entl_bor (use_lo rfl) rfl rfl entl_nil))
theorem a50 (al nl ml : Nat) (tl : Nat → ByteArray) (vl : Nat → Int) (gl : Nat → Int) (wl : Nat → Int) (cn : Int) (ct : Int) {r : Rt50} (h : Goes ((q50 al nl ml tl vl gl wl cn ct)) ((p50 al nl ml tl vl gl wl cn ct)) r) : CallR Try.prog 50 [.loose ⟨0, 4, al, 0⟩ nl, .int .i64 cn, .int .i64 ct] [[(0, (false, .cols ml [.str tl, .int .i64 vl, .int .i64 gl, .int .i64 wl]))]] 1 ((V50 al nl ml tl vl gl wl cn ct) r) ((fun r => [newL (1 + 1) ((N50 al nl ml tl vl gl wl cn ct) r) ++ [(0, (false, .cols ml [.str tl, .int .i64 vl, .int .i64 gl, .int .i64 wl]))]]) r) 400 ∧ ∃ F, Try.prog.funcs[50]? = some F ∧ F.body.isSome = true ∧ (F.name == "runtime.NumGoroutine") = false := by
  refine dec_calls (sy := true) (f := 50) (lo := 1) (hi := 400) (H := [[(0, (false, .cols ml [.str tl, .int .i64 vl, .int .i64 gl, .int .i64 wl]))]]) (args := [.loose ⟨0, 4, al, 0⟩ nl, .int .i64 cn, .int .i64 ct]) Try.envOk Try.mixed noX_ok ((I50 al nl ml tl vl gl wl cn ct)) ((V50 al nl ml tl vl gl wl cn ct)) (fun r => [newL (1 + 1) ((N50 al nl ml tl vl gl wl cn ct) r) ++ [(0, (false, .cols ml [.str tl, .int .i64 vl, .int .i64 gl, .int .i64 wl]))]]) (fn := mkFn Try.f50) (ts := [2, 7, 17, 18, 19]) (n := 400) rfl (by decide) (by simp) (names_of rfl) ?_ ?_ ?_ h
  · intro s; cases s <;> exact ⟨hd_ok _ _, by simp [I50], names_of rfl, Nat.le_of_ble_eq_true rfl⟩
  · intro Kst Kret x hS hR h
    exact Holds.eq (te50 cond Kst Kret al nl ml tl vl gl wl cn ct) (be50 al nl ml tl vl gl wl cn ct Kst Kret x hS hR h)
  · intro Kst Kret x hS hR s h
    cases s with
    | h0 x0 x1 => exact Holds.eq (t50_0 cond Kst Kret al nl ml tl vl gl wl cn ct x0 x1) (b50_0 al nl ml tl vl gl wl cn ct Kst Kret x hS hR x0 x1 h)
noncomputable def k50 : Con := ⟨50, [.one (.list [.str, .int .i64, .int .i64, .int .i64]), .one (.plain (.int .i64)), .one (.plain (.int .i64))], fun (x : (Nat × Nat × Nat × (Nat → ByteArray) × (Nat → Int) × (Nat → Int) × (Nat → Int) × Unit) × Int × Int × Unit) => (fun (al nl ml : Nat) (tl : Nat → ByteArray) (vl : Nat → Int) (gl : Nat → Int) (wl : Nat → Int) (cn : Int) (ct : Int) => decide (al + nl ≤ ml ∧ (0 ≤ cn ∧ cn < nl) ∧ (0 ≤ ct ∧ ct ≤ 1000000) ∧ S.okT nl (fun j => vl (j + al)) (fun j => gl (j + al)) (fun j => wl (j + al)) = true)) x.1.1 x.1.2.1 x.1.2.2.1 x.1.2.2.2.1 x.1.2.2.2.2.1 x.1.2.2.2.2.2.1 x.1.2.2.2.2.2.2.1 x.2.1 x.2.2.1, fun (x : (Nat × Nat × Nat × (Nat → ByteArray) × (Nat → Int) × (Nat → Int) × (Nat → Int) × Unit) × Int × Int × Unit) => (fun (al nl ml : Nat) (tl : Nat → ByteArray) (vl : Nat → Int) (gl : Nat → Int) (wl : Nat → Int) (cn : Int) (ct : Int) => (V50 al nl ml tl vl gl wl cn ct) (S.dem (fun j => vl (j + al)) (fun j => gl (j + al)) cn.toNat ct)) x.1.1 x.1.2.1 x.1.2.2.1 x.1.2.2.2.1 x.1.2.2.2.2.1 x.1.2.2.2.2.2.1 x.1.2.2.2.2.2.2.1 x.2.1 x.2.2.1, fun (x : (Nat × Nat × Nat × (Nat → ByteArray) × (Nat → Int) × (Nat → Int) × (Nat → Int) × Unit) × Int × Int × Unit) => (fun (al nl ml : Nat) (tl : Nat → ByteArray) (vl : Nat → Int) (gl : Nat → Int) (wl : Nat → Int) (cn : Int) (ct : Int) => (N50 al nl ml tl vl gl wl cn ct) (S.dem (fun j => vl (j + al)) (fun j => gl (j + al)) cn.toNat ct)) x.1.1 x.1.2.1 x.1.2.2.1 x.1.2.2.2.1 x.1.2.2.2.2.1 x.1.2.2.2.2.2.1 x.1.2.2.2.2.2.2.1 x.2.1 x.2.2.1, fun _ _ => .dead⟩
theorem s50' (al nl ml : Nat) (tl : Nat → ByteArray) (vl : Nat → Int) (gl : Nat → Int) (wl : Nat → Int) (cn : Int) (ct : Int) (hp : al + nl ≤ ml ∧ (0 ≤ cn ∧ cn < nl) ∧ (0 ≤ ct ∧ ct ≤ 1000000) ∧ S.okT nl (fun j => vl (j + al)) (fun j => gl (j + al)) (fun j => wl (j + al)) = true) : ∀ (k i : Nat) (x0 : Int), i + k = cn.toNat → Holds (x0 = gl (cn.toNat + al) + S.dsum (fun j => vl (j + al)) (fun j => gl (j + al)) ct i) → Comes (q50 al nl ml tl vl gl wl cn ct) (.h0 x0 (i : Int)) (S.dem (fun j => vl (j + al)) (fun j => gl (j + al)) cn.toNat ct) := by
  obtain ⟨hp1, ⟨hp2, hp3⟩, ⟨hp4, hp5⟩, hT⟩ := hp
  obtain ⟨h8, hA⟩ := okT_at hT
  intro k
  induction k with
  | zero =>
    intro i x0 hi ex
    have e : x0 = S.dem (fun j => vl (j + al)) (fun j => gl (j + al)) cn.toNat ct := by rw [ex.get, show i = cn.toNat by omega]; rfl
    clear ex hT hA
    generalize S.dem (fun j => vl (j + al)) (fun j => gl (j + al)) cn.toNat ct = R at *
    subst e
    apply Comes.of
    show Goes _ _ _
    (first | rw [q50] | unfold q50)
    repeat' first
      | with_reducible refine goes_if (fun h => ?_) (fun h => ?_) <;> (try simp only [lim64, imp_false, decide_eq_true_eq, decide_eq_false_iff_not, Int.toNat_natCast, toNat_pred, toNat_succ, Option.getD_some, Option.getD_none, Bool.not_eq_true', Bool.not_eq_false', Bool.and_eq_true, Bool.or_eq_true, Bool.and_eq_false_iff, Bool.or_eq_false_iff, bne_iff_ne, beq_iff_eq, bne_eq_false_iff_eq, beq_eq_false_iff_ne, ne_eq, not_and, Int.not_le, Int.not_lt, ge_iff_le, gt_iff_lt, Nat.not_lt, Nat.not_le, Bool.not_eq_true, Bool.not_eq_false, Bool.true_eq_false, Bool.false_eq_true, not_false_eq_true, not_true_eq_false] at h)
      | exact goes_none.mpr (by omega)
    all_goals first | (exfalso; omega) | rfl
  | succ k ih =>
    intro i x0 hi ex
    have hAi : 1 ≤ vl (i + al) ∧ vl (i + al) ≤ 1000000 ∧ 1 ≤ gl (i + al) ∧ gl (i + al) ≤ vl (i + al) ∧ gl (i + al) ≤ wl (i + al) ∧ wl (i + al) ≤ vl (i + al) := hA i (by omega)
    have hAc : 1 ≤ vl (cn.toNat + al) ∧ vl (cn.toNat + al) ≤ 1000000 ∧ 1 ≤ gl (cn.toNat + al) ∧ gl (cn.toNat + al) ≤ vl (cn.toNat + al) ∧ gl (cn.toNat + al) ≤ wl (cn.toNat + al) ∧ wl (cn.toNat + al) ≤ vl (cn.toNat + al) := hA cn.toNat (by omega)
    have hb := dsum_b (p := (fun j => vl (j + al))) (c := (fun j => gl (j + al))) hp4 hp5 (i := i) fun j hj => by have := hA j (by omega); omega
    have hu := up_b (t := ct) (p := vl (i + al)) hp4 hAi.1
    have ih2 := ih (i + 1) (x0 + gl (i + al) * Int.tdiv (ct + vl (i + al) - 1) (vl (i + al))) (by omega) ⟨by rw [ex.get]; simp only [S.dsum, Int.add_assoc]⟩
    have ex := ex.get
    generalize hD : S.dsum (fun j => vl (j + al)) (fun j => gl (j + al)) ct i = ds at *
    generalize hy : Int.tdiv (ct + vl (i + al) - 1) (vl (i + al)) = y at *
    have c1 : 0 ≤ gl (i + al) * y := Int.mul_nonneg (by omega) hu.1
    have c2 : gl (i + al) * y ≤ 1000000 * 1000000 := Int.mul_le_mul (by omega) (by omega) hu.1 (by omega)
    generalize hz : gl (i + al) * y = z at *
    have hz2 : gl (i + al) * y = z := by rw [← hz]
    clear hA hT hD hz ih
    generalize S.dem (fun j => vl (j + al)) (fun j => gl (j + al)) cn.toNat ct = R at *
    generalize gl (cn.toNat + al) = g0 at *
    apply Comes.of
    rw [q50]
    simp only [Nat.zero_add, Int.toNat_natCast, hy, hz2]
    repeat' first
      | with_reducible refine goes_if (fun h => ?_) (fun h => ?_) <;> (try simp only [lim64, imp_false, decide_eq_true_eq, decide_eq_false_iff_not, Int.toNat_natCast, toNat_pred, toNat_succ, Option.getD_some, Option.getD_none, Bool.not_eq_true', Bool.not_eq_false', Bool.and_eq_true, Bool.or_eq_true, Bool.and_eq_false_iff, Bool.or_eq_false_iff, bne_iff_ne, beq_iff_eq, bne_eq_false_iff_eq, beq_eq_false_iff_ne, ne_eq, not_and, Int.not_le, Int.not_lt, ge_iff_le, gt_iff_lt, Nat.not_lt, Nat.not_le, Bool.not_eq_true, Bool.not_eq_false, Bool.true_eq_false, Bool.false_eq_true, not_false_eq_true, not_true_eq_false] at h)
      | exact goes_none.mpr (by omega)
    all_goals first | (exfalso; omega) | exact ih2
theorem s50 (al nl ml : Nat) (tl : Nat → ByteArray) (vl : Nat → Int) (gl : Nat → Int) (wl : Nat → Int) (cn : Int) (ct : Int) (hp : al + nl ≤ ml ∧ (0 ≤ cn ∧ cn < nl) ∧ (0 ≤ ct ∧ ct ≤ 1000000) ∧ S.okT nl (fun j => vl (j + al)) (fun j => gl (j + al)) (fun j => wl (j + al)) = true) : Goes ((q50 al nl ml tl vl gl wl cn ct)) ((p50 al nl ml tl vl gl wl cn ct)) (S.dem (fun j => vl (j + al)) (fun j => gl (j + al)) cn.toNat ct) := by
  have hm := s50' al nl ml tl vl gl wl cn ct hp cn.toNat 0 (gl (cn.toNat + al)) (Nat.zero_add _) ⟨(Int.add_zero _).symm⟩
  obtain ⟨hp1, ⟨hp2, hp3⟩, ⟨hp4, hp5⟩, hT⟩ := hp
  clear hT
  generalize S.dem (fun j => vl (j + al)) (fun j => gl (j + al)) cn.toNat ct = R at *
  unfold p50
  repeat' first
    | with_reducible refine goes_if (fun h => ?_) (fun h => ?_) <;> (try simp only [lim64, imp_false, decide_eq_true_eq, decide_eq_false_iff_not, Int.toNat_natCast, toNat_pred, toNat_succ, Option.getD_some, Option.getD_none, Bool.not_eq_true', Bool.not_eq_false', Bool.and_eq_true, Bool.or_eq_true, Bool.and_eq_false_iff, Bool.or_eq_false_iff, bne_iff_ne, beq_iff_eq, bne_eq_false_iff_eq, beq_eq_false_iff_ne, ne_eq, not_and, Int.not_le, Int.not_lt, ge_iff_le, gt_iff_lt, Nat.not_lt, Nat.not_le, Bool.not_eq_true, Bool.not_eq_false, Bool.true_eq_false, Bool.false_eq_true, not_false_eq_true, not_true_eq_false] at h)
    | exact goes_none.mpr (by omega)
  all_goals first | (exfalso; omega) | exact hm

theorem k50_ok : k50.ok Try.prog := by
  intro x hx
  obtain ⟨⟨al, nl, ml, tl, vl, gl, wl, _⟩, cn, ct, _⟩ := x
  obtain ⟨h1, h2⟩ := a50 al nl ml tl vl gl wl cn ct (s50 al nl ml tl vl gl wl cn ct (of_dec hx rfl))
  exact ⟨⟨400, (by decide : 1 + 1 + 0 ≤ 400), h1⟩, h2⟩
inductive St53 where
  | h0 (x0 : Int) (x1 : Int)
abbrev Rt53 := Int
noncomputable def V53 (al nl ml : Nat) (tl : Nat → ByteArray) (vl : Nat → Int) (gl : Nat → Int) (wl : Nat → Int) (cn : Int) (ct : Int) (r : Rt53) : PV := PV.int IntKind.i64 r
noncomputable def N53 (al nl ml : Nat) (tl : Nat → ByteArray) (vl : Nat → Int) (gl : Nat → Int) (wl : Nat → Int) (cn : Int) (ct : Int) (r : Rt53) : List Blk := []
noncomputable def I53 (al nl ml : Nat) (tl : Nat → ByteArray) (vl : Nat → Int) (gl : Nat → Int) (wl : Nat → Int) (cn : Int) (ct : Int) : St53 → Hd
  | .h0 x0 x1 => ⟨hd Try.f53 0, [PV.loose (PA.mk (0) (4) al (0)) nl, PV.int IntKind.i64 cn,
 PV.int IntKind.i64 ct, PV.int IntKind.i64 x0, PV.int IntKind.i64 x1], [[], [(0, (false, .cols ml [.str tl, .int .i64 vl, .int .i64 gl, .int .i64 wl]))]], 1⟩
noncomputable def q53 (al nl ml : Nat) (tl : Nat → ByteArray) (vl : Nat → Int) (gl : Nat → Int) (wl : Nat → Int) (cn : Int) (ct : Int) : St53 → Option (St53 ⊕ Rt53)
  | .h0 x0 x1 => bif (decide (x1 < cn))
 then (bif (decide ((0 : Int) ≤ x1 ∧ x1 < (↑nl : Int)))
 then (bif (decide (Int.toNat x1 + al < ml))
 then (bif (lim IntKind.i64 (ct + vl (Int.toNat x1 + al)))
 then (bif (lim IntKind.i64 (ct + vl (Int.toNat x1 + al) - (1 : Int)))
 then (bif (decide (vl (Int.toNat x1 + al) = (0 : Int)))
 then (none)
 else (bif (lim IntKind.i64 (Int.tdiv (ct + vl (Int.toNat x1 + al) - (1 : Int)) (vl (Int.toNat x1 + al))))
 then (bif (lim IntKind.i64
 (Int.tdiv (ct + vl (Int.toNat x1 + al) - (1 : Int)) (vl (Int.toNat x1 + al)) * gl (Int.toNat x1 + al)))
 then (bif (lim IntKind.i64
 (x0 + Int.tdiv (ct + vl (Int.toNat x1 + al) - (1 : Int)) (vl (Int.toNat x1 + al)) * gl (Int.toNat x1 + al)))
 then (bif (lim IntKind.i64 (x1 + (1 : Int)))
 then (some (.inl (.h0 (x0 + Int.tdiv (ct + vl (Int.toNat x1 + al) - (1 : Int)) (vl (Int.toNat x1 + al)) * gl (Int.toNat x1 + al)) (x1 + (1 : Int)))))
 else (none))
 else (none))
 else (none))
 else (none)))
 else (none))
 else (none))
 else (none))
 else (none))
 else (some (.inr (x0)))
noncomputable def p53 (al nl ml : Nat) (tl : Nat → ByteArray) (vl : Nat → Int) (gl : Nat → Int) (wl : Nat → Int) (cn : Int) (ct : Int) : Option (St53 ⊕ Rt53) := bif (decide ((0 : Int) ≤ cn ∧ cn < (↑nl : Int)))
 then (bif (decide (Int.toNat cn + al < ml))
 then (some (.inl (.h0 (gl (Int.toNat cn + al)) ((0 : Int)))))
 else (none))
 else (none)
noncomputable def Te53 (test : Bool → Prop → Prop → Prop) (Kst : KS) (Kret : KR) (al nl ml : Nat) (tl : Nat → ByteArray) (vl : Nat → Int) (gl : Nat → Int) (wl : Nat → Int) (cn : Int) (ct : Int) : Prop :=
  test (decide ((0 : Int) ≤ cn ∧ cn < (↑nl : Int)))
 (test (decide (Int.toNat cn + al < ml))
 (Kst (hd Try.f53 0) ([PV.loose (PA.mk (0) (4) al (0)) nl, PV.int IntKind.i64 cn,
 PV.int IntKind.i64 ct, PV.int IntKind.i64 (gl (Int.toNat cn + al)),
 PV.int IntKind.i64 (0 : Int)]) ([[(0, false,
 Blk.cols ml
 [Col.str tl, Col.int IntKind.i64 vl, Col.int IntKind.i64 gl,
 Col.int IntKind.i64 wl])]]) (1))
 (False))
 (False)
set_option maxRecDepth 100000 in
theorem te53 (test : Bool → Prop → Prop → Prop) (Kst : KS) (Kret : KR) (al nl ml : Nat) (tl : Nat → ByteArray) (vl : Nat → Int) (gl : Nat → Int) (wl : Nat → Int) (cn : Int) (ct : Int) : run test Try.env true noX true 400 ⟨53, [.cd (mkFn Try.f53).body], argT 0 [.loose ⟨0, 4, al, 0⟩ nl, .int .i64 cn, .int .i64 ct], [[], [(0, (false, .cols ml [.str tl, .int .i64 vl, .int .i64 gl, .int .i64 wl]))]], 1⟩ (proj 1 [0, 1, 2, 7, 8] Kst Kret) =
  Te53 test Kst Kret al nl ml tl vl gl wl cn ct := by kernel_rfl
noncomputable def T53_0 (test : Bool → Prop → Prop → Prop) (Kst : KS) (Kret : KR) (al nl ml : Nat) (tl : Nat → ByteArray) (vl : Nat → Int) (gl : Nat → Int) (wl : Nat → Int) (cn : Int) (ct : Int) (x0 : Int) (x1 : Int) : Prop :=
  test (decide (x1 < cn))
 (test (decide ((0 : Int) ≤ x1 ∧ x1 < (↑nl : Int)))
 (test (decide (Int.toNat x1 + al < ml))
 (test (lim IntKind.i64 (ct + vl (Int.toNat x1 + al)))
 (test (lim IntKind.i64 (ct + vl (Int.toNat x1 + al) - (1 : Int)))
 (test (decide ((0 : Int) ≤ x1 ∧ x1 < (↑nl : Int)))
 (test (decide (Int.toNat x1 + al < ml))
 (test (decide (vl (Int.toNat x1 + al) = (0 : Int)))
 (False)
 (test (lim IntKind.i64 (Int.tdiv (ct + vl (Int.toNat x1 + al) - (1 : Int)) (vl (Int.toNat x1 + al))))
 (test (decide ((0 : Int) ≤ x1 ∧ x1 < (↑nl : Int)))
 (test (decide (Int.toNat x1 + al < ml))
 (test (lim IntKind.i64
 (Int.tdiv (ct + vl (Int.toNat x1 + al) - (1 : Int)) (vl (Int.toNat x1 + al)) * gl (Int.toNat x1 + al)))
 (test (lim IntKind.i64
 (x0 + Int.tdiv (ct + vl (Int.toNat x1 + al) - (1 : Int)) (vl (Int.toNat x1 + al)) * gl (Int.toNat x1 + al)))
 (test (lim IntKind.i64 (x1 + (1 : Int)))
 (Kst (hd Try.f53 0) ([PV.loose (PA.mk (0) (4) al (0)) nl, PV.int IntKind.i64 cn,
 PV.int IntKind.i64 ct,
 PV.int IntKind.i64
 (x0 + Int.tdiv (ct + vl (Int.toNat x1 + al) - (1 : Int)) (vl (Int.toNat x1 + al)) * gl (Int.toNat x1 + al)),
 PV.int IntKind.i64 (x1 + (1 : Int))]) ([[(0, false,
 Blk.cols ml
 [Col.str tl, Col.int IntKind.i64 vl, Col.int IntKind.i64 gl,
 Col.int IntKind.i64 wl])]]) (1))
 (False))
 (False))
 (False))
 (False))
 (False))
 (False)))
 (False))
 (False))
 (False))
 (False))
 (False))
 (False))
 (Kret (PV.int IntKind.i64 x0) ([[(0, false,
 Blk.cols ml
 [Col.str tl, Col.int IntKind.i64 vl, Col.int IntKind.i64 gl,
 Col.int IntKind.i64 wl])]]) (1))
set_option maxRecDepth 100000 in
theorem t53_0 (test : Bool → Prop → Prop → Prop) (Kst : KS) (Kret : KR) (al nl ml : Nat) (tl : Nat → ByteArray) (vl : Nat → Int) (gl : Nat → Int) (wl : Nat → Int) (cn : Int) (ct : Int) (x0 : Int) (x1 : Int) : run test Try.env true noX true 400 ⟨53, hd Try.f53 0, zipT [0, 1, 2, 7, 8] [PV.loose (PA.mk (0) (4) al (0)) nl, PV.int IntKind.i64 cn,
 PV.int IntKind.i64 ct, PV.int IntKind.i64 x0, PV.int IntKind.i64 x1], [[], [(0, (false, .cols ml [.str tl, .int .i64 vl, .int .i64 gl, .int .i64 wl]))]], 1⟩ (proj 1 [0, 1, 2, 7, 8] Kst Kret) =
  T53_0 test Kst Kret al nl ml tl vl gl wl cn ct x0 x1 := by kernel_rfl
attribute [local irreducible] Int.subNatNat in
set_option maxRecDepth 100000 in
theorem be53 (al nl ml : Nat) (tl : Nat → ByteArray) (vl : Nat → Int) (gl : Nat → Int) (wl : Nat → Int) (cn : Int) (ct : Int) (Kst : KS) (Kret : KR) (x : St53 ⊕ Rt53) (hS : HS 1 400 ((I53 al nl ml tl vl gl wl cn ct)) Kst x) (hR : HR 1 400 ((V53 al nl ml tl vl gl wl cn ct)) (fun r => [newL (1 + 1) ((N53 al nl ml tl vl gl wl cn ct) r) ++ [(0, (false, .cols ml [.str tl, .int .i64 vl, .int .i64 gl, .int .i64 wl]))]]) Kret x) (h : (bif (decide ((0 : Int) ≤ cn ∧ cn < (↑nl : Int)))
 then (bif (decide (Int.toNat cn + al < ml))
 then (some (.inl (.h0 (gl (Int.toNat cn + al)) ((0 : Int)))))
 else (none))
 else (none) : Option (St53 ⊕ Rt53)) = some x) : Te53 cond Kst Kret al nl ml tl vl gl wl cn ct := by
  unfold Te53
  exact bif_split h
   (fun c0 h => bif_split h
   (fun c1 h => stop_at hS _ h (fun n => n) rfl rfl rfl ⟨(rn_loose (use_lo rfl) rfl rfl rfl), ⟨(rn_int rfl), ⟨(rn_int rfl), ⟨(rn_int rfl), ⟨(rn_int rfl), trivial⟩⟩⟩⟩⟩ rfl (entl_bor (use_lo rfl) rfl rfl entl_nil))
   (fun c1 h => no_some h))
   (fun c0 h => no_some h)
attribute [local irreducible] Int.subNatNat in
set_option maxRecDepth 100000 in
theorem b53_0 (al nl ml : Nat) (tl : Nat → ByteArray) (vl : Nat → Int) (gl : Nat → Int) (wl : Nat → Int) (cn : Int) (ct : Int) (Kst : KS) (Kret : KR) (x : St53 ⊕ Rt53) (hS : HS 1 400 ((I53 al nl ml tl vl gl wl cn ct)) Kst x) (hR : HR 1 400 ((V53 al nl ml tl vl gl wl cn ct)) (fun r => [newL (1 + 1) ((N53 al nl ml tl vl gl wl cn ct) r) ++ [(0, (false, .cols ml [.str tl, .int .i64 vl, .int .i64 gl, .int .i64 wl]))]]) Kret x) (x0 : Int) (x1 : Int) (h : (bif (decide (x1 < cn))
 then (bif (decide ((0 : Int) ≤ x1 ∧ x1 < (↑nl : Int)))
 then (bif (decide (Int.toNat x1 + al < ml))
 then (bif (lim IntKind.i64 (ct + vl (Int.toNat x1 + al)))
 then (bif (lim IntKind.i64 (ct + vl (Int.toNat x1 + al) - (1 : Int)))
 then (bif (decide (vl (Int.toNat x1 + al) = (0 : Int)))
 then (none)
 else (bif (lim IntKind.i64 (Int.tdiv (ct + vl (Int.toNat x1 + al) - (1 : Int)) (vl (Int.toNat x1 + al))))
 then (bif (lim IntKind.i64
 (Int.tdiv (ct + vl (Int.toNat x1 + al) - (1 : Int)) (vl (Int.toNat x1 + al)) * gl (Int.toNat x1 + al)))
 then (bif (lim IntKind.i64
 (x0 + Int.tdiv (ct + vl (Int.toNat x1 + al) - (1 : Int)) (vl (Int.toNat x1 + al)) * gl (Int.toNat x1 + al)))
 then (bif (lim IntKind.i64 (x1 + (1 : Int)))
 then (some (.inl (.h0 (x0 + Int.tdiv (ct + vl (Int.toNat x1 + al) - (1 : Int)) (vl (Int.toNat x1 + al)) * gl (Int.toNat x1 + al)) (x1 + (1 : Int)))))
 else (none))
 else (none))
 else (none))
 else (none)))
 else (none))
 else (none))
 else (none))
 else (none))
 else (some (.inr (x0))) : Option (St53 ⊕ Rt53)) = some x) : T53_0 cond Kst Kret al nl ml tl vl gl wl cn ct x0 x1 := by
  unfold T53_0
  exact bif_split h
   (fun c0 h => bif_split h
   (fun c1 h => bif_split h
   (fun c2 h => bif_split h
   (fun c3 h => bif_split h
   (fun c4 h => cond_yes c1 (cond_yes c2 (bif_split h
   (fun c5 h => no_some h)
   (fun c5 h => bif_split h
   (fun c6 h => cond_yes c1 (cond_yes c2 (bif_split h
   (fun c7 h => bif_split h
   (fun c8 h => bif_split h
   (fun c9 h => stop_at hS _ h (fun n => n) rfl rfl rfl ⟨(rn_loose (use_lo rfl) rfl rfl rfl), ⟨(rn_int rfl), ⟨(rn_int rfl), ⟨(rn_int rfl), ⟨(rn_int rfl), trivial⟩⟩⟩⟩⟩ rfl (entl_bor (use_lo rfl) rfl rfl entl_nil))
   (fun c9 h => no_some h))
   (fun c8 h => no_some h))
   (fun c7 h => no_some h))))
   (fun c6 h => no_some h)))))
   (fun c4 h => no_some h))
   (fun c3 h => no_some h))
   (fun c2 h => no_some h))
   (fun c1 h => no_some h))
   (fun c0 h => ret_at hR _ h (fun n => n) rfl rfl rfl (rn_int rfl) rfl (entl_bor (use_lo rfl) rfl rfl entl_nil))
theorem a53 (al nl ml : Nat) (tl : Nat → ByteArray) (vl : Nat → Int) (gl : Nat → Int) (wl : Nat → Int) (cn : Int) (ct : Int) {r : Rt53} (h : Goes ((q53 al nl ml tl vl gl wl cn ct)) ((p53 al nl ml tl vl gl wl cn ct)) r) : CallR Try.prog 53 [.loose ⟨0, 4, al, 0⟩ nl, .int .i64 cn, .int .i64 ct] [[(0, (false, .cols ml [.str tl, .int .i64 vl, .int .i64 gl, .int .i64 wl]))]] 1 ((V53 al nl ml tl vl gl wl cn ct) r) ((fun r => [newL (1 + 1) ((N53 al nl ml tl vl gl wl cn ct) r) ++ [(0, (false, .cols ml [.str tl, .int .i64 vl, .int .i64 gl, .int .i64 wl]))]]) r) 400 ∧ ∃ F, Try.prog.funcs[53]? = some F ∧ F.body.isSome = true ∧ (F.name == "runtime.NumGoroutine") = false := by
  refine dec_calls (sy := true) (f := 53) (lo := 1) (hi := 400) (H := [[(0, (false, .cols ml [.str tl, .int .i64 vl, .int .i64 gl, .int .i64 wl]))]]) (args := [.loose ⟨0, 4, al, 0⟩ nl, .int .i64 cn, .int .i64 ct]) Try.envOk Try.mixed noX_ok ((I53 al nl ml tl vl gl wl cn ct)) ((V53 al nl ml tl vl gl wl cn ct)) (fun r => [newL (1 + 1) ((N53 al nl ml tl vl gl wl cn ct) r) ++ [(0, (false, .cols ml [.str tl, .int .i64 vl, .int .i64 gl, .int .i64 wl]))]]) (fn := mkFn Try.f53) (ts := [0, 1, 2, 7, 8]) (n := 400) rfl (by decide) (by simp) (names_of rfl) ?_ ?_ ?_ h
  · intro s; cases s <;> exact ⟨hd_ok _ _, by simp [I53], names_of rfl, Nat.le_of_ble_eq_true rfl⟩
  · intro Kst Kret x hS hR h
    exact Holds.eq (te53 cond Kst Kret al nl ml tl vl gl wl cn ct) (be53 al nl ml tl vl gl wl cn ct Kst Kret x hS hR h)
  · intro Kst Kret x hS hR s h
    cases s with
    | h0 x0 x1 => exact Holds.eq (t53_0 cond Kst Kret al nl ml tl vl gl wl cn ct x0 x1) (b53_0 al nl ml tl vl gl wl cn ct Kst Kret x hS hR x0 x1 h)
noncomputable def k53 : Con := ⟨53, [.one (.list [.str, .int .i64, .int .i64, .int .i64]), .one (.plain (.int .i64)), .one (.plain (.int .i64))], fun (x : (Nat × Nat × Nat × (Nat → ByteArray) × (Nat → Int) × (Nat → Int) × (Nat → Int) × Unit) × Int × Int × Unit) => (fun (al nl ml : Nat) (tl : Nat → ByteArray) (vl : Nat → Int) (gl : Nat → Int) (wl : Nat → Int) (cn : Int) (ct : Int) => decide (al + nl ≤ ml ∧ (0 ≤ cn ∧ cn < nl) ∧ (0 ≤ ct ∧ ct ≤ 1000000) ∧ S.okT nl (fun j => vl (j + al)) (fun j => gl (j + al)) (fun j => wl (j + al)) = true)) x.1.1 x.1.2.1 x.1.2.2.1 x.1.2.2.2.1 x.1.2.2.2.2.1 x.1.2.2.2.2.2.1 x.1.2.2.2.2.2.2.1 x.2.1 x.2.2.1, fun (x : (Nat × Nat × Nat × (Nat → ByteArray) × (Nat → Int) × (Nat → Int) × (Nat → Int) × Unit) × Int × Int × Unit) => (fun (al nl ml : Nat) (tl : Nat → ByteArray) (vl : Nat → Int) (gl : Nat → Int) (wl : Nat → Int) (cn : Int) (ct : Int) => (V53 al nl ml tl vl gl wl cn ct) (S.dem (fun j => vl (j + al)) (fun j => gl (j + al)) cn.toNat ct)) x.1.1 x.1.2.1 x.1.2.2.1 x.1.2.2.2.1 x.1.2.2.2.2.1 x.1.2.2.2.2.2.1 x.1.2.2.2.2.2.2.1 x.2.1 x.2.2.1, fun (x : (Nat × Nat × Nat × (Nat → ByteArray) × (Nat → Int) × (Nat → Int) × (Nat → Int) × Unit) × Int × Int × Unit) => (fun (al nl ml : Nat) (tl : Nat → ByteArray) (vl : Nat → Int) (gl : Nat → Int) (wl : Nat → Int) (cn : Int) (ct : Int) => (N53 al nl ml tl vl gl wl cn ct) (S.dem (fun j => vl (j + al)) (fun j => gl (j + al)) cn.toNat ct)) x.1.1 x.1.2.1 x.1.2.2.1 x.1.2.2.2.1 x.1.2.2.2.2.1 x.1.2.2.2.2.2.1 x.1.2.2.2.2.2.2.1 x.2.1 x.2.2.1, fun _ _ => .dead⟩
theorem s53' (al nl ml : Nat) (tl : Nat → ByteArray) (vl : Nat → Int) (gl : Nat → Int) (wl : Nat → Int) (cn : Int) (ct : Int) (hp : al + nl ≤ ml ∧ (0 ≤ cn ∧ cn < nl) ∧ (0 ≤ ct ∧ ct ≤ 1000000) ∧ S.okT nl (fun j => vl (j + al)) (fun j => gl (j + al)) (fun j => wl (j + al)) = true) : ∀ (k i : Nat) (x0 : Int), i + k = cn.toNat → Holds (x0 = gl (cn.toNat + al) + S.dsum (fun j => vl (j + al)) (fun j => gl (j + al)) ct i) → Comes (q53 al nl ml tl vl gl wl cn ct) (.h0 x0 (i : Int)) (S.dem (fun j => vl (j + al)) (fun j => gl (j + al)) cn.toNat ct) := by
  obtain ⟨hp1, ⟨hp2, hp3⟩, ⟨hp4, hp5⟩, hT⟩ := hp
  obtain ⟨h8, hA⟩ := okT_at hT
  intro k
  induction k with
  | zero =>
    intro i x0 hi ex
    have e : x0 = S.dem (fun j => vl (j + al)) (fun j => gl (j + al)) cn.toNat ct := by rw [ex.get, show i = cn.toNat by omega]; rfl
    clear ex hT hA
    generalize S.dem (fun j => vl (j + al)) (fun j => gl (j + al)) cn.toNat ct = R at *
    subst e
    apply Comes.of
    show Goes _ _ _
    (first | rw [q53] | unfold q53)
    repeat' first
      | with_reducible refine goes_if (fun h => ?_) (fun h => ?_) <;> (try simp only [lim64, imp_false, decide_eq_true_eq, decide_eq_false_iff_not, Int.toNat_natCast, toNat_pred, toNat_succ, Option.getD_some, Option.getD_none, Bool.not_eq_true', Bool.not_eq_false', Bool.and_eq_true, Bool.or_eq_true, Bool.and_eq_false_iff, Bool.or_eq_false_iff, bne_iff_ne, beq_iff_eq, bne_eq_false_iff_eq, beq_eq_false_iff_ne, ne_eq, not_and, Int.not_le, Int.not_lt, ge_iff_le, gt_iff_lt, Nat.not_lt, Nat.not_le, Bool.not_eq_true, Bool.not_eq_false, Bool.true_eq_false, Bool.false_eq_true, not_false_eq_true, not_true_eq_false] at h)
      | exact goes_none.mpr (by omega)
    all_goals first | (exfalso; omega) | rfl
  | succ k ih =>
    intro i x0 hi ex
    have hAi : 1 ≤ vl (i + al) ∧ vl (i + al) ≤ 1000000 ∧ 1 ≤ gl (i + al) ∧ gl (i + al) ≤ vl (i + al) ∧ gl (i + al) ≤ wl (i + al) ∧ wl (i + al) ≤ vl (i + al) := hA i (by omega)
    have hAc : 1 ≤ vl (cn.toNat + al) ∧ vl (cn.toNat + al) ≤ 1000000 ∧ 1 ≤ gl (cn.toNat + al) ∧ gl (cn.toNat + al) ≤ vl (cn.toNat + al) ∧ gl (cn.toNat + al) ≤ wl (cn.toNat + al) ∧ wl (cn.toNat + al) ≤ vl (cn.toNat + al) := hA cn.toNat (by omega)
    have hb := dsum_b (p := (fun j => vl (j + al))) (c := (fun j => gl (j + al))) hp4 hp5 (i := i) fun j hj => by have := hA j (by omega); omega
    have hu := up_b (t := ct) (p := vl (i + al)) hp4 hAi.1
    have ih2 := ih (i + 1) (x0 + gl (i + al) * Int.tdiv (ct + vl (i + al) - 1) (vl (i + al))) (by omega) ⟨by rw [ex.get]; simp only [S.dsum, Int.add_assoc]⟩
    have ex := ex.get
    generalize hD : S.dsum (fun j => vl (j + al)) (fun j => gl (j + al)) ct i = ds at *
    generalize hy : Int.tdiv (ct + vl (i + al) - 1) (vl (i + al)) = y at *
    have c1 : 0 ≤ gl (i + al) * y := Int.mul_nonneg (by omega) hu.1
    have c2 : gl (i + al) * y ≤ 1000000 * 1000000 := Int.mul_le_mul (by omega) (by omega) hu.1 (by omega)
    generalize hz : gl (i + al) * y = z at *
    have hz2 : y * gl (i + al) = z := by rw [← hz, Int.mul_comm]
    clear hA hT hD hz ih
    generalize S.dem (fun j => vl (j + al)) (fun j => gl (j + al)) cn.toNat ct = R at *
    generalize gl (cn.toNat + al) = g0 at *
    apply Comes.of
    rw [q53]
    simp only [Nat.zero_add, Int.toNat_natCast, hy, hz2]
    repeat' first
      | with_reducible refine goes_if (fun h => ?_) (fun h => ?_) <;> (try simp only [lim64, imp_false, decide_eq_true_eq, decide_eq_false_iff_not, Int.toNat_natCast, toNat_pred, toNat_succ, Option.getD_some, Option.getD_none, Bool.not_eq_true', Bool.not_eq_false', Bool.and_eq_true, Bool.or_eq_true, Bool.and_eq_false_iff, Bool.or_eq_false_iff, bne_iff_ne, beq_iff_eq, bne_eq_false_iff_eq, beq_eq_false_iff_ne, ne_eq, not_and, Int.not_le, Int.not_lt, ge_iff_le, gt_iff_lt, Nat.not_lt, Nat.not_le, Bool.not_eq_true, Bool.not_eq_false, Bool.true_eq_false, Bool.false_eq_true, not_false_eq_true, not_true_eq_false] at h)
      | exact goes_none.mpr (by omega)
    all_goals first | (exfalso; omega) | exact ih2
theorem s53 (al nl ml : Nat) (tl : Nat → ByteArray) (vl : Nat → Int) (gl : Nat → Int) (wl : Nat → Int) (cn : Int) (ct : Int) (hp : al + nl ≤ ml ∧ (0 ≤ cn ∧ cn < nl) ∧ (0 ≤ ct ∧ ct ≤ 1000000) ∧ S.okT nl (fun j => vl (j + al)) (fun j => gl (j + al)) (fun j => wl (j + al)) = true) : Goes ((q53 al nl ml tl vl gl wl cn ct)) ((p53 al nl ml tl vl gl wl cn ct)) (S.dem (fun j => vl (j + al)) (fun j => gl (j + al)) cn.toNat ct) := by
  have hm := s53' al nl ml tl vl gl wl cn ct hp cn.toNat 0 (gl (cn.toNat + al)) (Nat.zero_add _) ⟨(Int.add_zero _).symm⟩
  obtain ⟨hp1, ⟨hp2, hp3⟩, ⟨hp4, hp5⟩, hT⟩ := hp
  clear hT
  generalize S.dem (fun j => vl (j + al)) (fun j => gl (j + al)) cn.toNat ct = R at *
  unfold p53
  repeat' first
    | with_reducible refine goes_if (fun h => ?_) (fun h => ?_) <;> (try simp only [lim64, imp_false, decide_eq_true_eq, decide_eq_false_iff_not, Int.toNat_natCast, toNat_pred, toNat_succ, Option.getD_some, Option.getD_none, Bool.not_eq_true', Bool.not_eq_false', Bool.and_eq_true, Bool.or_eq_true, Bool.and_eq_false_iff, Bool.or_eq_false_iff, bne_iff_ne, beq_iff_eq, bne_eq_false_iff_eq, beq_eq_false_iff_ne, ne_eq, not_and, Int.not_le, Int.not_lt, ge_iff_le, gt_iff_lt, Nat.not_lt, Nat.not_le, Bool.not_eq_true, Bool.not_eq_false, Bool.true_eq_false, Bool.false_eq_true, not_false_eq_true, not_true_eq_false] at h)
    | exact goes_none.mpr (by omega)
  all_goals first | (exfalso; omega) | exact hm

theorem k53_ok : k53.ok Try.prog := by
  intro x hx
  obtain ⟨⟨al, nl, ml, tl, vl, gl, wl, _⟩, cn, ct, _⟩ := x
  obtain ⟨h1, h2⟩ := a53 al nl ml tl vl gl wl cn ct (s53 al nl ml tl vl gl wl cn ct (of_dec hx rfl))
  exact ⟨⟨400, (by decide : 1 + 1 + 0 ≤ 400), h1⟩, h2⟩
noncomputable def xD (test : Bool → Prop → Prop → Prop) : Ext := consX test [k50, k53]
theorem xD_ok : ExtOk Try.prog (xD cond) := consX_ok ⟨k50_ok, k53_ok, trivial⟩

end Go.Ev
