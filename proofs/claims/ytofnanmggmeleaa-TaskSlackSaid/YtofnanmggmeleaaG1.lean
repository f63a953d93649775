/-
  The first number with which tasks are not schedulable.
-/
import Derived.Test.YtofnanmggmeleaaG0
namespace Go.Ev
open Go.Proofs
set_option linter.unusedVariables false
set_option linter.unusedSimpArgs false
set_option maxRecDepth 100000
inductive St60 where
  | h0 (x0 : Int) (x1 : Int)
abbrev Rt60 := Int
noncomputable def V60 (cn : Int) (al nl ml : Nat) (tl : Nat → ByteArray) (vl : Nat → Int) (gl : Nat → Int) (wl : Nat → Int) (ci : Int) (r : Rt60) : PV := PV.int IntKind.i64 r
noncomputable def N60 (cn : Int) (al nl ml : Nat) (tl : Nat → ByteArray) (vl : Nat → Int) (gl : Nat → Int) (wl : Nat → Int) (ci : Int) (r : Rt60) : List Blk := []
noncomputable def I60 (cn : Int) (al nl ml : Nat) (tl : Nat → ByteArray) (vl : Nat → Int) (gl : Nat → Int) (wl : Nat → Int) (ci : Int) : St60 → Hd
  | .h0 x0 x1 => ⟨hd Try.f60 0, [PV.fn (Go.Fn.func (61)) []
 [PV.ptr (PA.mk (0) (0) (0) (0)),
 PV.ptr (PA.mk (2) (0) (0) (0))],
 PV.int IntKind.i64 x0, PV.int IntKind.i64 x1], [[], [(0, (false, .cells [.loose ⟨1, 4, al, 0⟩ nl])), (1, (false, .cols ml [.str tl, .int .i64 vl, .int .i64 gl, .int .i64 wl])), (2, (false, .cells [.int .i64 ci]))]], 3⟩
noncomputable def q60 (cn : Int) (al nl ml : Nat) (tl : Nat → ByteArray) (vl : Nat → Int) (gl : Nat → Int) (wl : Nat → Int) (ci : Int) : St60 → Option (St60 ⊕ Rt60)
  | .h0 x0 x1 => bif (decide (x0 < x1))
 then (bif (lim IntKind.i64 (x0 + x1))
 then (bif (decide (al + nl ≤ ml ∧ nl ≤ 1000000))
 then (bif (decide ((0 : Int) ≤ ci ∧ ci < (↑nl : Int)))
 then (bif (decide (Int.toNat ci < nl))
 then (bif (lim IntKind.i64
 (gl (Int.toNat ci + al) +
 IntKind.wrap IntKind.i64 (S.shrB IntKind.u64 (IntKind.wrap IntKind.u64 (x0 + x1)) (1 : Int))))
 then (bif (decide
 (0 + nl ≤ nl ∧
 (S.okT nl (fun (j : Nat) => vl (j + al))
 (fun (j : Nat) =>
 bif Nat.beq j (Int.toNat ci) then
 gl (Int.toNat ci + al) +
 IntKind.wrap IntKind.i64
 (S.shrB IntKind.u64 (IntKind.wrap IntKind.u64 (x0 + x1)) (1 : Int))
 else gl (j + al))
 fun (j : Nat) => wl (j + al)) =
 true))
 then (bif (decide
 ((S.misT nl (fun (j : Nat) => vl (j + al))
 (fun (j : Nat) =>
 bif Nat.beq j (Int.toNat ci) then
 gl (Int.toNat ci + al) +
 IntKind.wrap IntKind.i64
 (S.shrB IntKind.u64 (IntKind.wrap IntKind.u64 (x0 + x1)) (1 : Int))
 else gl (j + al))
 fun (j : Nat) => wl (j + al)) ≥
 (0 : Int)))
 then (some (.inl (.h0 (x0) (IntKind.wrap IntKind.i64 (S.shrB IntKind.u64 (IntKind.wrap IntKind.u64 (x0 + x1)) (1 : Int))))))
 else (bif (lim IntKind.i64
 (IntKind.wrap IntKind.i64 (S.shrB IntKind.u64 (IntKind.wrap IntKind.u64 (x0 + x1)) (1 : Int)) +
 (1 : Int)))
 then (some (.inl (.h0 (IntKind.wrap IntKind.i64 (S.shrB IntKind.u64 (IntKind.wrap IntKind.u64 (x0 + x1)) (1 : Int)) +
 (1 : Int)) (x1))))
 else (none)))
 else (none))
 else (none))
 else (none))
 else (none))
 else (none))
 else (none))
 else (some (.inr (x0)))
noncomputable def p60 (cn : Int) (al nl ml : Nat) (tl : Nat → ByteArray) (vl : Nat → Int) (gl : Nat → Int) (wl : Nat → Int) (ci : Int) : Option (St60 ⊕ Rt60) := some (.inl (.h0 ((0 : Int)) (cn)))
noncomputable def Te60 (test : Bool → Prop → Prop → Prop) (Kst : KS) (Kret : KR) (cn : Int) (al nl ml : Nat) (tl : Nat → ByteArray) (vl : Nat → Int) (gl : Nat → Int) (wl : Nat → Int) (ci : Int) : Prop :=
  Kst (hd Try.f60 0) ([PV.fn (Go.Fn.func (61)) []
 [PV.ptr (PA.mk (0) (0) (0) (0)),
 PV.ptr (PA.mk (2) (0) (0) (0))],
 PV.int IntKind.i64 (0 : Int), PV.int IntKind.i64 cn]) ([[(2, false, Blk.cells [PV.int IntKind.i64 ci]),
 (1, false,
 Blk.cols ml
 [Col.str tl, Col.int IntKind.i64 vl, Col.int IntKind.i64 gl,
 Col.int IntKind.i64 wl]),
 (0, false, Blk.cells [PV.loose (PA.mk (1) (4) al (0)) nl])]]) (3)
set_option maxRecDepth 100000 in
theorem te60 (test : Bool → Prop → Prop → Prop) (Kst : KS) (Kret : KR) (cn : Int) (al nl ml : Nat) (tl : Nat → ByteArray) (vl : Nat → Int) (gl : Nat → Int) (wl : Nat → Int) (ci : Int) : run test Try.env true (xS test) true 400 ⟨60, [.cd (mkFn Try.f60).body], argT 0 [.int .i64 cn, .fn (.func 61) [] [.ptr ⟨0, 0, 0, 0⟩, .ptr ⟨2, 0, 0, 0⟩]], [[], [(0, (false, .cells [.loose ⟨1, 4, al, 0⟩ nl])), (1, (false, .cols ml [.str tl, .int .i64 vl, .int .i64 gl, .int .i64 wl])), (2, (false, .cells [.int .i64 ci]))]], 3⟩ (proj 3 [1, 5, 6] Kst Kret) =
  Te60 test Kst Kret cn al nl ml tl vl gl wl ci := by kernel_rfl
noncomputable def T60_0 (test : Bool → Prop → Prop → Prop) (Kst : KS) (Kret : KR) (cn : Int) (al nl ml : Nat) (tl : Nat → ByteArray) (vl : Nat → Int) (gl : Nat → Int) (wl : Nat → Int) (ci : Int) (x0 : Int) (x1 : Int) : Prop :=
  test (decide (x0 < x1))
 (test (lim IntKind.i64 (x0 + x1))
 (test (false)
 (False)
 (test (decide (al + nl ≤ ml ∧ nl ≤ 1000000))
 (test (decide ((0 : Int) ≤ ci ∧ ci < (↑nl : Int)))
 (test (decide (Int.toNat ci < nl))
 (test (lim IntKind.i64
 (gl (Int.toNat ci + al) +
 IntKind.wrap IntKind.i64 (S.shrB IntKind.u64 (IntKind.wrap IntKind.u64 (x0 + x1)) (1 : Int))))
 (test (decide ((0 : Int) ≤ ci ∧ ci < (↑nl : Int)))
 (test (decide (Int.toNat ci < nl))
 (test (decide
 (0 + nl ≤ nl ∧
 (S.okT nl (fun (j : Nat) => vl (j + al))
 (fun (j : Nat) =>
 bif Nat.beq j (Int.toNat ci) then
 gl (Int.toNat ci + al) +
 IntKind.wrap IntKind.i64
 (S.shrB IntKind.u64 (IntKind.wrap IntKind.u64 (x0 + x1)) (1 : Int))
 else gl (j + al))
 fun (j : Nat) => wl (j + al)) =
 true))
 (test (decide
 ((S.misT nl (fun (j : Nat) => vl (j + al))
 (fun (j : Nat) =>
 bif Nat.beq j (Int.toNat ci) then
 gl (Int.toNat ci + al) +
 IntKind.wrap IntKind.i64
 (S.shrB IntKind.u64 (IntKind.wrap IntKind.u64 (x0 + x1)) (1 : Int))
 else gl (j + al))
 fun (j : Nat) => wl (j + al)) ≥
 (0 : Int)))
 (Kst (hd Try.f60 0) ([PV.fn (Go.Fn.func (61)) []
 [PV.ptr (PA.mk (0) (0) (0) (0)),
 PV.ptr (PA.mk (2) (0) (0) (0))],
 PV.int IntKind.i64 x0,
 PV.int IntKind.i64
 (IntKind.wrap IntKind.i64 (S.shrB IntKind.u64 (IntKind.wrap IntKind.u64 (x0 + x1)) (1 : Int)))]) ([[(2, false, Blk.cells [PV.int IntKind.i64 ci]),
 (1, false,
 Blk.cols ml
 [Col.str tl, Col.int IntKind.i64 vl, Col.int IntKind.i64 gl,
 Col.int IntKind.i64 wl]),
 (0, false, Blk.cells [PV.loose (PA.mk (1) (4) al (0)) nl])]]) (6))
 (test (lim IntKind.i64
 (IntKind.wrap IntKind.i64 (S.shrB IntKind.u64 (IntKind.wrap IntKind.u64 (x0 + x1)) (1 : Int)) +
 (1 : Int)))
 (Kst (hd Try.f60 0) ([PV.fn (Go.Fn.func (61)) []
 [PV.ptr (PA.mk (0) (0) (0) (0)),
 PV.ptr (PA.mk (2) (0) (0) (0))],
 PV.int IntKind.i64
 (IntKind.wrap IntKind.i64 (S.shrB IntKind.u64 (IntKind.wrap IntKind.u64 (x0 + x1)) (1 : Int)) +
 (1 : Int)),
 PV.int IntKind.i64 x1]) ([[(2, false, Blk.cells [PV.int IntKind.i64 ci]),
 (1, false,
 Blk.cols ml
 [Col.str tl, Col.int IntKind.i64 vl, Col.int IntKind.i64 gl,
 Col.int IntKind.i64 wl]),
 (0, false, Blk.cells [PV.loose (PA.mk (1) (4) al (0)) nl])]]) (6))
 (False)))
 (False))
 (False))
 (False))
 (False))
 (False))
 (False))
 (False)))
 (False))
 (Kret (PV.int IntKind.i64 x0) ([[(2, false, Blk.cells [PV.int IntKind.i64 ci]),
 (1, false,
 Blk.cols ml
 [Col.str tl, Col.int IntKind.i64 vl, Col.int IntKind.i64 gl,
 Col.int IntKind.i64 wl]),
 (0, false, Blk.cells [PV.loose (PA.mk (1) (4) al (0)) nl])]]) (3))
set_option maxRecDepth 100000 in
theorem t60_0 (test : Bool → Prop → Prop → Prop) (Kst : KS) (Kret : KR) (cn : Int) (al nl ml : Nat) (tl : Nat → ByteArray) (vl : Nat → Int) (gl : Nat → Int) (wl : Nat → Int) (ci : Int) (x0 : Int) (x1 : Int) : run test Try.env true (xS test) true 400 ⟨60, hd Try.f60 0, zipT [1, 5, 6] [PV.fn (Go.Fn.func (61)) []
 [PV.ptr (PA.mk (0) (0) (0) (0)),
 PV.ptr (PA.mk (2) (0) (0) (0))],
 PV.int IntKind.i64 x0, PV.int IntKind.i64 x1], [[], [(0, (false, .cells [.loose ⟨1, 4, al, 0⟩ nl])), (1, (false, .cols ml [.str tl, .int .i64 vl, .int .i64 gl, .int .i64 wl])), (2, (false, .cells [.int .i64 ci]))]], 3⟩ (proj 3 [1, 5, 6] Kst Kret) =
  T60_0 test Kst Kret cn al nl ml tl vl gl wl ci x0 x1 := by kernel_rfl
attribute [local irreducible] Int.subNatNat in
set_option maxRecDepth 100000 in
theorem be60 (cn : Int) (al nl ml : Nat) (tl : Nat → ByteArray) (vl : Nat → Int) (gl : Nat → Int) (wl : Nat → Int) (ci : Int) (Kst : KS) (Kret : KR) (x : St60 ⊕ Rt60) (hS : HS 3 400 ((I60 cn al nl ml tl vl gl wl ci)) Kst x) (hR : HR 3 400 ((V60 cn al nl ml tl vl gl wl ci)) (fun r => [newL (3 + 1) ((N60 cn al nl ml tl vl gl wl ci) r) ++ [(0, (false, .cells [.loose ⟨1, 4, al, 0⟩ nl])), (1, (false, .cols ml [.str tl, .int .i64 vl, .int .i64 gl, .int .i64 wl])), (2, (false, .cells [.int .i64 ci]))]]) Kret x) (h : (some (.inl (.h0 ((0 : Int)) (cn))) : Option (St60 ⊕ Rt60)) = some x) : Te60 cond Kst Kret cn al nl ml tl vl gl wl ci := by
  unfold Te60
  exact stop_at hS _ h (fun n => n) rfl rfl rfl ⟨(rn_fn trivial ⟨(rn_ptr (use_lo rfl) rfl rfl), (rn_ptr (use_lo rfl) rfl rfl), trivial⟩), ⟨(rn_int rfl), ⟨(rn_int rfl), trivial⟩⟩⟩ rfl (entl_blk (use_lo rfl) rfl (by simp) id (rb_cells ⟨rn_loose (use_lo rfl) rfl rfl rfl, trivial⟩) (entl_bor (use_lo rfl) rfl rfl (entl_blk (use_lo rfl) rfl (by simp) id (rb_cells ⟨rn_int rfl, trivial⟩) entl_nil)))
attribute [local irreducible] Int.subNatNat in
set_option maxRecDepth 100000 in
theorem b60_0 (cn : Int) (al nl ml : Nat) (tl : Nat → ByteArray) (vl : Nat → Int) (gl : Nat → Int) (wl : Nat → Int) (ci : Int) (Kst : KS) (Kret : KR) (x : St60 ⊕ Rt60) (hS : HS 3 400 ((I60 cn al nl ml tl vl gl wl ci)) Kst x) (hR : HR 3 400 ((V60 cn al nl ml tl vl gl wl ci)) (fun r => [newL (3 + 1) ((N60 cn al nl ml tl vl gl wl ci) r) ++ [(0, (false, .cells [.loose ⟨1, 4, al, 0⟩ nl])), (1, (false, .cols ml [.str tl, .int .i64 vl, .int .i64 gl, .int .i64 wl])), (2, (false, .cells [.int .i64 ci]))]]) Kret x) (x0 : Int) (x1 : Int) (h : (bif (decide (x0 < x1))
 then (bif (lim IntKind.i64 (x0 + x1))
 then (bif (decide (al + nl ≤ ml ∧ nl ≤ 1000000))
 then (bif (decide ((0 : Int) ≤ ci ∧ ci < (↑nl : Int)))
 then (bif (decide (Int.toNat ci < nl))
 then (bif (lim IntKind.i64
 (gl (Int.toNat ci + al) +
 IntKind.wrap IntKind.i64 (S.shrB IntKind.u64 (IntKind.wrap IntKind.u64 (x0 + x1)) (1 : Int))))
 then (bif (decide
 (0 + nl ≤ nl ∧
 (S.okT nl (fun (j : Nat) => vl (j + al))
 (fun (j : Nat) =>
 bif Nat.beq j (Int.toNat ci) then
 gl (Int.toNat ci + al) +
 IntKind.wrap IntKind.i64
 (S.shrB IntKind.u64 (IntKind.wrap IntKind.u64 (x0 + x1)) (1 : Int))
 else gl (j + al))
 fun (j : Nat) => wl (j + al)) =
 true))
 then (bif (decide
 ((S.misT nl (fun (j : Nat) => vl (j + al))
 (fun (j : Nat) =>
 bif Nat.beq j (Int.toNat ci) then
 gl (Int.toNat ci + al) +
 IntKind.wrap IntKind.i64
 (S.shrB IntKind.u64 (IntKind.wrap IntKind.u64 (x0 + x1)) (1 : Int))
 else gl (j + al))
 fun (j : Nat) => wl (j + al)) ≥
 (0 : Int)))
 then (some (.inl (.h0 (x0) (IntKind.wrap IntKind.i64 (S.shrB IntKind.u64 (IntKind.wrap IntKind.u64 (x0 + x1)) (1 : Int))))))
 else (bif (lim IntKind.i64
 (IntKind.wrap IntKind.i64 (S.shrB IntKind.u64 (IntKind.wrap IntKind.u64 (x0 + x1)) (1 : Int)) +
 (1 : Int)))
 then (some (.inl (.h0 (IntKind.wrap IntKind.i64 (S.shrB IntKind.u64 (IntKind.wrap IntKind.u64 (x0 + x1)) (1 : Int)) +
 (1 : Int)) (x1))))
 else (none)))
 else (none))
 else (none))
 else (none))
 else (none))
 else (none))
 else (none))
 else (some (.inr (x0))) : Option (St60 ⊕ Rt60)) = some x) : T60_0 cond Kst Kret cn al nl ml tl vl gl wl ci x0 x1 := by
  unfold T60_0
  exact bif_split h
   (fun c0 h => bif_split h
   (fun c1 h => cond_no rfl (bif_split h
   (fun c2 h => bif_split h
   (fun c3 h => bif_split h
   (fun c4 h => bif_split h
   (fun c5 h => cond_yes c3 (cond_yes c4 (bif_split h
   (fun c6 h => bif_split h
   (fun c7 h => stop_at hS _ h (fun n => n) rfl rfl rfl ⟨(rn_fn trivial ⟨(rn_ptr (use_lo rfl) rfl rfl), (rn_ptr (use_lo rfl) rfl rfl), trivial⟩), ⟨(rn_int rfl), ⟨(rn_int rfl), trivial⟩⟩⟩ rfl (entl_blk (use_lo rfl) rfl (by simp) id (rb_cells ⟨rn_loose (use_lo rfl) rfl rfl rfl, trivial⟩) (entl_bor (use_lo rfl) rfl rfl (entl_blk (use_lo rfl) rfl (by simp) id (rb_cells ⟨rn_int rfl, trivial⟩) entl_nil))))
   (fun c7 h => bif_split h
   (fun c8 h => stop_at hS _ h (fun n => n) rfl rfl rfl ⟨(rn_fn trivial ⟨(rn_ptr (use_lo rfl) rfl rfl), (rn_ptr (use_lo rfl) rfl rfl), trivial⟩), ⟨(rn_int rfl), ⟨(rn_int rfl), trivial⟩⟩⟩ rfl (entl_blk (use_lo rfl) rfl (by simp) id (rb_cells ⟨rn_loose (use_lo rfl) rfl rfl rfl, trivial⟩) (entl_bor (use_lo rfl) rfl rfl (entl_blk (use_lo rfl) rfl (by simp) id (rb_cells ⟨rn_int rfl, trivial⟩) entl_nil))))
   (fun c8 h => no_some h)))
   (fun c6 h => no_some h))))
   (fun c5 h => no_some h))
   (fun c4 h => no_some h))
   (fun c3 h => no_some h))
   (fun c2 h => no_some h)))
   (fun c1 h => no_some h))
   (fun c0 h => ret_at hR _ h (fun n => n) rfl rfl rfl (rn_int rfl) rfl (entl_blk (use_lo rfl) rfl (by simp) id (rb_cells ⟨rn_loose (use_lo rfl) rfl rfl rfl, trivial⟩) (entl_bor (use_lo rfl) rfl rfl (entl_blk (use_lo rfl) rfl (by simp) id (rb_cells ⟨rn_int rfl, trivial⟩) entl_nil))))
theorem a60 (cn : Int) (al nl ml : Nat) (tl : Nat → ByteArray) (vl : Nat → Int) (gl : Nat → Int) (wl : Nat → Int) (ci : Int) {r : Rt60} (h : Goes ((q60 cn al nl ml tl vl gl wl ci)) ((p60 cn al nl ml tl vl gl wl ci)) r) : CallR Try.prog 60 [.int .i64 cn, .fn (.func 61) [] [.ptr ⟨0, 0, 0, 0⟩, .ptr ⟨2, 0, 0, 0⟩]] [[(0, (false, .cells [.loose ⟨1, 4, al, 0⟩ nl])), (1, (false, .cols ml [.str tl, .int .i64 vl, .int .i64 gl, .int .i64 wl])), (2, (false, .cells [.int .i64 ci]))]] 3 ((V60 cn al nl ml tl vl gl wl ci) r) ((fun r => [newL (3 + 1) ((N60 cn al nl ml tl vl gl wl ci) r) ++ [(0, (false, .cells [.loose ⟨1, 4, al, 0⟩ nl])), (1, (false, .cols ml [.str tl, .int .i64 vl, .int .i64 gl, .int .i64 wl])), (2, (false, .cells [.int .i64 ci]))]]) r) 400 ∧ ∃ F, Try.prog.funcs[60]? = some F ∧ F.body.isSome = true ∧ (F.name == "runtime.NumGoroutine") = false := by
  refine dec_calls (sy := true) (f := 60) (lo := 3) (hi := 400) (H := [[(0, (false, .cells [.loose ⟨1, 4, al, 0⟩ nl])), (1, (false, .cols ml [.str tl, .int .i64 vl, .int .i64 gl, .int .i64 wl])), (2, (false, .cells [.int .i64 ci]))]]) (args := [.int .i64 cn, .fn (.func 61) [] [.ptr ⟨0, 0, 0, 0⟩, .ptr ⟨2, 0, 0, 0⟩]]) Try.envOk Try.mixed xS_ok ((I60 cn al nl ml tl vl gl wl ci)) ((V60 cn al nl ml tl vl gl wl ci)) (fun r => [newL (3 + 1) ((N60 cn al nl ml tl vl gl wl ci) r) ++ [(0, (false, .cells [.loose ⟨1, 4, al, 0⟩ nl])), (1, (false, .cols ml [.str tl, .int .i64 vl, .int .i64 gl, .int .i64 wl])), (2, (false, .cells [.int .i64 ci]))]]) (fn := mkFn Try.f60) (ts := [1, 5, 6]) (n := 400) rfl (by decide) (by simp) (names_of rfl) ?_ ?_ ?_ h
  · intro s; cases s <;> exact ⟨hd_ok _ _, by simp [I60], names_of rfl, Nat.le_of_ble_eq_true rfl⟩
  · intro Kst Kret x hS hR h
    exact Holds.eq (te60 cond Kst Kret cn al nl ml tl vl gl wl ci) (be60 cn al nl ml tl vl gl wl ci Kst Kret x hS hR h)
  · intro Kst Kret x hS hR s h
    cases s with
    | h0 x0 x1 => exact Holds.eq (t60_0 cond Kst Kret cn al nl ml tl vl gl wl ci x0 x1) (b60_0 cn al nl ml tl vl gl wl ci Kst Kret x hS hR x0 x1 h)
noncomputable def k60 : Con := ⟨60, [.one (.plain (.int .i64)), .fnx 61 [(false, [.list [.str, .int .i64, .int .i64, .int .i64]]), (false, [.plain (.int .i64)])]], fun (x : Int × (((Nat × Nat × Nat × (Nat → ByteArray) × (Nat → Int) × (Nat → Int) × (Nat → Int) × Unit) × Unit) × (Int × Unit) × Unit) × Unit) => (fun (cn : Int) (al nl ml : Nat) (tl : Nat → ByteArray) (vl : Nat → Int) (gl : Nat → Int) (wl : Nat → Int) (ci : Int) => decide (al + nl ≤ ml ∧ (0 ≤ ci ∧ ci < nl) ∧ S.okT nl (fun j => vl (j + al)) (fun j => gl (j + al)) (fun j => wl (j + al)) = true ∧ 0 ≤ cn ∧ gl (ci.toNat + al) + cn ≤ wl (ci.toNat + al) + 1)) x.1 x.2.1.1.1.1 x.2.1.1.1.2.1 x.2.1.1.1.2.2.1 x.2.1.1.1.2.2.2.1 x.2.1.1.1.2.2.2.2.1 x.2.1.1.1.2.2.2.2.2.1 x.2.1.1.1.2.2.2.2.2.2.1 x.2.1.2.1.1, fun (x : Int × (((Nat × Nat × Nat × (Nat → ByteArray) × (Nat → Int) × (Nat → Int) × (Nat → Int) × Unit) × Unit) × (Int × Unit) × Unit) × Unit) => (fun (cn : Int) (al nl ml : Nat) (tl : Nat → ByteArray) (vl : Nat → Int) (gl : Nat → Int) (wl : Nat → Int) (ci : Int) => (V60 cn al nl ml tl vl gl wl ci) (S.firF (fun x => S.slP nl (fun j => vl (j + al)) (fun j => gl (j + al)) (fun j => wl (j + al)) ci.toNat x) cn.toNat 0)) x.1 x.2.1.1.1.1 x.2.1.1.1.2.1 x.2.1.1.1.2.2.1 x.2.1.1.1.2.2.2.1 x.2.1.1.1.2.2.2.2.1 x.2.1.1.1.2.2.2.2.2.1 x.2.1.1.1.2.2.2.2.2.2.1 x.2.1.2.1.1, fun (x : Int × (((Nat × Nat × Nat × (Nat → ByteArray) × (Nat → Int) × (Nat → Int) × (Nat → Int) × Unit) × Unit) × (Int × Unit) × Unit) × Unit) => (fun (cn : Int) (al nl ml : Nat) (tl : Nat → ByteArray) (vl : Nat → Int) (gl : Nat → Int) (wl : Nat → Int) (ci : Int) => (N60 cn al nl ml tl vl gl wl ci) (S.firF (fun x => S.slP nl (fun j => vl (j + al)) (fun j => gl (j + al)) (fun j => wl (j + al)) ci.toNat x) cn.toNat 0)) x.1 x.2.1.1.1.1 x.2.1.1.1.2.1 x.2.1.1.1.2.2.1 x.2.1.1.1.2.2.2.1 x.2.1.1.1.2.2.2.2.1 x.2.1.1.1.2.2.2.2.2.1 x.2.1.1.1.2.2.2.2.2.2.1 x.2.1.2.1.1, fun _ _ => .dead⟩
theorem s60' (cn : Int) (al nl ml : Nat) (tl : Nat → ByteArray) (vl : Nat → Int) (gl : Nat → Int) (wl : Nat → Int) (ci : Int) (hp : al + nl ≤ ml ∧ (0 ≤ ci ∧ ci < nl) ∧ S.okT nl (fun j => vl (j + al)) (fun j => gl (j + al)) (fun j => wl (j + al)) = true ∧ 0 ≤ cn ∧ gl (ci.toNat + al) + cn ≤ wl (ci.toNat + al) + 1) : ∀ (k : Nat) (x0 x1 : Int), (x1 - x0).toNat ≤ k → 0 ≤ x0 → x0 ≤ x1 → x1 ≤ cn → (∀ z, 0 ≤ z → z < x0 → S.slP nl (fun j => vl (j + al)) (fun j => gl (j + al)) (fun j => wl (j + al)) ci.toNat z = false) → (x1 < cn → S.slP nl (fun j => vl (j + al)) (fun j => gl (j + al)) (fun j => wl (j + al)) ci.toNat x1 = true) → Comes (q60 cn al nl ml tl vl gl wl ci) (.h0 x0 x1) (S.firF (fun x => S.slP nl (fun j => vl (j + al)) (fun j => gl (j + al)) (fun j => wl (j + al)) ci.toNat x) cn.toNat 0) := by
  obtain ⟨hp1, ⟨hp2, hp3⟩, hT, hp4, hp5⟩ := hp
  have hAc : 1 ≤ vl (ci.toNat + al) ∧ vl (ci.toNat + al) ≤ 1000000 ∧ 1 ≤ gl (ci.toNat + al) ∧ gl (ci.toNat + al) ≤ vl (ci.toNat + al) ∧ gl (ci.toNat + al) ≤ wl (ci.toNat + al) ∧ wl (ci.toNat + al) ≤ vl (ci.toNat + al) := (okT_at hT).2 ci.toNat (by omega)
  have h8 := (okT_at hT).1
  intro k
  induction k with
  | zero =>
    intro x0 x1 hk h1 h2 h3 h4 h5
    have e : S.firF (fun x => S.slP nl (fun j => vl (j + al)) (fun j => gl (j + al)) (fun j => wl (j + al)) ci.toNat x) cn.toNat 0 = x0 := firF_eq h1 (by omega) h4 fun h => by rw [show x0 = x1 by omega]; exact h5 (by omega)
    rw [e]
    apply Comes.of
    rw [q60]
    exact goes_no (decide_eq_false (by omega)) rfl
  | succ k ih =>
    intro x0 x1 hk h1 h2 h3 h4 h5
    by_cases hlt : x0 < x1
    · have hh := half (a := x0 + x1) (by omega) (by omega)
      have hm0 : x0 ≤ (x0 + x1) / 2 ∧ (x0 + x1) / 2 < x1 := by omega
      apply Comes.of
      rw [q60]
      rw [hh]
      generalize (x0 + x1) / 2 = m at *
      have hT2 : S.okT nl (fun j => vl (j + al)) (S.updC (fun j => gl (j + al)) ci.toNat m) (fun j => wl (j + al)) = true := okT_upd hT (by omega) fun _ => by show gl (ci.toNat + al) + m ≤ wl (ci.toNat + al); omega
      refine goes_ok (decide_eq_true hlt) ?_
      refine goes_ok (by rw [lim64]; exact decide_eq_true (by omega)) ?_
      refine goes_ok (decide_eq_true (by omega)) ?_
      refine goes_ok (decide_eq_true (by omega)) ?_
      refine goes_ok (decide_eq_true (by omega)) ?_
      refine goes_ok (by rw [lim64]; exact decide_eq_true (by omega)) ?_
      refine goes_ok (decide_eq_true ⟨by omega, hT2⟩) ?_
      cases hb : S.slP nl (fun j => vl (j + al)) (fun j => gl (j + al)) (fun j => wl (j + al)) ci.toNat m
      · refine goes_no hb ?_
        refine goes_ok (by rw [lim64]; exact decide_eq_true (by omega)) ?_
        refine ih (m + 1) x1 (by omega) (by omega) (by omega) h3 (fun z h6 h7 => ?_) h5
        cases hz : S.slP nl (fun j => vl (j + al)) (fun j => gl (j + al)) (fun j => wl (j + al)) ci.toNat z with
        | false => rfl
        | true =>
          have := slP_mono hT (by omega) h6 (y := m) (by omega) (by show gl (ci.toNat + al) + m ≤ wl (ci.toNat + al); omega) hz
          rw [hb] at this
          cases this
      · refine goes_ok hb ?_
        exact ih x0 m (by omega) h1 (by omega) (by omega) h4 fun _ => hb
    · have e : S.firF (fun x => S.slP nl (fun j => vl (j + al)) (fun j => gl (j + al)) (fun j => wl (j + al)) ci.toNat x) cn.toNat 0 = x0 := firF_eq h1 (by omega) h4 fun h => by rw [show x0 = x1 by omega]; exact h5 (by omega)
      rw [e]
      apply Comes.of
      rw [q60]
      exact goes_no (decide_eq_false (by omega)) rfl
theorem s60 (cn : Int) (al nl ml : Nat) (tl : Nat → ByteArray) (vl : Nat → Int) (gl : Nat → Int) (wl : Nat → Int) (ci : Int) (hp : al + nl ≤ ml ∧ (0 ≤ ci ∧ ci < nl) ∧ S.okT nl (fun j => vl (j + al)) (fun j => gl (j + al)) (fun j => wl (j + al)) = true ∧ 0 ≤ cn ∧ gl (ci.toNat + al) + cn ≤ wl (ci.toNat + al) + 1) : Goes ((q60 cn al nl ml tl vl gl wl ci)) ((p60 cn al nl ml tl vl gl wl ci)) (S.firF (fun x => S.slP nl (fun j => vl (j + al)) (fun j => gl (j + al)) (fun j => wl (j + al)) ci.toNat x) cn.toNat 0) := by
  exact s60' cn al nl ml tl vl gl wl ci hp cn.toNat 0 cn (by omega) (Int.le_refl _) hp.2.2.2.1 (Int.le_refl _) (fun z h1 h2 => by omega) fun h => by omega

theorem k60_ok : k60.ok Try.prog := by
  intro x hx
  obtain ⟨cn, ⟨⟨⟨al, nl, ml, tl, vl, gl, wl, _⟩, _⟩, ⟨ci, _⟩, _⟩, _⟩ := x
  obtain ⟨h1, h2⟩ := a60 cn al nl ml tl vl gl wl ci (s60 cn al nl ml tl vl gl wl ci (of_dec hx rfl))
  exact ⟨⟨400, (by decide : 3 + 1 + 0 ≤ 400), h1⟩, h2⟩
noncomputable def xT (test : Bool → Prop → Prop → Prop) : Ext := consX test [k60, k42, k51, k17, k18, k52, k50]
theorem xT_ok : ExtOk Try.prog (xT cond) := consX_ok ⟨k60_ok, k42_ok, k51_ok, k17_ok, k18_ok, k52_ok, k50_ok, trivial⟩

end Go.Ev
