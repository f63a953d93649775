/-
  Greater costs on the reference's side.
-/
import Derived.Test.YtofnanmggmeleaaG1
namespace Go.Ev
open Go.Proofs
set_option linter.unusedVariables false
set_option linter.unusedSimpArgs false
set_option maxRecDepth 100000

namespace S
/-- A set with a greater cost of a task. -/
def withL (n : Nat) (t : Nat → ByteArray) (p c d : Nat → Int) (i : Nat) (m : Int) : List (ByteArray × Int × Int × Int) := mkl n fun j => (t j, p j, updC c i m j, d j)
def fitS (e m : Int) : Bool := decide (e = 0 ∧ m < 0)
end S
abbrev St40 := Empty
abbrev Rt40 := List (ByteArray × Int × Int × Int)
noncomputable def V40 (al nl ml : Nat) (tl : Nat → ByteArray) (vl : Nat → Int) (gl : Nat → Int) (wl : Nat → Int) (ci : Int) (cm : Int) (r : Rt40) : PV := PV.own (2) (4) (List.length r)
noncomputable def N40 (al nl ml : Nat) (tl : Nat → ByteArray) (vl : Nat → Int) (gl : Nat → Int) (wl : Nat → Int) (ci : Int) (cm : Int) (r : Rt40) : List Blk := [Blk.cols (List.length r)
 [Col.str fun (j : Nat) => (S.at' r j).1,
 Col.int IntKind.i64 fun (j : Nat) => (S.at' r j).2.1,
 Col.int IntKind.i64 fun (j : Nat) => (S.at' r j).2.2.1,
 Col.int IntKind.i64 fun (j : Nat) => (S.at' r j).2.2.2]]
noncomputable def I40 (al nl ml : Nat) (tl : Nat → ByteArray) (vl : Nat → Int) (gl : Nat → Int) (wl : Nat → Int) (ci : Int) (cm : Int) : St40 → Hd := fun s => s.elim
noncomputable def q40 (al nl ml : Nat) (tl : Nat → ByteArray) (vl : Nat → Int) (gl : Nat → Int) (wl : Nat → Int) (ci : Int) (cm : Int) : St40 → Option (St40 ⊕ Rt40) := fun s => s.elim
noncomputable def p40 (al nl ml : Nat) (tl : Nat → ByteArray) (vl : Nat → Int) (gl : Nat → Int) (wl : Nat → Int) (ci : Int) (cm : Int) : Option (St40 ⊕ Rt40) := bif (decide (0 + nl ≤ 1000000))
 then (bif (decide (al + nl ≤ ml))
 then (bif (decide ((0 : Int) ≤ ci ∧ ci < (↑(0 + nl) : Int)))
 then (bif (decide (Int.toNat ci < 0 + nl))
 then (bif (lim IntKind.i64 (gl (Int.toNat ci + al) + cm))
 then (some (.inr (S.mkl (0 + nl) fun (j : Nat) =>
 (tl (j + al), vl (j + al), bif Nat.beq j (Int.toNat ci) then gl (Int.toNat ci + al) + cm else gl (j + al),
 wl (j + al)))))
 else (none))
 else (none))
 else (none))
 else (none))
 else (none)
noncomputable def Te40 (test : Bool → Prop → Prop → Prop) (Kst : KS) (Kret : KR) (al nl ml : Nat) (tl : Nat → ByteArray) (vl : Nat → Int) (gl : Nat → Int) (wl : Nat → Int) (ci : Int) (cm : Int) : Prop :=
  test (decide (0 + nl ≤ 1000000))
 (test (true)
 (test (decide (al + nl ≤ ml))
 (test (decide ((0 : Int) ≤ ci ∧ ci < (↑(0 + nl) : Int)))
 (test (decide (Int.toNat ci < 0 + nl))
 (test (lim IntKind.i64 (gl (Int.toNat ci + al) + cm))
 (test (decide ((0 : Int) ≤ ci ∧ ci < (↑(0 + nl) : Int)))
 (test (decide (Int.toNat ci < 0 + nl))
 (Kret (PV.own (2) (4) (0 + nl)) ([[(0, false,
 Blk.cols ml
 [Col.str tl, Col.int IntKind.i64 vl, Col.int IntKind.i64 gl,
 Col.int IntKind.i64 wl]),
 (2, true,
 Blk.cols (0 + nl)
 [Col.str fun (j : Nat) => tl (j + al), Col.int IntKind.i64 fun (j : Nat) => vl (j + al),
 Col.int IntKind.i64 fun (j : Nat) =>
 bif Nat.beq j (Int.toNat ci) then gl (Int.toNat ci + al) + cm else gl (j + al),
 Col.int IntKind.i64 fun (j : Nat) => wl (j + al)])]]) (3))
 (False))
 (False))
 (False))
 (False))
 (False))
 (False))
 (False))
 (False)
set_option maxRecDepth 100000 in
theorem te40 (test : Bool → Prop → Prop → Prop) (Kst : KS) (Kret : KR) (al nl ml : Nat) (tl : Nat → ByteArray) (vl : Nat → Int) (gl : Nat → Int) (wl : Nat → Int) (ci : Int) (cm : Int) : run test Try.env true noX true 400 ⟨40, [.cd (mkFn Try.f40).body], argT 0 [.loose ⟨0, 4, al, 0⟩ nl, .int .i64 ci, .int .i64 cm], [[], [(0, (false, .cols ml [.str tl, .int .i64 vl, .int .i64 gl, .int .i64 wl]))]], 1⟩ (proj 1 [] Kst Kret) =
  Te40 test Kst Kret al nl ml tl vl gl wl ci cm := by kernel_rfl
attribute [local irreducible] Int.subNatNat in
set_option maxRecDepth 100000 in
theorem be40 (al nl ml : Nat) (tl : Nat → ByteArray) (vl : Nat → Int) (gl : Nat → Int) (wl : Nat → Int) (ci : Int) (cm : Int) (Kst : KS) (Kret : KR) (x : St40 ⊕ Rt40) (hS : HS 1 400 ((I40 al nl ml tl vl gl wl ci cm)) Kst x) (hR : HR 1 400 ((V40 al nl ml tl vl gl wl ci cm)) (fun r => [newL (1 + 1) ((N40 al nl ml tl vl gl wl ci cm) r) ++ [(0, (false, .cols ml [.str tl, .int .i64 vl, .int .i64 gl, .int .i64 wl]))]]) Kret x) (h : (bif (decide (0 + nl ≤ 1000000))
 then (bif (decide (al + nl ≤ ml))
 then (bif (decide ((0 : Int) ≤ ci ∧ ci < (↑(0 + nl) : Int)))
 then (bif (decide (Int.toNat ci < 0 + nl))
 then (bif (lim IntKind.i64 (gl (Int.toNat ci + al) + cm))
 then (some (.inr (S.mkl (0 + nl) fun (j : Nat) =>
 (tl (j + al), vl (j + al), bif Nat.beq j (Int.toNat ci) then gl (Int.toNat ci + al) + cm else gl (j + al),
 wl (j + al)))))
 else (none))
 else (none))
 else (none))
 else (none))
 else (none) : Option (St40 ⊕ Rt40)) = some x) : Te40 cond Kst Kret al nl ml tl vl gl wl ci cm := by
  unfold Te40
  exact bif_split h
   (fun c0 h => cond_yes rfl (bif_split h
   (fun c1 h => bif_split h
   (fun c2 h => bif_split h
   (fun c3 h => bif_split h
   (fun c4 h => cond_yes c2 (cond_yes c3 (ret_at hR _ h (fun n => bif Nat.beq n 2 then 2 else n) rfl rfl rfl (rn_own (use_own rfl) rfl mkl_len) rfl (entl_new (use_own rfl) rfl (Nat.le_of_eq mkl_len) (rcs_str (fun _ hj => col_mkl (fun (t : ByteArray × Int × Int × Int) => t.1) hj) (rcs_int (fun _ hj => col_mkl (fun (t : ByteArray × Int × Int × Int) => t.2.1) hj) (rcs_int (fun _ hj => col_mkl (fun (t : ByteArray × Int × Int × Int) => t.2.2.1) hj) (rcs_int (fun _ hj => col_mkl (fun (t : ByteArray × Int × Int × Int) => t.2.2.2) hj) rcs_nil)))) (entl_bor (use_lo rfl) rfl rfl entl_nil)))))
   (fun c4 h => no_some h))
   (fun c3 h => no_some h))
   (fun c2 h => no_some h))
   (fun c1 h => no_some h)))
   (fun c0 h => no_some h)
theorem a40 (al nl ml : Nat) (tl : Nat → ByteArray) (vl : Nat → Int) (gl : Nat → Int) (wl : Nat → Int) (ci : Int) (cm : Int) {r : Rt40} (h : Goes ((q40 al nl ml tl vl gl wl ci cm)) ((p40 al nl ml tl vl gl wl ci cm)) r) : CallR Try.prog 40 [.loose ⟨0, 4, al, 0⟩ nl, .int .i64 ci, .int .i64 cm] [[(0, (false, .cols ml [.str tl, .int .i64 vl, .int .i64 gl, .int .i64 wl]))]] 1 ((V40 al nl ml tl vl gl wl ci cm) r) ((fun r => [newL (1 + 1) ((N40 al nl ml tl vl gl wl ci cm) r) ++ [(0, (false, .cols ml [.str tl, .int .i64 vl, .int .i64 gl, .int .i64 wl]))]]) r) 400 ∧ ∃ F, Try.prog.funcs[40]? = some F ∧ F.body.isSome = true ∧ (F.name == "runtime.NumGoroutine") = false := by
  refine dec_calls (sy := true) (f := 40) (lo := 1) (hi := 400) (H := [[(0, (false, .cols ml [.str tl, .int .i64 vl, .int .i64 gl, .int .i64 wl]))]]) (args := [.loose ⟨0, 4, al, 0⟩ nl, .int .i64 ci, .int .i64 cm]) Try.envOk Try.mixed noX_ok ((I40 al nl ml tl vl gl wl ci cm)) ((V40 al nl ml tl vl gl wl ci cm)) (fun r => [newL (1 + 1) ((N40 al nl ml tl vl gl wl ci cm) r) ++ [(0, (false, .cols ml [.str tl, .int .i64 vl, .int .i64 gl, .int .i64 wl]))]]) (fn := mkFn Try.f40) (ts := []) (n := 400) rfl (by decide) (by simp) (names_of rfl) ?_ ?_ ?_ h
  · intro s; exact s.elim
  · intro Kst Kret x hS hR h
    exact Holds.eq (te40 cond Kst Kret al nl ml tl vl gl wl ci cm) (be40 al nl ml tl vl gl wl ci cm Kst Kret x hS hR h)
  · intro Kst Kret x hS hR s h; exact s.elim
noncomputable def k40 : Con := ⟨40, [.one (.list [.str, .int .i64, .int .i64, .int .i64]), .one (.plain (.int .i64)), .one (.plain (.int .i64))], fun (x : (Nat × Nat × Nat × (Nat → ByteArray) × (Nat → Int) × (Nat → Int) × (Nat → Int) × Unit) × Int × Int × Unit) => (fun (al nl ml : Nat) (tl : Nat → ByteArray) (vl : Nat → Int) (gl : Nat → Int) (wl : Nat → Int) (ci : Int) (cm : Int) => decide (al + nl ≤ ml ∧ (0 ≤ ci ∧ ci < nl) ∧ S.okT nl (fun j => vl (j + al)) (fun j => gl (j + al)) (fun j => wl (j + al)) = true ∧ 0 ≤ cm ∧ cm ≤ 10000000)) x.1.1 x.1.2.1 x.1.2.2.1 x.1.2.2.2.1 x.1.2.2.2.2.1 x.1.2.2.2.2.2.1 x.1.2.2.2.2.2.2.1 x.2.1 x.2.2.1, fun (x : (Nat × Nat × Nat × (Nat → ByteArray) × (Nat → Int) × (Nat → Int) × (Nat → Int) × Unit) × Int × Int × Unit) => (fun (al nl ml : Nat) (tl : Nat → ByteArray) (vl : Nat → Int) (gl : Nat → Int) (wl : Nat → Int) (ci : Int) (cm : Int) => (V40 al nl ml tl vl gl wl ci cm) (S.withL nl (fun j => tl (j + al)) (fun j => vl (j + al)) (fun j => gl (j + al)) (fun j => wl (j + al)) ci.toNat cm)) x.1.1 x.1.2.1 x.1.2.2.1 x.1.2.2.2.1 x.1.2.2.2.2.1 x.1.2.2.2.2.2.1 x.1.2.2.2.2.2.2.1 x.2.1 x.2.2.1, fun (x : (Nat × Nat × Nat × (Nat → ByteArray) × (Nat → Int) × (Nat → Int) × (Nat → Int) × Unit) × Int × Int × Unit) => (fun (al nl ml : Nat) (tl : Nat → ByteArray) (vl : Nat → Int) (gl : Nat → Int) (wl : Nat → Int) (ci : Int) (cm : Int) => (N40 al nl ml tl vl gl wl ci cm) (S.withL nl (fun j => tl (j + al)) (fun j => vl (j + al)) (fun j => gl (j + al)) (fun j => wl (j + al)) ci.toNat cm)) x.1.1 x.1.2.1 x.1.2.2.1 x.1.2.2.2.1 x.1.2.2.2.2.1 x.1.2.2.2.2.2.1 x.1.2.2.2.2.2.2.1 x.2.1 x.2.2.1, fun _ _ => .dead⟩
theorem s40 (al nl ml : Nat) (tl : Nat → ByteArray) (vl : Nat → Int) (gl : Nat → Int) (wl : Nat → Int) (ci : Int) (cm : Int) (hp : al + nl ≤ ml ∧ (0 ≤ ci ∧ ci < nl) ∧ S.okT nl (fun j => vl (j + al)) (fun j => gl (j + al)) (fun j => wl (j + al)) = true ∧ 0 ≤ cm ∧ cm ≤ 10000000) : Goes ((q40 al nl ml tl vl gl wl ci cm)) ((p40 al nl ml tl vl gl wl ci cm)) (S.withL nl (fun j => tl (j + al)) (fun j => vl (j + al)) (fun j => gl (j + al)) (fun j => wl (j + al)) ci.toNat cm) := by
  obtain ⟨hp1, ⟨hp2, hp3⟩, hT, hp4, hp5⟩ := hp
  have hAc : 1 ≤ vl (ci.toNat + al) ∧ vl (ci.toNat + al) ≤ 1000000 ∧ 1 ≤ gl (ci.toNat + al) ∧ gl (ci.toNat + al) ≤ vl (ci.toNat + al) ∧ gl (ci.toNat + al) ≤ wl (ci.toNat + al) ∧ wl (ci.toNat + al) ≤ vl (ci.toNat + al) := (okT_at hT).2 ci.toNat (by omega)
  have h8 := (okT_at hT).1
  unfold p40
  refine goes_ok (decide_eq_true (by omega)) ?_
  refine goes_ok (decide_eq_true (by omega)) ?_
  refine goes_ok (decide_eq_true (by omega)) ?_
  refine goes_ok (decide_eq_true (by omega)) ?_
  refine goes_ok (by rw [lim64]; exact decide_eq_true (by omega)) ?_
  refine goes_inr.mpr ?_
  rw [Nat.zero_add]
  rfl

theorem k40_ok : k40.ok Try.prog := by
  intro x hx
  obtain ⟨⟨al, nl, ml, tl, vl, gl, wl, _⟩, ci, cm, _⟩ := x
  obtain ⟨h1, h2⟩ := a40 al nl ml tl vl gl wl ci cm (s40 al nl ml tl vl gl wl ci cm (of_dec hx rfl))
  exact ⟨⟨400, (by decide : 1 + 1 + 1 ≤ 400), h1⟩, h2⟩
abbrev St62 := Empty
abbrev Rt62 := Bool
noncomputable def V62 (al nl ml : Nat) (tl : Nat → ByteArray) (vl : Nat → Int) (gl : Nat → Int) (wl : Nat → Int) (r : Rt62) : PV := PV.bool r
noncomputable def N62 (al nl ml : Nat) (tl : Nat → ByteArray) (vl : Nat → Int) (gl : Nat → Int) (wl : Nat → Int) (r : Rt62) : List Blk := []
noncomputable def I62 (al nl ml : Nat) (tl : Nat → ByteArray) (vl : Nat → Int) (gl : Nat → Int) (wl : Nat → Int) : St62 → Hd := fun s => s.elim
noncomputable def q62 (al nl ml : Nat) (tl : Nat → ByteArray) (vl : Nat → Int) (gl : Nat → Int) (wl : Nat → Int) : St62 → Option (St62 ⊕ Rt62) := fun s => s.elim
noncomputable def p62 (al nl ml : Nat) (tl : Nat → ByteArray) (vl : Nat → Int) (gl : Nat → Int) (wl : Nat → Int) : Option (St62 ⊕ Rt62) := bif (decide (al + nl ≤ ml))
 then (bif ((S.tskS nl (fun (j : Nat) => tl (j + al)) (fun (j : Nat) => vl (j + al)) (fun (j : Nat) => gl (j + al))
 fun (j : Nat) => wl (j + al)) ==
 (0 : Int))
 then (bif (decide
 (al + nl ≤ ml ∧
 (S.okT nl (fun (j : Nat) => vl (j + al)) (fun (j : Nat) => gl (j + al)) fun (j : Nat) => wl (j + al)) =
 true))
 then (bif (decide
 ((S.misT nl (fun (j : Nat) => vl (j + al)) (fun (j : Nat) => gl (j + al)) fun (j : Nat) => wl (j + al)) <
 (0 : Int)))
 then (some (.inr (true)))
 else (some (.inr (false))))
 else (none))
 else (some (.inr (false))))
 else (none)
noncomputable def Te62 (test : Bool → Prop → Prop → Prop) (Kst : KS) (Kret : KR) (al nl ml : Nat) (tl : Nat → ByteArray) (vl : Nat → Int) (gl : Nat → Int) (wl : Nat → Int) : Prop :=
  test (decide (al + nl ≤ ml))
 (test ((S.tskS nl (fun (j : Nat) => tl (j + al)) (fun (j : Nat) => vl (j + al)) (fun (j : Nat) => gl (j + al))
 fun (j : Nat) => wl (j + al)) ==
 (0 : Int))
 (test (decide
 (al + nl ≤ ml ∧
 (S.okT nl (fun (j : Nat) => vl (j + al)) (fun (j : Nat) => gl (j + al)) fun (j : Nat) => wl (j + al)) =
 true))
 (test (decide
 ((S.misT nl (fun (j : Nat) => vl (j + al)) (fun (j : Nat) => gl (j + al)) fun (j : Nat) => wl (j + al)) <
 (0 : Int)))
 (Kret (PV.tf true) ([[(0, false,
 Blk.cols ml
 [Col.str tl, Col.int IntKind.i64 vl, Col.int IntKind.i64 gl,
 Col.int IntKind.i64 wl])]]) (3))
 (Kret (PV.tf false) ([[(0, false,
 Blk.cols ml
 [Col.str tl, Col.int IntKind.i64 vl, Col.int IntKind.i64 gl,
 Col.int IntKind.i64 wl])]]) (3)))
 (False))
 (Kret (PV.tf false) ([[(0, false,
 Blk.cols ml
 [Col.str tl, Col.int IntKind.i64 vl, Col.int IntKind.i64 gl,
 Col.int IntKind.i64 wl])]]) (2)))
 (False)
set_option maxRecDepth 100000 in
theorem te62 (test : Bool → Prop → Prop → Prop) (Kst : KS) (Kret : KR) (al nl ml : Nat) (tl : Nat → ByteArray) (vl : Nat → Int) (gl : Nat → Int) (wl : Nat → Int) : run test Try.env true (xT test) true 400 ⟨62, [.cd (mkFn Try.f62).body], argT 0 [.loose ⟨0, 4, al, 0⟩ nl], [[], [(0, (false, .cols ml [.str tl, .int .i64 vl, .int .i64 gl, .int .i64 wl]))]], 1⟩ (proj 1 [] Kst Kret) =
  Te62 test Kst Kret al nl ml tl vl gl wl := by kernel_rfl
attribute [local irreducible] Int.subNatNat in
set_option maxRecDepth 100000 in
theorem be62 (al nl ml : Nat) (tl : Nat → ByteArray) (vl : Nat → Int) (gl : Nat → Int) (wl : Nat → Int) (Kst : KS) (Kret : KR) (x : St62 ⊕ Rt62) (hS : HS 1 400 ((I62 al nl ml tl vl gl wl)) Kst x) (hR : HR 1 400 ((V62 al nl ml tl vl gl wl)) (fun r => [newL (1 + 1) ((N62 al nl ml tl vl gl wl) r) ++ [(0, (false, .cols ml [.str tl, .int .i64 vl, .int .i64 gl, .int .i64 wl]))]]) Kret x) (h : (bif (decide (al + nl ≤ ml))
 then (bif ((S.tskS nl (fun (j : Nat) => tl (j + al)) (fun (j : Nat) => vl (j + al)) (fun (j : Nat) => gl (j + al))
 fun (j : Nat) => wl (j + al)) ==
 (0 : Int))
 then (bif (decide
 (al + nl ≤ ml ∧
 (S.okT nl (fun (j : Nat) => vl (j + al)) (fun (j : Nat) => gl (j + al)) fun (j : Nat) => wl (j + al)) =
 true))
 then (bif (decide
 ((S.misT nl (fun (j : Nat) => vl (j + al)) (fun (j : Nat) => gl (j + al)) fun (j : Nat) => wl (j + al)) <
 (0 : Int)))
 then (some (.inr (true)))
 else (some (.inr (false))))
 else (none))
 else (some (.inr (false))))
 else (none) : Option (St62 ⊕ Rt62)) = some x) : Te62 cond Kst Kret al nl ml tl vl gl wl := by
  unfold Te62
  exact bif_split h
   (fun c0 h => bif_split h
   (fun c1 h => bif_split h
   (fun c2 h => bif_split h
   (fun c3 h => ret_at hR _ h (fun n => n) rfl rfl rfl (rn_bool_tf rfl) rfl (entl_bor (use_lo rfl) rfl rfl entl_nil))
   (fun c3 h => ret_at hR _ h (fun n => n) rfl rfl rfl (rn_bool_tf rfl) rfl (entl_bor (use_lo rfl) rfl rfl entl_nil)))
   (fun c2 h => no_some h))
   (fun c1 h => ret_at hR _ h (fun n => n) rfl rfl rfl (rn_bool_tf rfl) rfl (entl_bor (use_lo rfl) rfl rfl entl_nil)))
   (fun c0 h => no_some h)
theorem a62 (al nl ml : Nat) (tl : Nat → ByteArray) (vl : Nat → Int) (gl : Nat → Int) (wl : Nat → Int) {r : Rt62} (h : Goes ((q62 al nl ml tl vl gl wl)) ((p62 al nl ml tl vl gl wl)) r) : CallR Try.prog 62 [.loose ⟨0, 4, al, 0⟩ nl] [[(0, (false, .cols ml [.str tl, .int .i64 vl, .int .i64 gl, .int .i64 wl]))]] 1 ((V62 al nl ml tl vl gl wl) r) ((fun r => [newL (1 + 1) ((N62 al nl ml tl vl gl wl) r) ++ [(0, (false, .cols ml [.str tl, .int .i64 vl, .int .i64 gl, .int .i64 wl]))]]) r) 400 ∧ ∃ F, Try.prog.funcs[62]? = some F ∧ F.body.isSome = true ∧ (F.name == "runtime.NumGoroutine") = false := by
  refine dec_calls (sy := true) (f := 62) (lo := 1) (hi := 400) (H := [[(0, (false, .cols ml [.str tl, .int .i64 vl, .int .i64 gl, .int .i64 wl]))]]) (args := [.loose ⟨0, 4, al, 0⟩ nl]) Try.envOk Try.mixed xT_ok ((I62 al nl ml tl vl gl wl)) ((V62 al nl ml tl vl gl wl)) (fun r => [newL (1 + 1) ((N62 al nl ml tl vl gl wl) r) ++ [(0, (false, .cols ml [.str tl, .int .i64 vl, .int .i64 gl, .int .i64 wl]))]]) (fn := mkFn Try.f62) (ts := []) (n := 400) rfl (by decide) (by simp) (names_of rfl) ?_ ?_ ?_ h
  · intro s; exact s.elim
  · intro Kst Kret x hS hR h
    exact Holds.eq (te62 cond Kst Kret al nl ml tl vl gl wl) (be62 al nl ml tl vl gl wl Kst Kret x hS hR h)
  · intro Kst Kret x hS hR s h; exact s.elim
noncomputable def k62 : Con := ⟨62, [.one (.list [.str, .int .i64, .int .i64, .int .i64])], fun (x : (Nat × Nat × Nat × (Nat → ByteArray) × (Nat → Int) × (Nat → Int) × (Nat → Int) × Unit) × Unit) => (fun (al nl ml : Nat) (tl : Nat → ByteArray) (vl : Nat → Int) (gl : Nat → Int) (wl : Nat → Int) => decide (al + nl ≤ ml)) x.1.1 x.1.2.1 x.1.2.2.1 x.1.2.2.2.1 x.1.2.2.2.2.1 x.1.2.2.2.2.2.1 x.1.2.2.2.2.2.2.1, fun (x : (Nat × Nat × Nat × (Nat → ByteArray) × (Nat → Int) × (Nat → Int) × (Nat → Int) × Unit) × Unit) => (fun (al nl ml : Nat) (tl : Nat → ByteArray) (vl : Nat → Int) (gl : Nat → Int) (wl : Nat → Int) => (V62 al nl ml tl vl gl wl) (S.fitS (S.tskS nl (fun j => tl (j + al)) (fun j => vl (j + al)) (fun j => gl (j + al)) (fun j => wl (j + al))) (S.misT nl (fun j => vl (j + al)) (fun j => gl (j + al)) (fun j => wl (j + al))))) x.1.1 x.1.2.1 x.1.2.2.1 x.1.2.2.2.1 x.1.2.2.2.2.1 x.1.2.2.2.2.2.1 x.1.2.2.2.2.2.2.1, fun (x : (Nat × Nat × Nat × (Nat → ByteArray) × (Nat → Int) × (Nat → Int) × (Nat → Int) × Unit) × Unit) => (fun (al nl ml : Nat) (tl : Nat → ByteArray) (vl : Nat → Int) (gl : Nat → Int) (wl : Nat → Int) => (N62 al nl ml tl vl gl wl) (S.fitS (S.tskS nl (fun j => tl (j + al)) (fun j => vl (j + al)) (fun j => gl (j + al)) (fun j => wl (j + al))) (S.misT nl (fun j => vl (j + al)) (fun j => gl (j + al)) (fun j => wl (j + al))))) x.1.1 x.1.2.1 x.1.2.2.1 x.1.2.2.2.1 x.1.2.2.2.2.1 x.1.2.2.2.2.2.1 x.1.2.2.2.2.2.2.1, fun _ _ => .dead⟩
theorem s62 (al nl ml : Nat) (tl : Nat → ByteArray) (vl : Nat → Int) (gl : Nat → Int) (wl : Nat → Int) (hp : al + nl ≤ ml) : Goes ((q62 al nl ml tl vl gl wl)) ((p62 al nl ml tl vl gl wl)) (S.fitS (S.tskS nl (fun j => tl (j + al)) (fun j => vl (j + al)) (fun j => gl (j + al)) (fun j => wl (j + al))) (S.misT nl (fun j => vl (j + al)) (fun j => gl (j + al)) (fun j => wl (j + al)))) := by
  have hk : S.tskS nl (fun j => tl (j + al)) (fun j => vl (j + al)) (fun j => gl (j + al)) (fun j => wl (j + al)) = 0 → S.okT nl (fun j => vl (j + al)) (fun j => gl (j + al)) (fun j => wl (j + al)) = true := fun h => (tskS_ok h).2
  unfold p62 S.fitS
  generalize S.tskS nl (fun j => tl (j + al)) (fun j => vl (j + al)) (fun j => gl (j + al)) (fun j => wl (j + al)) = e at *
  generalize S.okT nl (fun j => vl (j + al)) (fun j => gl (j + al)) (fun j => wl (j + al)) = o at *
  generalize S.misT nl (fun j => vl (j + al)) (fun j => gl (j + al)) (fun j => wl (j + al)) = m at *
  by_cases he : e = 0
  · have ho := hk he
    subst he
    subst ho
    refine goes_ok (decide_eq_true hp) ?_
    refine goes_ok rfl ?_
    refine goes_ok (decide_eq_true ⟨hp, rfl⟩) ?_
    by_cases hm : m < 0
    · exact goes_ok (decide_eq_true hm) (goes_inr.mpr (decide_eq_true ⟨rfl, hm⟩).symm)
    · exact goes_no (decide_eq_false hm) (goes_inr.mpr (decide_eq_false fun h => hm h.2).symm)
  · refine goes_ok (decide_eq_true hp) ?_
    exact goes_no (by simpa using he) (goes_inr.mpr (decide_eq_false fun h => he h.1).symm)

theorem k62_ok : k62.ok Try.prog := by
  intro x hx
  obtain ⟨⟨al, nl, ml, tl, vl, gl, wl, _⟩, _⟩ := x
  obtain ⟨h1, h2⟩ := a62 al nl ml tl vl gl wl (s62 al nl ml tl vl gl wl (of_dec hx rfl))
  exact ⟨⟨400, (by decide : 1 + 1 + 0 ≤ 400), h1⟩, h2⟩
noncomputable def xW (test : Bool → Prop → Prop → Prop) : Ext := consX test [k18, k52, k40, k62]
theorem xW_ok : ExtOk Try.prog (xW cond) := consX_ok ⟨k18_ok, k52_ok, k40_ok, k62_ok, trivial⟩

end Go.Ev
