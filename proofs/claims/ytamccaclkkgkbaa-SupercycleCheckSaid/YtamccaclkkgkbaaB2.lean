/-
  Is there a cycle of a name? The first pair that is one.
-/
import Derived.Test.YtamccaclkkgkbaaB1
namespace Go.Ev
open Go.Proofs
set_option linter.unusedVariables false
set_option linter.unusedSimpArgs false
set_option maxRecDepth 100000
abbrev St39 := Empty
abbrev Rt39 := Bool
noncomputable def V39 (al nl ml : Nat) (tl : Nat → ByteArray) (vl : Nat → ByteArray) (gl : Nat → Int) (wl : Nat → Bool) (tr : ByteArray) (vr : ByteArray) (gr : Int) (wr : Bool) (r : Rt39) : PV := PV.bool r
noncomputable def N39 (al nl ml : Nat) (tl : Nat → ByteArray) (vl : Nat → ByteArray) (gl : Nat → Int) (wl : Nat → Bool) (tr : ByteArray) (vr : ByteArray) (gr : Int) (wr : Bool) (r : Rt39) : List Blk := []
noncomputable def I39 (al nl ml : Nat) (tl : Nat → ByteArray) (vl : Nat → ByteArray) (gl : Nat → Int) (wl : Nat → Bool) (tr : ByteArray) (vr : ByteArray) (gr : Int) (wr : Bool) : St39 → Hd := fun s => s.elim
noncomputable def q39 (al nl ml : Nat) (tl : Nat → ByteArray) (vl : Nat → ByteArray) (gl : Nat → Int) (wl : Nat → Bool) (tr : ByteArray) (vr : ByteArray) (gr : Int) (wr : Bool) : St39 → Option (St39 ⊕ Rt39) := fun s => s.elim
noncomputable def p39 (al nl ml : Nat) (tl : Nat → ByteArray) (vl : Nat → ByteArray) (gl : Nat → Int) (wl : Nat → Bool) (tr : ByteArray) (vr : ByteArray) (gr : Int) (wr : Bool) : Option (St39 ⊕ Rt39) := bif (decide (al + nl ≤ ml ∧ nl ≤ 1000000))
 then (bif (decide (S.idx (fun (j : Nat) => S.eqS (tl (j + al)) tr) (0) nl ≥ (0 : Int)))
 then (some (.inr (true)))
 else (some (.inr (false))))
 else (none)
noncomputable def Te39 (test : Bool → Prop → Prop → Prop) (Kst : KS) (Kret : KR) (al nl ml : Nat) (tl : Nat → ByteArray) (vl : Nat → ByteArray) (gl : Nat → Int) (wl : Nat → Bool) (tr : ByteArray) (vr : ByteArray) (gr : Int) (wr : Bool) : Prop :=
  test (decide (al + nl ≤ ml ∧ nl ≤ 1000000))
 (test (decide (S.idx (fun (j : Nat) => S.eqS (tl (j + al)) tr) (0) nl ≥ (0 : Int)))
 (Kret (PV.tf true) ([[(1, false,
 Blk.cells [PV.str tr, PV.str vr, PV.int IntKind.i64 gr, PV.bool wr]),
 (0, false,
 Blk.cols ml [Col.str tl, Col.str vl, Col.int IntKind.i64 gl, Col.bool wl])]]) (3))
 (Kret (PV.tf false) ([[(1, false,
 Blk.cells [PV.str tr, PV.str vr, PV.int IntKind.i64 gr, PV.bool wr]),
 (0, false,
 Blk.cols ml [Col.str tl, Col.str vl, Col.int IntKind.i64 gl, Col.bool wl])]]) (3)))
 (False)
set_option maxRecDepth 100000 in
theorem te39 (test : Bool → Prop → Prop → Prop) (Kst : KS) (Kret : KR) (al nl ml : Nat) (tl : Nat → ByteArray) (vl : Nat → ByteArray) (gl : Nat → Int) (wl : Nat → Bool) (tr : ByteArray) (vr : ByteArray) (gr : Int) (wr : Bool) : run test Try.env true (xI test) true 400 ⟨39, [.cd (mkFn Try.f39).body], argT 0 [.loose ⟨0, 4, al, 0⟩ nl, .fn (.func 40) [] [.ptr ⟨1, 0, 0, 0⟩]], [[], [(0, (false, .cols ml [.str tl, .str vl, .int .i64 gl, .bool wl])), (1, (false, .cells [.str tr, .str vr, .int .i64 gr, .bool wr]))]], 2⟩ (proj 2 [] Kst Kret) =
  Te39 test Kst Kret al nl ml tl vl gl wl tr vr gr wr := by kernel_rfl
attribute [local irreducible] Int.subNatNat in
set_option maxRecDepth 100000 in
theorem be39 (al nl ml : Nat) (tl : Nat → ByteArray) (vl : Nat → ByteArray) (gl : Nat → Int) (wl : Nat → Bool) (tr : ByteArray) (vr : ByteArray) (gr : Int) (wr : Bool) (Kst : KS) (Kret : KR) (x : St39 ⊕ Rt39) (hS : HS 2 400 ((I39 al nl ml tl vl gl wl tr vr gr wr)) Kst x) (hR : HR 2 400 ((V39 al nl ml tl vl gl wl tr vr gr wr)) (fun r => [newL (2 + 1) ((N39 al nl ml tl vl gl wl tr vr gr wr) r) ++ [(0, (false, .cols ml [.str tl, .str vl, .int .i64 gl, .bool wl])), (1, (false, .cells [.str tr, .str vr, .int .i64 gr, .bool wr]))]]) Kret x) (h : (bif (decide (al + nl ≤ ml ∧ nl ≤ 1000000))
 then (bif (decide (S.idx (fun (j : Nat) => S.eqS (tl (j + al)) tr) (0) nl ≥ (0 : Int)))
 then (some (.inr (true)))
 else (some (.inr (false))))
 else (none) : Option (St39 ⊕ Rt39)) = some x) : Te39 cond Kst Kret al nl ml tl vl gl wl tr vr gr wr := by
  unfold Te39
  exact bif_split h
   (fun c0 h => bif_split h
   (fun c1 h => ret_at hR _ h (fun n => n) rfl rfl rfl (rn_bool_tf rfl) rfl (entl_bor (use_lo rfl) rfl rfl (entl_borc (use_lo rfl) rfl rfl entl_nil)))
   (fun c1 h => ret_at hR _ h (fun n => n) rfl rfl rfl (rn_bool_tf rfl) rfl (entl_bor (use_lo rfl) rfl rfl (entl_borc (use_lo rfl) rfl rfl entl_nil))))
   (fun c0 h => no_some h)
theorem a39 (al nl ml : Nat) (tl : Nat → ByteArray) (vl : Nat → ByteArray) (gl : Nat → Int) (wl : Nat → Bool) (tr : ByteArray) (vr : ByteArray) (gr : Int) (wr : Bool) {r : Rt39} (h : Goes ((q39 al nl ml tl vl gl wl tr vr gr wr)) ((p39 al nl ml tl vl gl wl tr vr gr wr)) r) : CallR Try.prog 39 [.loose ⟨0, 4, al, 0⟩ nl, .fn (.func 40) [] [.ptr ⟨1, 0, 0, 0⟩]] [[(0, (false, .cols ml [.str tl, .str vl, .int .i64 gl, .bool wl])), (1, (false, .cells [.str tr, .str vr, .int .i64 gr, .bool wr]))]] 2 ((V39 al nl ml tl vl gl wl tr vr gr wr) r) ((fun r => [newL (2 + 1) ((N39 al nl ml tl vl gl wl tr vr gr wr) r) ++ [(0, (false, .cols ml [.str tl, .str vl, .int .i64 gl, .bool wl])), (1, (false, .cells [.str tr, .str vr, .int .i64 gr, .bool wr]))]]) r) 400 ∧ ∃ F, Try.prog.funcs[39]? = some F ∧ F.body.isSome = true ∧ (F.name == "runtime.NumGoroutine") = false := by
  refine dec_calls (f := 39) (lo := 2) (hi := 400) (H := [[(0, (false, .cols ml [.str tl, .str vl, .int .i64 gl, .bool wl])), (1, (false, .cells [.str tr, .str vr, .int .i64 gr, .bool wr]))]]) (args := [.loose ⟨0, 4, al, 0⟩ nl, .fn (.func 40) [] [.ptr ⟨1, 0, 0, 0⟩]]) Try.envOk Try.mixed xI_ok ((I39 al nl ml tl vl gl wl tr vr gr wr)) ((V39 al nl ml tl vl gl wl tr vr gr wr)) (fun r => [newL (2 + 1) ((N39 al nl ml tl vl gl wl tr vr gr wr) r) ++ [(0, (false, .cols ml [.str tl, .str vl, .int .i64 gl, .bool wl])), (1, (false, .cells [.str tr, .str vr, .int .i64 gr, .bool wr]))]]) (fn := mkFn Try.f39) (ts := []) (n := 400) rfl (by decide) (by simp) (names_of rfl) ?_ ?_ ?_ h
  · intro s; exact s.elim
  · intro Kst Kret x hS hR h
    exact Holds.eq (te39 cond Kst Kret al nl ml tl vl gl wl tr vr gr wr) (be39 al nl ml tl vl gl wl tr vr gr wr Kst Kret x hS hR h)
  · intro Kst Kret x hS hR s h; exact s.elim
noncomputable def k39 : Con := ⟨39, [.one (.list [.str, .str, .int .i64, .bool]), .fn 40 [.cell [.str, .str, .int .i64, .bool]]], fun (x : (Nat × Nat × Nat × (Nat → ByteArray) × (Nat → ByteArray) × (Nat → Int) × (Nat → Bool) × Unit) × ((ByteArray × ByteArray × Int × Bool × Unit) × Unit) × Unit) => (fun (al nl ml : Nat) (tl : Nat → ByteArray) (vl : Nat → ByteArray) (gl : Nat → Int) (wl : Nat → Bool) (tr : ByteArray) (vr : ByteArray) (gr : Int) (wr : Bool) => decide (al + nl ≤ ml ∧ nl ≤ 1000000)) x.1.1 x.1.2.1 x.1.2.2.1 x.1.2.2.2.1 x.1.2.2.2.2.1 x.1.2.2.2.2.2.1 x.1.2.2.2.2.2.2.1 x.2.1.1.1 x.2.1.1.2.1 x.2.1.1.2.2.1 x.2.1.1.2.2.2.1, fun (x : (Nat × Nat × Nat × (Nat → ByteArray) × (Nat → ByteArray) × (Nat → Int) × (Nat → Bool) × Unit) × ((ByteArray × ByteArray × Int × Bool × Unit) × Unit) × Unit) => (fun (al nl ml : Nat) (tl : Nat → ByteArray) (vl : Nat → ByteArray) (gl : Nat → Int) (wl : Nat → Bool) (tr : ByteArray) (vr : ByteArray) (gr : Int) (wr : Bool) => (V39 al nl ml tl vl gl wl tr vr gr wr) (S.any (fun j => (S.eqS (tl (j + al)) tr)) nl)) x.1.1 x.1.2.1 x.1.2.2.1 x.1.2.2.2.1 x.1.2.2.2.2.1 x.1.2.2.2.2.2.1 x.1.2.2.2.2.2.2.1 x.2.1.1.1 x.2.1.1.2.1 x.2.1.1.2.2.1 x.2.1.1.2.2.2.1, fun (x : (Nat × Nat × Nat × (Nat → ByteArray) × (Nat → ByteArray) × (Nat → Int) × (Nat → Bool) × Unit) × ((ByteArray × ByteArray × Int × Bool × Unit) × Unit) × Unit) => (fun (al nl ml : Nat) (tl : Nat → ByteArray) (vl : Nat → ByteArray) (gl : Nat → Int) (wl : Nat → Bool) (tr : ByteArray) (vr : ByteArray) (gr : Int) (wr : Bool) => (N39 al nl ml tl vl gl wl tr vr gr wr) (S.any (fun j => (S.eqS (tl (j + al)) tr)) nl)) x.1.1 x.1.2.1 x.1.2.2.1 x.1.2.2.2.1 x.1.2.2.2.2.1 x.1.2.2.2.2.2.1 x.1.2.2.2.2.2.2.1 x.2.1.1.1 x.2.1.1.2.1 x.2.1.1.2.2.1 x.2.1.1.2.2.2.1, fun _ _ => .dead⟩
theorem s39 (al nl ml : Nat) (tl : Nat → ByteArray) (vl : Nat → ByteArray) (gl : Nat → Int) (wl : Nat → Bool) (tr : ByteArray) (vr : ByteArray) (gr : Int) (wr : Bool) (hp : al + nl ≤ ml ∧ nl ≤ 1000000) : Goes ((q39 al nl ml tl vl gl wl tr vr gr wr)) ((p39 al nl ml tl vl gl wl tr vr gr wr)) (S.any (fun j => (S.eqS (tl (j + al)) tr)) nl) := by
  have hp' := hp
  obtain ⟨hp1, hp2⟩ := hp
  rw [← idx_any (p := (fun j => (S.eqS (tl (j + al)) tr))) (n := nl)]
  show Goes _ _ _
  unfold p39
  repeat' first
    | with_reducible refine goes_if (fun h => ?_) (fun h => ?_) <;> (try simp only [lim64, imp_false, decide_eq_true_eq, decide_eq_false_iff_not, Int.toNat_natCast, toNat_pred, toNat_succ, Option.getD_some, Option.getD_none, Bool.not_eq_true', Bool.not_eq_false', Bool.and_eq_true, Bool.or_eq_true, Bool.and_eq_false_iff, Bool.or_eq_false_iff, bne_iff_ne, beq_iff_eq, bne_eq_false_iff_eq, beq_eq_false_iff_ne, ne_eq, not_and, Int.not_le, Int.not_lt, ge_iff_le, gt_iff_lt, Nat.not_lt, Nat.not_le, Bool.not_eq_true, Bool.not_eq_false, Bool.true_eq_false, Bool.false_eq_true, not_false_eq_true, not_true_eq_false] at h)
    | exact goes_none.mpr (by omega)
  all_goals first | (exfalso; omega) | (exfalso; simp_all; done) | (refine goes_inr.mpr ?_; first | rfl | (symm; simp_all; done) | (symm; simp_all; omega))

theorem k39_ok : k39.ok Try.prog := by
  intro x hx
  obtain ⟨⟨al, nl, ml, tl, vl, gl, wl, _⟩, ⟨⟨tr, vr, gr, wr, _⟩, _⟩, _⟩ := x
  obtain ⟨h1, h2⟩ := a39 al nl ml tl vl gl wl tr vr gr wr (s39 al nl ml tl vl gl wl tr vr gr wr (of_dec hx rfl))
  exact ⟨⟨400, (by decide : 2 + 1 + 0 ≤ 400), h1⟩, h2⟩
inductive St75 where
  | h0 (x0 : Int)
abbrev Rt75 := Int
noncomputable def V75 (aa na ma : Nat) (ta : Nat → Int) (va : Nat → Int) (c0 : Int) (c1 : Int) (r : Rt75) : PV := PV.int IntKind.i64 r
noncomputable def N75 (aa na ma : Nat) (ta : Nat → Int) (va : Nat → Int) (c0 : Int) (c1 : Int) (r : Rt75) : List Blk := []
noncomputable def I75 (aa na ma : Nat) (ta : Nat → Int) (va : Nat → Int) (c0 : Int) (c1 : Int) : St75 → Hd
  | .h0 x0 => ⟨hd Try.f75 0, [PV.loose (PA.mk (0) (2) aa (0)) na,
 PV.ptr (PA.mk (1) (0) (0) (0)), PV.int IntKind.i64 (↑na : Int),
 PV.int IntKind.i64 x0], [[(1, (true, Blk.cells [PV.int IntKind.i64 c0, PV.int IntKind.i64 c1]))], [(0, (false, .cols ma [.int .i64 ta, .int .i64 va]))]], 2⟩
noncomputable def q75 (aa na ma : Nat) (ta : Nat → Int) (va : Nat → Int) (c0 : Int) (c1 : Int) : St75 → Option (St75 ⊕ Rt75)
  | .h0 x0 => bif (decide (x0 < (↑na : Int)))
 then (bif (decide ((0 : Int) ≤ x0 ∧ x0 < (↑na : Int)))
 then (bif (decide (Int.toNat x0 + aa < ma))
 then (bif (c0 == ta (Int.toNat x0 + aa) && (c1 == va (Int.toNat x0 + aa) && true))
 then (some (.inr (x0)))
 else (bif (lim IntKind.i64 (x0 + (1 : Int)))
 then (some (.inl (.h0 (x0 + (1 : Int)))))
 else (none)))
 else (none))
 else (none))
 else (some (.inr ((-1 : Int))))
noncomputable def p75 (aa na ma : Nat) (ta : Nat → Int) (va : Nat → Int) (c0 : Int) (c1 : Int) : Option (St75 ⊕ Rt75) := some (.inl (.h0 ((0 : Int))))
noncomputable def Te75 (test : Bool → Prop → Prop → Prop) (Kst : KS) (Kret : KR) (aa na ma : Nat) (ta : Nat → Int) (va : Nat → Int) (c0 : Int) (c1 : Int) : Prop :=
  Kst (hd Try.f75 0) ([PV.loose (PA.mk (0) (2) aa (0)) na,
 PV.ptr (PA.mk (1) (0) (0) (0)), PV.int IntKind.i64 (↑na : Int),
 PV.int IntKind.i64 (0 : Int)]) ([[(0, false, Blk.cols ma [Col.int IntKind.i64 ta, Col.int IntKind.i64 va]),
 (1, true, Blk.cells [PV.int IntKind.i64 c0, PV.int IntKind.i64 c1])]]) (2)
set_option maxRecDepth 100000 in
theorem te75 (test : Bool → Prop → Prop → Prop) (Kst : KS) (Kret : KR) (aa na ma : Nat) (ta : Nat → Int) (va : Nat → Int) (c0 : Int) (c1 : Int) : run test Try.env true noX true 400 ⟨75, [.cd (mkFn Try.f75).body], argT 0 [.loose ⟨0, 2, aa, 0⟩ na, .agg [.int .i64 c0, .int .i64 c1]], [[], [(0, (false, .cols ma [.int .i64 ta, .int .i64 va]))]], 1⟩ (proj 1 [0, 3, 7, 8] Kst Kret) =
  Te75 test Kst Kret aa na ma ta va c0 c1 := by kernel_rfl
noncomputable def T75_0 (test : Bool → Prop → Prop → Prop) (Kst : KS) (Kret : KR) (aa na ma : Nat) (ta : Nat → Int) (va : Nat → Int) (c0 : Int) (c1 : Int) (x0 : Int) : Prop :=
  test (decide (x0 < (↑na : Int)))
 (test (decide ((0 : Int) ≤ x0 ∧ x0 < (↑na : Int)))
 (test (decide (Int.toNat x0 + aa < ma))
 (test (decide (Int.toNat x0 + aa < ma))
 (test (c0 == ta (Int.toNat x0 + aa) && (c1 == va (Int.toNat x0 + aa) && true))
 (Kret (PV.int IntKind.i64 x0) ([[(0, false, Blk.cols ma [Col.int IntKind.i64 ta, Col.int IntKind.i64 va])]]) (2))
 (test (lim IntKind.i64 (x0 + (1 : Int)))
 (Kst (hd Try.f75 0) ([PV.loose (PA.mk (0) (2) aa (0)) na,
 PV.ptr (PA.mk (1) (0) (0) (0)), PV.int IntKind.i64 (↑na : Int),
 PV.int IntKind.i64 (x0 + (1 : Int))]) ([[(0, false, Blk.cols ma [Col.int IntKind.i64 ta, Col.int IntKind.i64 va]),
 (1, true, Blk.cells [PV.int IntKind.i64 c0, PV.int IntKind.i64 c1])]]) (2))
 (False)))
 (False))
 (False))
 (False))
 (Kret (PV.int IntKind.i64 (-1 : Int)) ([[(0, false, Blk.cols ma [Col.int IntKind.i64 ta, Col.int IntKind.i64 va])]]) (2))
set_option maxRecDepth 100000 in
theorem t75_0 (test : Bool → Prop → Prop → Prop) (Kst : KS) (Kret : KR) (aa na ma : Nat) (ta : Nat → Int) (va : Nat → Int) (c0 : Int) (c1 : Int) (x0 : Int) : run test Try.env true noX true 400 ⟨75, hd Try.f75 0, zipT [0, 3, 7, 8] [PV.loose (PA.mk (0) (2) aa (0)) na,
 PV.ptr (PA.mk (1) (0) (0) (0)), PV.int IntKind.i64 (↑na : Int),
 PV.int IntKind.i64 x0], [[(1, (true, Blk.cells [PV.int IntKind.i64 c0, PV.int IntKind.i64 c1]))], [(0, (false, .cols ma [.int .i64 ta, .int .i64 va]))]], 2⟩ (proj 1 [0, 3, 7, 8] Kst Kret) =
  T75_0 test Kst Kret aa na ma ta va c0 c1 x0 := by kernel_rfl
attribute [local irreducible] Int.subNatNat in
set_option maxRecDepth 100000 in
theorem be75 (aa na ma : Nat) (ta : Nat → Int) (va : Nat → Int) (c0 : Int) (c1 : Int) (Kst : KS) (Kret : KR) (x : St75 ⊕ Rt75) (hS : HS 1 400 ((I75 aa na ma ta va c0 c1)) Kst x) (hR : HR 1 400 ((V75 aa na ma ta va c0 c1)) (fun r => [newL (1 + 1) ((N75 aa na ma ta va c0 c1) r) ++ [(0, (false, .cols ma [.int .i64 ta, .int .i64 va]))]]) Kret x) (h : (some (.inl (.h0 ((0 : Int)))) : Option (St75 ⊕ Rt75)) = some x) : Te75 cond Kst Kret aa na ma ta va c0 c1 := by
  unfold Te75
  exact stop_at hS _ h (fun n => bif Nat.beq n 1 then 1 else n) rfl rfl rfl ⟨(rn_loose (use_lo rfl) rfl rfl rfl), ⟨(rn_ptr (use_own rfl) rfl rfl), ⟨(rn_int rfl), ⟨(rn_int rfl), trivial⟩⟩⟩⟩ rfl (entl_b (use_own rfl) rfl (by simp) (rb_cells ⟨(rn_int rfl), (rn_int rfl), trivial⟩) (entl_bor (use_lo rfl) rfl rfl entl_nil))
attribute [local irreducible] Int.subNatNat in
set_option maxRecDepth 100000 in
theorem b75_0 (aa na ma : Nat) (ta : Nat → Int) (va : Nat → Int) (c0 : Int) (c1 : Int) (Kst : KS) (Kret : KR) (x : St75 ⊕ Rt75) (hS : HS 1 400 ((I75 aa na ma ta va c0 c1)) Kst x) (hR : HR 1 400 ((V75 aa na ma ta va c0 c1)) (fun r => [newL (1 + 1) ((N75 aa na ma ta va c0 c1) r) ++ [(0, (false, .cols ma [.int .i64 ta, .int .i64 va]))]]) Kret x) (x0 : Int) (h : (bif (decide (x0 < (↑na : Int)))
 then (bif (decide ((0 : Int) ≤ x0 ∧ x0 < (↑na : Int)))
 then (bif (decide (Int.toNat x0 + aa < ma))
 then (bif (c0 == ta (Int.toNat x0 + aa) && (c1 == va (Int.toNat x0 + aa) && true))
 then (some (.inr (x0)))
 else (bif (lim IntKind.i64 (x0 + (1 : Int)))
 then (some (.inl (.h0 (x0 + (1 : Int)))))
 else (none)))
 else (none))
 else (none))
 else (some (.inr ((-1 : Int)))) : Option (St75 ⊕ Rt75)) = some x) : T75_0 cond Kst Kret aa na ma ta va c0 c1 x0 := by
  unfold T75_0
  exact bif_split h
   (fun c0 h => bif_split h
   (fun c1 h => bif_split h
   (fun c2 h => cond_yes c2 (bif_split h
   (fun c3 h => ret_at hR _ h (fun n => n) rfl rfl rfl (rn_int rfl) rfl (entl_bor (use_lo rfl) rfl rfl entl_nil))
   (fun c3 h => bif_split h
   (fun c4 h => stop_at hS _ h (fun n => bif Nat.beq n 1 then 1 else n) rfl rfl rfl ⟨(rn_loose (use_lo rfl) rfl rfl rfl), ⟨(rn_ptr (use_own rfl) rfl rfl), ⟨(rn_int rfl), ⟨(rn_int rfl), trivial⟩⟩⟩⟩ rfl (entl_b (use_own rfl) rfl (by simp) (rb_cells ⟨(rn_int rfl), (rn_int rfl), trivial⟩) (entl_bor (use_lo rfl) rfl rfl entl_nil)))
   (fun c4 h => no_some h))))
   (fun c2 h => no_some h))
   (fun c1 h => no_some h))
   (fun c0 h => ret_at hR _ h (fun n => n) rfl rfl rfl (rn_int rfl) rfl (entl_bor (use_lo rfl) rfl rfl entl_nil))
theorem a75 (aa na ma : Nat) (ta : Nat → Int) (va : Nat → Int) (c0 : Int) (c1 : Int) {r : Rt75} (h : Goes ((q75 aa na ma ta va c0 c1)) ((p75 aa na ma ta va c0 c1)) r) : CallR Try.prog 75 [.loose ⟨0, 2, aa, 0⟩ na, .agg [.int .i64 c0, .int .i64 c1]] [[(0, (false, .cols ma [.int .i64 ta, .int .i64 va]))]] 1 ((V75 aa na ma ta va c0 c1) r) ((fun r => [newL (1 + 1) ((N75 aa na ma ta va c0 c1) r) ++ [(0, (false, .cols ma [.int .i64 ta, .int .i64 va]))]]) r) 400 ∧ ∃ F, Try.prog.funcs[75]? = some F ∧ F.body.isSome = true ∧ (F.name == "runtime.NumGoroutine") = false := by
  refine dec_calls (f := 75) (lo := 1) (hi := 400) (H := [[(0, (false, .cols ma [.int .i64 ta, .int .i64 va]))]]) (args := [.loose ⟨0, 2, aa, 0⟩ na, .agg [.int .i64 c0, .int .i64 c1]]) Try.envOk Try.mixed noX_ok ((I75 aa na ma ta va c0 c1)) ((V75 aa na ma ta va c0 c1)) (fun r => [newL (1 + 1) ((N75 aa na ma ta va c0 c1) r) ++ [(0, (false, .cols ma [.int .i64 ta, .int .i64 va]))]]) (fn := mkFn Try.f75) (ts := [0, 3, 7, 8]) (n := 400) rfl (by decide) (by simp) (names_of rfl) ?_ ?_ ?_ h
  · intro s; cases s <;> exact ⟨hd_ok _ _, by simp [I75], names_of rfl, Nat.le_of_ble_eq_true rfl⟩
  · intro Kst Kret x hS hR h
    exact Holds.eq (te75 cond Kst Kret aa na ma ta va c0 c1) (be75 aa na ma ta va c0 c1 Kst Kret x hS hR h)
  · intro Kst Kret x hS hR s h
    cases s with
    | h0 x0 => exact Holds.eq (t75_0 cond Kst Kret aa na ma ta va c0 c1 x0) (b75_0 aa na ma ta va c0 c1 Kst Kret x hS hR x0 h)
noncomputable def k75 : Con := ⟨75, [.one (.list [.int .i64, .int .i64]), .agg [.plain (.int .i64), .plain (.int .i64)]], fun (x : (Nat × Nat × Nat × (Nat → Int) × (Nat → Int) × Unit) × (Int × Int × Unit) × Unit) => (fun (aa na ma : Nat) (ta : Nat → Int) (va : Nat → Int) (c0 : Int) (c1 : Int) => decide (aa + na ≤ ma ∧ na ≤ 1000000)) x.1.1 x.1.2.1 x.1.2.2.1 x.1.2.2.2.1 x.1.2.2.2.2.1 x.2.1.1 x.2.1.2.1, fun (x : (Nat × Nat × Nat × (Nat → Int) × (Nat → Int) × Unit) × (Int × Int × Unit) × Unit) => (fun (aa na ma : Nat) (ta : Nat → Int) (va : Nat → Int) (c0 : Int) (c1 : Int) => (V75 aa na ma ta va c0 c1) (S.idx (fun j => decide (ta (j + aa) = c0) && decide (va (j + aa) = c1)) 0 na)) x.1.1 x.1.2.1 x.1.2.2.1 x.1.2.2.2.1 x.1.2.2.2.2.1 x.2.1.1 x.2.1.2.1, fun (x : (Nat × Nat × Nat × (Nat → Int) × (Nat → Int) × Unit) × (Int × Int × Unit) × Unit) => (fun (aa na ma : Nat) (ta : Nat → Int) (va : Nat → Int) (c0 : Int) (c1 : Int) => (N75 aa na ma ta va c0 c1) (S.idx (fun j => decide (ta (j + aa) = c0) && decide (va (j + aa) = c1)) 0 na)) x.1.1 x.1.2.1 x.1.2.2.1 x.1.2.2.2.1 x.1.2.2.2.2.1 x.2.1.1 x.2.1.2.1, fun _ _ => .dead⟩
theorem s75' (aa na ma : Nat) (ta : Nat → Int) (va : Nat → Int) (c0 : Int) (c1 : Int) (hp : aa + na ≤ ma ∧ na ≤ 1000000) : ∀ k i : Nat, i + k = na → Comes (q75 aa na ma ta va c0 c1) (.h0 (i : Int)) (S.idx (fun j => decide (ta (j + aa) = c0) && decide (va (j + aa) = c1)) i k) := by
  obtain ⟨hp1, hp2⟩ := hp
  intro k
  induction k with
  | zero =>
    intro i hi
    apply Comes.of
    show Goes _ _ _
    (first | rw [q75] | unfold q75)
    repeat' first
      | with_reducible refine goes_if (fun h => ?_) (fun h => ?_) <;> (try simp only [lim64, imp_false, decide_eq_true_eq, decide_eq_false_iff_not, Int.toNat_natCast, toNat_pred, toNat_succ, Option.getD_some, Option.getD_none, Bool.not_eq_true', Bool.not_eq_false', Bool.and_eq_true, Bool.or_eq_true, Bool.and_eq_false_iff, Bool.or_eq_false_iff, bne_iff_ne, beq_iff_eq, bne_eq_false_iff_eq, beq_eq_false_iff_ne, ne_eq, not_and, Int.not_le, Int.not_lt, ge_iff_le, gt_iff_lt, Nat.not_lt, Nat.not_le, Bool.not_eq_true, Bool.not_eq_false, Bool.true_eq_false, Bool.false_eq_true, not_false_eq_true, not_true_eq_false] at h)
      | exact goes_none.mpr (by omega)
    all_goals first | (exfalso; omega) | rfl | (refine Eq.mpr (congrArg (Comes _ _) ?_) True; simp only [S.idx, Bool.and_eq_true, Bool.or_eq_true, decide_eq_true_eq]; (repeat' split) <;> first | rfl | omega | (exfalso; omega) | (exfalso; simp_all; done) | (exfalso; simp_all; omega) | simp_all) | (refine goes_inr.mpr ?_; simp only [S.idx, Bool.and_eq_true, Bool.or_eq_true, decide_eq_true_eq]; (repeat' split) <;> first | rfl | omega | (exfalso; omega) | (exfalso; simp_all; done) | (exfalso; simp_all; omega) | simp_all)
  | succ k ih =>
    intro i hi
    have ih := ih (i + 1) (by omega)
    apply Comes.of
    show Goes _ _ _
    (first | rw [q75] | unfold q75)
    repeat' first
      | with_reducible refine goes_if (fun h => ?_) (fun h => ?_) <;> (try simp only [lim64, imp_false, decide_eq_true_eq, decide_eq_false_iff_not, Int.toNat_natCast, toNat_pred, toNat_succ, Option.getD_some, Option.getD_none, Bool.not_eq_true', Bool.not_eq_false', Bool.and_eq_true, Bool.or_eq_true, Bool.and_eq_false_iff, Bool.or_eq_false_iff, bne_iff_ne, beq_iff_eq, bne_eq_false_iff_eq, beq_eq_false_iff_ne, ne_eq, not_and, Int.not_le, Int.not_lt, ge_iff_le, gt_iff_lt, Nat.not_lt, Nat.not_le, Bool.not_eq_true, Bool.not_eq_false, Bool.true_eq_false, Bool.false_eq_true, not_false_eq_true, not_true_eq_false] at h)
      | exact goes_none.mpr (by omega)
    all_goals first | (exfalso; omega) | rfl | (refine Eq.mpr (congrArg (Comes _ _) ?_) ih; simp only [S.idx, Bool.and_eq_true, Bool.or_eq_true, decide_eq_true_eq]; (repeat' split) <;> first | rfl | omega | (exfalso; omega) | (exfalso; simp_all; done) | (exfalso; simp_all; omega) | simp_all) | (refine goes_inr.mpr ?_; simp only [S.idx, Bool.and_eq_true, Bool.or_eq_true, decide_eq_true_eq]; (repeat' split) <;> first | rfl | omega | (exfalso; omega) | (exfalso; simp_all; done) | (exfalso; simp_all; omega) | simp_all)
theorem s75 (aa na ma : Nat) (ta : Nat → Int) (va : Nat → Int) (c0 : Int) (c1 : Int) (hp : aa + na ≤ ma ∧ na ≤ 1000000) : Goes ((q75 aa na ma ta va c0 c1)) ((p75 aa na ma ta va c0 c1)) (S.idx (fun j => decide (ta (j + aa) = c0) && decide (va (j + aa) = c1)) 0 na) := by
  exact s75' aa na ma ta va c0 c1 hp na 0 (by omega)
theorem k75_ok : k75.ok Try.prog := by
  intro x hx
  obtain ⟨⟨aa, na, ma, ta, va, _⟩, ⟨c0, c1, _⟩, _⟩ := x
  obtain ⟨h1, h2⟩ := a75 aa na ma ta va c0 c1 (s75 aa na ma ta va c0 c1 (of_dec hx rfl))
  exact ⟨⟨400, (by decide : 1 + 1 + 0 ≤ 400), h1⟩, h2⟩
noncomputable def xJ (test : Bool → Prop → Prop → Prop) : Ext := consX test [k75]
theorem xJ_ok : ExtOk Try.prog (xJ cond) := consX_ok ⟨k75_ok, trivial⟩

end Go.Ev
