/-
  The first task of a name.
-/
import Derived.Test.YtofnanmggmeleaaL0
namespace Go.Ev
open Go.Proofs
set_option linter.unusedVariables false
set_option linter.unusedSimpArgs false
set_option maxRecDepth 100000
inductive St66 where
  | h0 (x0 : Int)
abbrev Rt66 := Int
noncomputable def V66 (al nl ml : Nat) (tl : Nat → ByteArray) (vl : Nat → Int) (gl : Nat → Int) (wl : Nat → Int) (tr : ByteArray) (vr : Int) (gr : Int) (wr : Int) (r : Rt66) : PV := PV.int IntKind.i64 r
noncomputable def N66 (al nl ml : Nat) (tl : Nat → ByteArray) (vl : Nat → Int) (gl : Nat → Int) (wl : Nat → Int) (tr : ByteArray) (vr : Int) (gr : Int) (wr : Int) (r : Rt66) : List Blk := []
noncomputable def I66 (al nl ml : Nat) (tl : Nat → ByteArray) (vl : Nat → Int) (gl : Nat → Int) (wl : Nat → Int) (tr : ByteArray) (vr : Int) (gr : Int) (wr : Int) : St66 → Hd
  | .h0 x0 => ⟨hd Try.f66 0, [PV.loose (PA.mk (0) (4) al (0)) nl,
 PV.fn (Go.Fn.func (47)) [] [PV.ptr (PA.mk (1) (0) (0) (0))],
 PV.int IntKind.i64 (↑nl : Int), PV.int IntKind.i64 x0], [[], [(0, (false, .cols ml [.str tl, .int .i64 vl, .int .i64 gl, .int .i64 wl])), (1, (false, .cells [.str tr, .int .i64 vr, .int .i64 gr, .int .i64 wr]))]], 2⟩
noncomputable def q66 (al nl ml : Nat) (tl : Nat → ByteArray) (vl : Nat → Int) (gl : Nat → Int) (wl : Nat → Int) (tr : ByteArray) (vr : Int) (gr : Int) (wr : Int) : St66 → Option (St66 ⊕ Rt66)
  | .h0 x0 => bif (decide (x0 < (↑nl : Int)))
 then (bif (decide ((0 : Int) ≤ x0 ∧ x0 < (↑nl : Int)))
 then (bif (decide (Int.toNat x0 + al < ml))
 then (bif (S.eqS (tl (Int.toNat x0 + al)) tr)
 then (some (.inr (x0)))
 else (bif (lim IntKind.i64 (x0 + (1 : Int)))
 then (some (.inl (.h0 (x0 + (1 : Int)))))
 else (none)))
 else (none))
 else (none))
 else (some (.inr ((-1 : Int))))
noncomputable def p66 (al nl ml : Nat) (tl : Nat → ByteArray) (vl : Nat → Int) (gl : Nat → Int) (wl : Nat → Int) (tr : ByteArray) (vr : Int) (gr : Int) (wr : Int) : Option (St66 ⊕ Rt66) := some (.inl (.h0 ((0 : Int))))
noncomputable def Te66 (test : Bool → Prop → Prop → Prop) (Kst : KS) (Kret : KR) (al nl ml : Nat) (tl : Nat → ByteArray) (vl : Nat → Int) (gl : Nat → Int) (wl : Nat → Int) (tr : ByteArray) (vr : Int) (gr : Int) (wr : Int) : Prop :=
  Kst (hd Try.f66 0) ([PV.loose (PA.mk (0) (4) al (0)) nl,
 PV.fn (Go.Fn.func (47)) [] [PV.ptr (PA.mk (1) (0) (0) (0))],
 PV.int IntKind.i64 (↑nl : Int), PV.int IntKind.i64 (0 : Int)]) ([[(1, false,
 Blk.cells
 [PV.str tr, PV.int IntKind.i64 vr, PV.int IntKind.i64 gr,
 PV.int IntKind.i64 wr]),
 (0, false,
 Blk.cols ml
 [Col.str tl, Col.int IntKind.i64 vl, Col.int IntKind.i64 gl,
 Col.int IntKind.i64 wl])]]) (2)
set_option maxRecDepth 100000 in
theorem te66 (test : Bool → Prop → Prop → Prop) (Kst : KS) (Kret : KR) (al nl ml : Nat) (tl : Nat → ByteArray) (vl : Nat → Int) (gl : Nat → Int) (wl : Nat → Int) (tr : ByteArray) (vr : Int) (gr : Int) (wr : Int) : run test Try.env true noX true 400 ⟨66, [.cd (mkFn Try.f66).body], argT 0 [.loose ⟨0, 4, al, 0⟩ nl, .fn (.func 47) [] [.ptr ⟨1, 0, 0, 0⟩]], [[], [(0, (false, .cols ml [.str tl, .int .i64 vl, .int .i64 gl, .int .i64 wl])), (1, (false, .cells [.str tr, .int .i64 vr, .int .i64 gr, .int .i64 wr]))]], 2⟩ (proj 2 [0, 1, 7, 8] Kst Kret) =
  Te66 test Kst Kret al nl ml tl vl gl wl tr vr gr wr := by kernel_rfl
noncomputable def T66_0 (test : Bool → Prop → Prop → Prop) (Kst : KS) (Kret : KR) (al nl ml : Nat) (tl : Nat → ByteArray) (vl : Nat → Int) (gl : Nat → Int) (wl : Nat → Int) (tr : ByteArray) (vr : Int) (gr : Int) (wr : Int) (x0 : Int) : Prop :=
  test (decide (x0 < (↑nl : Int)))
 (test (decide ((0 : Int) ≤ x0 ∧ x0 < (↑nl : Int)))
 (test (decide (Int.toNat x0 + al < ml))
 (test (decide (Int.toNat x0 + al < ml))
 (test (decide (Int.toNat x0 + al < ml))
 (test (decide (Int.toNat x0 + al < ml))
 (test (S.eqS (tl (Int.toNat x0 + al)) tr)
 (Kret (PV.int IntKind.i64 x0) ([[(1, false,
 Blk.cells
 [PV.str tr, PV.int IntKind.i64 vr, PV.int IntKind.i64 gr,
 PV.int IntKind.i64 wr]),
 (0, false,
 Blk.cols ml
 [Col.str tl, Col.int IntKind.i64 vl, Col.int IntKind.i64 gl,
 Col.int IntKind.i64 wl])]]) (3))
 (test (lim IntKind.i64 (x0 + (1 : Int)))
 (Kst (hd Try.f66 0) ([PV.loose (PA.mk (0) (4) al (0)) nl,
 PV.fn (Go.Fn.func (47)) [] [PV.ptr (PA.mk (1) (0) (0) (0))],
 PV.int IntKind.i64 (↑nl : Int), PV.int IntKind.i64 (x0 + (1 : Int))]) ([[(1, false,
 Blk.cells
 [PV.str tr, PV.int IntKind.i64 vr, PV.int IntKind.i64 gr,
 PV.int IntKind.i64 wr]),
 (0, false,
 Blk.cols ml
 [Col.str tl, Col.int IntKind.i64 vl, Col.int IntKind.i64 gl,
 Col.int IntKind.i64 wl])]]) (3))
 (False)))
 (False))
 (False))
 (False))
 (False))
 (False))
 (Kret (PV.int IntKind.i64 (-1 : Int)) ([[(1, false,
 Blk.cells
 [PV.str tr, PV.int IntKind.i64 vr, PV.int IntKind.i64 gr,
 PV.int IntKind.i64 wr]),
 (0, false,
 Blk.cols ml
 [Col.str tl, Col.int IntKind.i64 vl, Col.int IntKind.i64 gl,
 Col.int IntKind.i64 wl])]]) (2))
set_option maxRecDepth 100000 in
theorem t66_0 (test : Bool → Prop → Prop → Prop) (Kst : KS) (Kret : KR) (al nl ml : Nat) (tl : Nat → ByteArray) (vl : Nat → Int) (gl : Nat → Int) (wl : Nat → Int) (tr : ByteArray) (vr : Int) (gr : Int) (wr : Int) (x0 : Int) : run test Try.env true noX true 400 ⟨66, hd Try.f66 0, zipT [0, 1, 7, 8] [PV.loose (PA.mk (0) (4) al (0)) nl,
 PV.fn (Go.Fn.func (47)) [] [PV.ptr (PA.mk (1) (0) (0) (0))],
 PV.int IntKind.i64 (↑nl : Int), PV.int IntKind.i64 x0], [[], [(0, (false, .cols ml [.str tl, .int .i64 vl, .int .i64 gl, .int .i64 wl])), (1, (false, .cells [.str tr, .int .i64 vr, .int .i64 gr, .int .i64 wr]))]], 2⟩ (proj 2 [0, 1, 7, 8] Kst Kret) =
  T66_0 test Kst Kret al nl ml tl vl gl wl tr vr gr wr x0 := by kernel_rfl
attribute [local irreducible] Int.subNatNat in
set_option maxRecDepth 100000 in
theorem be66 (al nl ml : Nat) (tl : Nat → ByteArray) (vl : Nat → Int) (gl : Nat → Int) (wl : Nat → Int) (tr : ByteArray) (vr : Int) (gr : Int) (wr : Int) (Kst : KS) (Kret : KR) (x : St66 ⊕ Rt66) (hS : HS 2 400 ((I66 al nl ml tl vl gl wl tr vr gr wr)) Kst x) (hR : HR 2 400 ((V66 al nl ml tl vl gl wl tr vr gr wr)) (fun r => [newL (2 + 1) ((N66 al nl ml tl vl gl wl tr vr gr wr) r) ++ [(0, (false, .cols ml [.str tl, .int .i64 vl, .int .i64 gl, .int .i64 wl])), (1, (false, .cells [.str tr, .int .i64 vr, .int .i64 gr, .int .i64 wr]))]]) Kret x) (h : (some (.inl (.h0 ((0 : Int)))) : Option (St66 ⊕ Rt66)) = some x) : Te66 cond Kst Kret al nl ml tl vl gl wl tr vr gr wr := by
  unfold Te66
  exact stop_at hS _ h (fun n => n) rfl rfl rfl ⟨(rn_loose (use_lo rfl) rfl rfl rfl), ⟨(rn_fn trivial ⟨(rn_ptr (use_lo rfl) rfl rfl), trivial⟩), ⟨(rn_int rfl), ⟨(rn_int rfl), trivial⟩⟩⟩⟩ rfl (entl_bor (use_lo rfl) rfl rfl (entl_borc (use_lo rfl) rfl rfl entl_nil))
attribute [local irreducible] Int.subNatNat in
set_option maxRecDepth 100000 in
theorem b66_0 (al nl ml : Nat) (tl : Nat → ByteArray) (vl : Nat → Int) (gl : Nat → Int) (wl : Nat → Int) (tr : ByteArray) (vr : Int) (gr : Int) (wr : Int) (Kst : KS) (Kret : KR) (x : St66 ⊕ Rt66) (hS : HS 2 400 ((I66 al nl ml tl vl gl wl tr vr gr wr)) Kst x) (hR : HR 2 400 ((V66 al nl ml tl vl gl wl tr vr gr wr)) (fun r => [newL (2 + 1) ((N66 al nl ml tl vl gl wl tr vr gr wr) r) ++ [(0, (false, .cols ml [.str tl, .int .i64 vl, .int .i64 gl, .int .i64 wl])), (1, (false, .cells [.str tr, .int .i64 vr, .int .i64 gr, .int .i64 wr]))]]) Kret x) (x0 : Int) (h : (bif (decide (x0 < (↑nl : Int)))
 then (bif (decide ((0 : Int) ≤ x0 ∧ x0 < (↑nl : Int)))
 then (bif (decide (Int.toNat x0 + al < ml))
 then (bif (S.eqS (tl (Int.toNat x0 + al)) tr)
 then (some (.inr (x0)))
 else (bif (lim IntKind.i64 (x0 + (1 : Int)))
 then (some (.inl (.h0 (x0 + (1 : Int)))))
 else (none)))
 else (none))
 else (none))
 else (some (.inr ((-1 : Int)))) : Option (St66 ⊕ Rt66)) = some x) : T66_0 cond Kst Kret al nl ml tl vl gl wl tr vr gr wr x0 := by
  unfold T66_0
  exact bif_split h
   (fun c0 h => bif_split h
   (fun c1 h => bif_split h
   (fun c2 h => cond_yes c2 (cond_yes c2 (cond_yes c2 (bif_split h
   (fun c3 h => ret_at hR _ h (fun n => n) rfl rfl rfl (rn_int rfl) rfl (entl_bor (use_lo rfl) rfl rfl (entl_borc (use_lo rfl) rfl rfl entl_nil)))
   (fun c3 h => bif_split h
   (fun c4 h => stop_at hS _ h (fun n => n) rfl rfl rfl ⟨(rn_loose (use_lo rfl) rfl rfl rfl), ⟨(rn_fn trivial ⟨(rn_ptr (use_lo rfl) rfl rfl), trivial⟩), ⟨(rn_int rfl), ⟨(rn_int rfl), trivial⟩⟩⟩⟩ rfl (entl_bor (use_lo rfl) rfl rfl (entl_borc (use_lo rfl) rfl rfl entl_nil)))
   (fun c4 h => no_some h))))))
   (fun c2 h => no_some h))
   (fun c1 h => no_some h))
   (fun c0 h => ret_at hR _ h (fun n => n) rfl rfl rfl (rn_int rfl) rfl (entl_bor (use_lo rfl) rfl rfl (entl_borc (use_lo rfl) rfl rfl entl_nil)))
theorem a66 (al nl ml : Nat) (tl : Nat → ByteArray) (vl : Nat → Int) (gl : Nat → Int) (wl : Nat → Int) (tr : ByteArray) (vr : Int) (gr : Int) (wr : Int) {r : Rt66} (h : Goes ((q66 al nl ml tl vl gl wl tr vr gr wr)) ((p66 al nl ml tl vl gl wl tr vr gr wr)) r) : CallR Try.prog 66 [.loose ⟨0, 4, al, 0⟩ nl, .fn (.func 47) [] [.ptr ⟨1, 0, 0, 0⟩]] [[(0, (false, .cols ml [.str tl, .int .i64 vl, .int .i64 gl, .int .i64 wl])), (1, (false, .cells [.str tr, .int .i64 vr, .int .i64 gr, .int .i64 wr]))]] 2 ((V66 al nl ml tl vl gl wl tr vr gr wr) r) ((fun r => [newL (2 + 1) ((N66 al nl ml tl vl gl wl tr vr gr wr) r) ++ [(0, (false, .cols ml [.str tl, .int .i64 vl, .int .i64 gl, .int .i64 wl])), (1, (false, .cells [.str tr, .int .i64 vr, .int .i64 gr, .int .i64 wr]))]]) r) 400 ∧ ∃ F, Try.prog.funcs[66]? = some F ∧ F.body.isSome = true ∧ (F.name == "runtime.NumGoroutine") = false := by
  refine dec_calls (sy := true) (f := 66) (lo := 2) (hi := 400) (H := [[(0, (false, .cols ml [.str tl, .int .i64 vl, .int .i64 gl, .int .i64 wl])), (1, (false, .cells [.str tr, .int .i64 vr, .int .i64 gr, .int .i64 wr]))]]) (args := [.loose ⟨0, 4, al, 0⟩ nl, .fn (.func 47) [] [.ptr ⟨1, 0, 0, 0⟩]]) Try.envOk Try.mixed noX_ok ((I66 al nl ml tl vl gl wl tr vr gr wr)) ((V66 al nl ml tl vl gl wl tr vr gr wr)) (fun r => [newL (2 + 1) ((N66 al nl ml tl vl gl wl tr vr gr wr) r) ++ [(0, (false, .cols ml [.str tl, .int .i64 vl, .int .i64 gl, .int .i64 wl])), (1, (false, .cells [.str tr, .int .i64 vr, .int .i64 gr, .int .i64 wr]))]]) (fn := mkFn Try.f66) (ts := [0, 1, 7, 8]) (n := 400) rfl (by decide) (by simp) (names_of rfl) ?_ ?_ ?_ h
  · intro s; cases s <;> exact ⟨hd_ok _ _, by simp [I66], names_of rfl, Nat.le_of_ble_eq_true rfl⟩
  · intro Kst Kret x hS hR h
    exact Holds.eq (te66 cond Kst Kret al nl ml tl vl gl wl tr vr gr wr) (be66 al nl ml tl vl gl wl tr vr gr wr Kst Kret x hS hR h)
  · intro Kst Kret x hS hR s h
    cases s with
    | h0 x0 => exact Holds.eq (t66_0 cond Kst Kret al nl ml tl vl gl wl tr vr gr wr x0) (b66_0 al nl ml tl vl gl wl tr vr gr wr Kst Kret x hS hR x0 h)
noncomputable def k66 : Con := ⟨66, [.one (.list [.str, .int .i64, .int .i64, .int .i64]), .fn 47 [.cell [.str, .int .i64, .int .i64, .int .i64]]], fun (x : (Nat × Nat × Nat × (Nat → ByteArray) × (Nat → Int) × (Nat → Int) × (Nat → Int) × Unit) × ((ByteArray × Int × Int × Int × Unit) × Unit) × Unit) => (fun (al nl ml : Nat) (tl : Nat → ByteArray) (vl : Nat → Int) (gl : Nat → Int) (wl : Nat → Int) (tr : ByteArray) (vr : Int) (gr : Int) (wr : Int) => decide (al + nl ≤ ml ∧ nl ≤ 1000000)) x.1.1 x.1.2.1 x.1.2.2.1 x.1.2.2.2.1 x.1.2.2.2.2.1 x.1.2.2.2.2.2.1 x.1.2.2.2.2.2.2.1 x.2.1.1.1 x.2.1.1.2.1 x.2.1.1.2.2.1 x.2.1.1.2.2.2.1, fun (x : (Nat × Nat × Nat × (Nat → ByteArray) × (Nat → Int) × (Nat → Int) × (Nat → Int) × Unit) × ((ByteArray × Int × Int × Int × Unit) × Unit) × Unit) => (fun (al nl ml : Nat) (tl : Nat → ByteArray) (vl : Nat → Int) (gl : Nat → Int) (wl : Nat → Int) (tr : ByteArray) (vr : Int) (gr : Int) (wr : Int) => (V66 al nl ml tl vl gl wl tr vr gr wr) (S.idx (fun j => (S.eqS (tl (j + al)) tr)) 0 nl)) x.1.1 x.1.2.1 x.1.2.2.1 x.1.2.2.2.1 x.1.2.2.2.2.1 x.1.2.2.2.2.2.1 x.1.2.2.2.2.2.2.1 x.2.1.1.1 x.2.1.1.2.1 x.2.1.1.2.2.1 x.2.1.1.2.2.2.1, fun (x : (Nat × Nat × Nat × (Nat → ByteArray) × (Nat → Int) × (Nat → Int) × (Nat → Int) × Unit) × ((ByteArray × Int × Int × Int × Unit) × Unit) × Unit) => (fun (al nl ml : Nat) (tl : Nat → ByteArray) (vl : Nat → Int) (gl : Nat → Int) (wl : Nat → Int) (tr : ByteArray) (vr : Int) (gr : Int) (wr : Int) => (N66 al nl ml tl vl gl wl tr vr gr wr) (S.idx (fun j => (S.eqS (tl (j + al)) tr)) 0 nl)) x.1.1 x.1.2.1 x.1.2.2.1 x.1.2.2.2.1 x.1.2.2.2.2.1 x.1.2.2.2.2.2.1 x.1.2.2.2.2.2.2.1 x.2.1.1.1 x.2.1.1.2.1 x.2.1.1.2.2.1 x.2.1.1.2.2.2.1, fun _ _ => .dead⟩
theorem s66' (al nl ml : Nat) (tl : Nat → ByteArray) (vl : Nat → Int) (gl : Nat → Int) (wl : Nat → Int) (tr : ByteArray) (vr : Int) (gr : Int) (wr : Int) (hp : al + nl ≤ ml ∧ nl ≤ 1000000) : ∀ k i : Nat, i + k = nl → Comes (q66 al nl ml tl vl gl wl tr vr gr wr) (.h0 (i : Int)) (S.idx (fun j => (S.eqS (tl (j + al)) tr)) i k) := by
  obtain ⟨hp1, hp2⟩ := hp
  intro k
  induction k with
  | zero =>
    intro i hi
    apply Comes.of
    show Goes _ _ _
    (first | rw [q66] | unfold q66)
    repeat' first
      | with_reducible refine goes_if (fun h => ?_) (fun h => ?_) <;> (try simp only [lim64, imp_false, decide_eq_true_eq, decide_eq_false_iff_not, Int.toNat_natCast, toNat_pred, toNat_succ, Option.getD_some, Option.getD_none, Bool.not_eq_true', Bool.not_eq_false', Bool.and_eq_true, Bool.or_eq_true, Bool.and_eq_false_iff, Bool.or_eq_false_iff, bne_iff_ne, beq_iff_eq, bne_eq_false_iff_eq, beq_eq_false_iff_ne, ne_eq, not_and, Int.not_le, Int.not_lt, ge_iff_le, gt_iff_lt, Nat.not_lt, Nat.not_le, Bool.not_eq_true, Bool.not_eq_false, Bool.true_eq_false, Bool.false_eq_true, not_false_eq_true, not_true_eq_false] at h)
      | exact goes_none.mpr (by omega)
    all_goals first | (exfalso; omega) | rfl | (refine Eq.mpr (congrArg (Comes _ _) ?_) True; simp only [S.idx, Bool.and_eq_true, Bool.or_eq_true, decide_eq_true_eq]; (repeat' split) <;> first | rfl | omega | (exfalso; omega) | (exfalso; simp_all; done) | (exfalso; simp_all; omega) | simp_all) | (refine goes_inr.mpr ?_; simp only [S.idx, Bool.and_eq_true, Bool.or_eq_true, decide_eq_true_eq]; (repeat' split) <;> first | rfl | omega | (exfalso; omega) | (exfalso; simp_all; done) | (exfalso; simp_all; omega) | simp_all)
  | succ k ih =>
    intro i hi
    have ih := ih (i + 1) (by omega)
    apply Comes.of
    show Goes _ _ _
    (first | rw [q66] | unfold q66)
    repeat' first
      | with_reducible refine goes_if (fun h => ?_) (fun h => ?_) <;> (try simp only [lim64, imp_false, decide_eq_true_eq, decide_eq_false_iff_not, Int.toNat_natCast, toNat_pred, toNat_succ, Option.getD_some, Option.getD_none, Bool.not_eq_true', Bool.not_eq_false', Bool.and_eq_true, Bool.or_eq_true, Bool.and_eq_false_iff, Bool.or_eq_false_iff, bne_iff_ne, beq_iff_eq, bne_eq_false_iff_eq, beq_eq_false_iff_ne, ne_eq, not_and, Int.not_le, Int.not_lt, ge_iff_le, gt_iff_lt, Nat.not_lt, Nat.not_le, Bool.not_eq_true, Bool.not_eq_false, Bool.true_eq_false, Bool.false_eq_true, not_false_eq_true, not_true_eq_false] at h)
      | exact goes_none.mpr (by omega)
    all_goals first | (exfalso; omega) | rfl | (refine Eq.mpr (congrArg (Comes _ _) ?_) ih; simp only [S.idx, Bool.and_eq_true, Bool.or_eq_true, decide_eq_true_eq]; (repeat' split) <;> first | rfl | omega | (exfalso; omega) | (exfalso; simp_all; done) | (exfalso; simp_all; omega) | simp_all) | (refine goes_inr.mpr ?_; simp only [S.idx, Bool.and_eq_true, Bool.or_eq_true, decide_eq_true_eq]; (repeat' split) <;> first | rfl | omega | (exfalso; omega) | (exfalso; simp_all; done) | (exfalso; simp_all; omega) | simp_all)
theorem s66 (al nl ml : Nat) (tl : Nat → ByteArray) (vl : Nat → Int) (gl : Nat → Int) (wl : Nat → Int) (tr : ByteArray) (vr : Int) (gr : Int) (wr : Int) (hp : al + nl ≤ ml ∧ nl ≤ 1000000) : Goes ((q66 al nl ml tl vl gl wl tr vr gr wr)) ((p66 al nl ml tl vl gl wl tr vr gr wr)) (S.idx (fun j => (S.eqS (tl (j + al)) tr)) 0 nl) := by
  exact s66' al nl ml tl vl gl wl tr vr gr wr hp nl 0 (by omega)
theorem k66_ok : k66.ok Try.prog := by
  intro x hx
  obtain ⟨⟨al, nl, ml, tl, vl, gl, wl, _⟩, ⟨⟨tr, vr, gr, wr, _⟩, _⟩, _⟩ := x
  obtain ⟨h1, h2⟩ := a66 al nl ml tl vl gl wl tr vr gr wr (s66 al nl ml tl vl gl wl tr vr gr wr (of_dec hx rfl))
  exact ⟨⟨400, (by decide : 2 + 1 + 0 ≤ 400), h1⟩, h2⟩
noncomputable def xI (test : Bool → Prop → Prop → Prop) : Ext := consX test [k66]
theorem xI_ok : ExtOk Try.prog (xI cond) := consX_ok ⟨k66_ok, trivial⟩

end Go.Ev
