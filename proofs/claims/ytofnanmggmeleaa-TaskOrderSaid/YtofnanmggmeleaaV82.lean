/-
  The parts that the statement needs, 2 of 2.
-/
import Derived.Test.YtofnanmggmeleaaV81
namespace Go.Ev
open Go.Proofs
set_option linter.unusedVariables false
set_option linter.unusedSimpArgs false
set_option maxRecDepth 100000
noncomputable def p70 (no mo : Nat) (to : NI) (cn : Int) (al nl ml : Nat) (tl : Nat → ByteArray) (vl gl wl : NI) : Option (St70 ⊕ Rt70) := some (.inl (.h0 ((0 : Int)) ((20 : Int)) (S.mkl no fun j => to j)))
def Te70 (test : TT) (Kst : KS) (Kret : KR) (no mo : Nat) (to : NI) (cn : Int) (al nl ml : Nat) (tl : Nat → ByteArray) (vl gl wl : NI) : Prop := Kst (hd Try.f70 0) ([PV.own (0) (1) no, PV.int .i64 cn, PV.fn (Go.Fn.func (59)) [] [PV.ptr (PA.mk (1) (0) (0) (0))], PV.int .i64 (20 : Int), PV.int .i64 (0 : Int), PV.int .i64 (20 : Int)]) ([[(2, false, Blk.cols ml [Col.str tl, Col.int .i64 vl, Col.int .i64 gl, Col.int .i64 wl]), (1, false, Blk.cells [PV.loose (PA.mk (2) (4) al (0)) nl]), (0, true, Blk.cols no [Col.int .i64 to])]]) (3)
theorem te70 (Kst : KS) (Kret : KR) (no mo : Nat) (to : NI) (cn : Int) (al nl ml : Nat) (tl : Nat → ByteArray) (vl gl wl : NI) : run cond Try.env true (xI5 cond) true 400 ⟨70, [.cd (mkFn Try.f70).body], argT 0 [.own 0 1 no, .int .i64 cn, .fn (.func 59) [] [.ptr ⟨1, 0, 0, 0⟩]], [[], [(0, (true, .cols no [.int .i64 to])), (1, (false, .cells [.loose ⟨2, 4, al, 0⟩ nl])), (2, (false, .cols ml [.str tl, .int .i64 vl, .int .i64 gl, .int .i64 wl]))]], 3⟩ (proj 3 [0, 1, 2, 6, 7, 8] Kst Kret) =
  Te70 cond Kst Kret no mo to cn al nl ml tl vl gl wl := by kernel_rfl
noncomputable abbrev u70_0_0 (al nl ml : Nat) (tl : Nat → ByteArray) (vl gl wl : Nat → Int) (x2 : List Int) := ([[(2, false, Blk.cols ml [Col.str tl, Col.int IntKind.i64 vl, Col.int IntKind.i64 gl, Col.int IntKind.i64 wl]), (1, false, Blk.cells [PV.loose (PA.mk (2) (4) al (0)) nl]), (0, true, Blk.cols (List.length (S.mkl (List.length x2) fun j => S.at' (S.ordL (fun (x : Int) => wl (Int.toNat x + al)) (List.length x2)) j)) [Col.int IntKind.i64 fun j => S.at' (S.mkl (List.length x2) fun j => S.at' (S.ordL (fun (x : Int) => wl (Int.toNat x + al)) (List.length x2)) j) j])]])
def T70_0 (test : TT) (Kst : KS) (Kret : KR) (no mo : Nat) (to : NI) (cn : Int) (al nl ml : Nat) (tl : Nat → ByteArray) (vl gl wl : NI) (x0 x1 : Int) (x2 : List Int) : Prop := test (decide (x1 ≤ cn)) (test (decide (List.length x2 ≤ List.length x2)) (test (decide ((al + nl ≤ ml ∧ nl ≤ 8 ∧ List.length x2 = nl ∧ x0 = 0 ∧ x1 = (↑(List.length x2) : Int)) ∧ (S.okT nl (fun j => vl (j + al)) (fun j => gl (j + al)) fun j => wl (j + al)) = true ∧ (S.idB (List.length x2) fun j => S.at' x2 j) = true)) (test (lim .i64 (x1 + 20)) (Kst (hd Try.f70 0) ([PV.own (0) (1) (List.length x2), PV.int .i64 cn, PV.fn (Go.Fn.func (59)) [] [PV.ptr (PA.mk (1) (0) (0) (0))], PV.int .i64 (20 : Int), PV.int .i64 x1, PV.int .i64 (x1 + 20)]) (u70_0_0 al nl ml tl vl gl wl x2) (4)) (False)) (False)) (False)) (test (decide (List.length x2 ≤ List.length x2)) (test (decide ((al + nl ≤ ml ∧ nl ≤ 8 ∧ List.length x2 = nl ∧ x0 = 0 ∧ cn = (↑(List.length x2) : Int)) ∧ (S.okT nl (fun j => vl (j + al)) (fun j => gl (j + al)) fun j => wl (j + al)) = true ∧ (S.idB (List.length x2) fun j => S.at' x2 j) = true)) (Kst (hd Try.f70 1) ([PV.own (0) (1) (List.length x2), PV.int .i64 cn, PV.fn (Go.Fn.func (59)) [] [PV.ptr (PA.mk (1) (0) (0) (0))], PV.int .i64 (20 : Int), PV.int .i64 x0, PV.int .i64 x1]) (u70_0_0 al nl ml tl vl gl wl x2) (4)) (False)) (False))
theorem t70_0 (Kst : KS) (Kret : KR) (no mo : Nat) (to : NI) (cn : Int) (al nl ml : Nat) (tl : Nat → ByteArray) (vl gl wl : NI) (x0 x1 : Int) (x2 : List Int) : run cond Try.env true (xI5 cond) true 400 ⟨70, hd Try.f70 0, zipT [0, 1, 2, 6, 7, 8] [PV.own (0) (1) (List.length x2), PV.int .i64 cn,
 PV.fn (Go.Fn.func (59)) [] [PV.ptr (PA.mk (1) (0) (0) (0))],
 PV.int .i64 (20 : Int), PV.int .i64 x0, PV.int .i64 x1], [[], [(0, (true, Blk.cols (List.length x2) [Col.int .i64 fun j => S.at' x2 j])), (1, (false, .cells [.loose ⟨2, 4, al, 0⟩ nl])), (2, (false, .cols ml [.str tl, .int .i64 vl, .int .i64 gl, .int .i64 wl]))]], 3⟩ (proj 3 [0, 1, 2, 6, 7, 8] Kst Kret) =
  T70_0 cond Kst Kret no mo to cn al nl ml tl vl gl wl x0 x1 x2 := by kernel_rfl
def T70_1 (test : TT) (Kst : KS) (Kret : KR) (no mo : Nat) (to : NI) (cn : Int) (al nl ml : Nat) (tl : Nat → ByteArray) (vl gl wl : NI) (x0 : Int) (x1 : List Int) : Prop := test (decide (x0 < cn)) (test (lim .i64 ((2 : Int) * x0)) (Kst (hd Try.f70 2) ([PV.own (0) (1) (List.length x1), PV.int .i64 cn, PV.fn (Go.Fn.func (59)) [] [PV.ptr (PA.mk (1) (0) (0) (0))], PV.int .i64 x0, PV.int .i64 (0 : Int), PV.int .i64 ((2 : Int) * x0)]) ([[(2, false, Blk.cols ml [Col.str tl, Col.int .i64 vl, Col.int .i64 gl, Col.int .i64 wl]), (1, false, Blk.cells [PV.loose (PA.mk (2) (4) al (0)) nl]), (0, true, Blk.cols (List.length x1) [Col.int .i64 fun j => S.at' x1 j])]]) (3)) (False)) (Kret (PV.tup []) ([[(2, false, Blk.cols ml [Col.str tl, Col.int .i64 vl, Col.int .i64 gl, Col.int .i64 wl]), (1, false, Blk.cells [PV.loose (PA.mk (2) (4) al (0)) nl]), (0, true, Blk.cols (List.length x1) [Col.int .i64 fun j => S.at' x1 j])]]) (3))
theorem t70_1 (Kst : KS) (Kret : KR) (no mo : Nat) (to : NI) (cn : Int) (al nl ml : Nat) (tl : Nat → ByteArray) (vl gl wl : NI) (x0 : Int) (x1 : List Int) : run cond Try.env true (xI5 cond) true 400 ⟨70, hd Try.f70 1, zipT [0, 1, 2, 6, 7, 8] [PV.own (0) (1) (List.length x1), PV.int .i64 cn,
 PV.fn (Go.Fn.func (59)) [] [PV.ptr (PA.mk (1) (0) (0) (0))],
 PV.int .i64 x0, PV.unk, PV.unk], [[], [(0, (true, Blk.cols (List.length x1) [Col.int .i64 fun j => S.at' x1 j])), (1, (false, .cells [.loose ⟨2, 4, al, 0⟩ nl])), (2, (false, .cols ml [.str tl, .int .i64 vl, .int .i64 gl, .int .i64 wl]))]], 3⟩ (proj 3 [0, 1, 2, 6, 7, 8] Kst Kret) =
  T70_1 cond Kst Kret no mo to cn al nl ml tl vl gl wl x0 x1 := by kernel_rfl
def T70_2 (test : TT) (Kst : KS) (Kret : KR) (no mo : Nat) (to : NI) (cn : Int) (al nl ml : Nat) (tl : Nat → ByteArray) (vl gl wl : NI) (x0 x1 : Int) (x2 : List Int) : Prop := test (decide (x1 ≤ cn)) (test (lim .i64 ((0 : Int) + x0)) (test (decide (List.length x2 ≤ List.length x2)) (False) (False)) (False)) (test (lim .i64 ((0 : Int) + x0)) (test (decide ((0 : Int) + x0 < cn)) (test (decide (List.length x2 ≤ List.length x2)) (False) (False)) (test (lim .i64 (x0 * 2)) (Kst (hd Try.f70 1) ([PV.own (0) (1) (List.length x2), PV.int .i64 cn, PV.fn (Go.Fn.func (59)) [] [PV.ptr (PA.mk (1) (0) (0) (0))], PV.int .i64 (x0 * 2), PV.int .i64 (0 : Int), PV.int .i64 x1]) ([[(2, false, Blk.cols ml [Col.str tl, Col.int .i64 vl, Col.int .i64 gl, Col.int .i64 wl]), (1, false, Blk.cells [PV.loose (PA.mk (2) (4) al (0)) nl]), (0, true, Blk.cols (List.length x2) [Col.int .i64 fun j => S.at' x2 j])]]) (3)) (False))) (False))
theorem t70_2 (Kst : KS) (Kret : KR) (no mo : Nat) (to : NI) (cn : Int) (al nl ml : Nat) (tl : Nat → ByteArray) (vl gl wl : NI) (x0 x1 : Int) (x2 : List Int) : run cond Try.env true (xI5 cond) true 400 ⟨70, hd Try.f70 2, zipT [0, 1, 2, 6, 7, 8] [PV.own (0) (1) (List.length x2), PV.int .i64 cn,
 PV.fn (Go.Fn.func (59)) [] [PV.ptr (PA.mk (1) (0) (0) (0))],
 PV.int .i64 x0, PV.int .i64 (0 : Int), PV.int .i64 x1], [[], [(0, (true, Blk.cols (List.length x2) [Col.int .i64 fun j => S.at' x2 j])), (1, (false, .cells [.loose ⟨2, 4, al, 0⟩ nl])), (2, (false, .cols ml [.str tl, .int .i64 vl, .int .i64 gl, .int .i64 wl]))]], 3⟩ (proj 3 [0, 1, 2, 6, 7, 8] Kst Kret) =
  T70_2 cond Kst Kret no mo to cn al nl ml tl vl gl wl x0 x1 x2 := by kernel_rfl
noncomputable abbrev J70 (no mo : Nat) (to : NI) (cn : Int) (al nl ml : Nat) (tl : Nat → ByteArray) (vl : NI) (gl : NI) (wl : NI) : Rt70 → Heap := fun r => [newL (3 + 1) ((N70 no mo to cn al nl ml tl vl gl wl) r) ++ [(0, (true, ((W70 no mo to cn al nl ml tl vl gl wl) r 0))), (1, (false, .cells [.loose ⟨2, 4, al, 0⟩ nl])), (2, (false, .cols ml [.str tl, .int .i64 vl, .int .i64 gl, .int .i64 wl]))]]
attribute [local irreducible] Int.subNatNat in
theorem be70 (no mo : Nat) (to : NI) (cn : Int) (al nl ml : Nat) (tl : Nat → ByteArray) (vl gl wl : NI) (Kst : KS) (Kret : KR) (x : St70 ⊕ Rt70) (hS : HS 3 400 ((I70 no mo to cn al nl ml tl vl gl wl)) Kst x) (hR : HR 3 400 ((V70 no mo to cn al nl ml tl vl gl wl)) (J70 no mo to cn al nl ml tl vl gl wl) Kret x) (h : (some (.inl (.h0 ((0 : Int)) ((20 : Int)) (S.mkl no fun j => to j))) : Option (St70 ⊕ Rt70)) = some x) : Te70 cond Kst Kret no mo to cn al nl ml tl vl gl wl := by
  unfold Te70
  exact stop_at hS _ h (fun n => n) rfl rfl rfl ⟨(rn_own (use_lo rfl) rfl mkl_len), ⟨(rn_int rfl), ⟨(rn_fn trivial ⟨(rn_ptr (use_lo rfl) rfl rfl), trivial⟩), ⟨(rn_int rfl), ⟨(rn_int rfl), ⟨(rn_int rfl), trivial⟩⟩⟩⟩⟩⟩ rfl (entl_new (use_lo rfl) rfl (Nat.le_of_eq mkl_len) (rcs_int (fun _ hj => col_mkl (fun (t : Int) => t) hj) rcs_nil) (entl_blk (use_lo rfl) rfl (by simp) id (rb_cells ⟨rn_loose (use_lo rfl) rfl rfl rfl, trivial⟩) (entl_bor (use_lo rfl) rfl rfl entl_nil)))
attribute [local irreducible] Int.subNatNat in
theorem b70_0 (no mo : Nat) (to : NI) (cn : Int) (al nl ml : Nat) (tl : Nat → ByteArray) (vl gl wl : NI) (Kst : KS) (Kret : KR) (x : St70 ⊕ Rt70) (hS : HS 3 400 ((I70 no mo to cn al nl ml tl vl gl wl)) Kst x) (hR : HR 3 400 ((V70 no mo to cn al nl ml tl vl gl wl)) (J70 no mo to cn al nl ml tl vl gl wl) Kret x) (x0 x1 : Int) (x2 : List Int) (h : q70 no mo to cn al nl ml tl vl gl wl (.h0 x0 x1 x2) = some x) : T70_0 cond Kst Kret no mo to cn al nl ml tl vl gl wl x0 x1 x2 := by
  unfold T70_0
  rw [q70] at h
  exact bif_split h (fun c0 h => bif_split h (fun c1 h => bif_split h (fun c2 h => bif_split h (fun c3 h => stop_at hS _ h (fun n => n) rfl rfl rfl ⟨(rn_own (use_lo rfl) rfl mkl_len), ⟨(rn_int rfl), ⟨(rn_fn trivial ⟨(rn_ptr (use_lo rfl) rfl rfl), trivial⟩), ⟨(rn_int rfl), ⟨(rn_int rfl), ⟨(rn_int rfl), trivial⟩⟩⟩⟩⟩⟩ rfl (entl_new (use_lo rfl) rfl (by first | exact Nat.le_of_eq mkl_len | (simp only [mkl_len, snoc_len]; omega)) (rcs_int (fun _ hj => col_mkl (fun (t : Int) => t) hj) rcs_nil) (entl_blk (use_lo rfl) rfl (by simp) id (rb_cells ⟨rn_loose (use_lo rfl) rfl rfl rfl, trivial⟩) (entl_bor (use_lo rfl) rfl rfl entl_nil)))) (fun c3 h => no_some h)) (fun c2 h => no_some h)) (fun c1 h => no_some h)) (fun c0 h => bif_split h (fun c1 h => bif_split h (fun c2 h => stop_at hS _ h (fun n => n) rfl rfl rfl ⟨(rn_own (use_lo rfl) rfl mkl_len), ⟨(rn_int rfl), ⟨(rn_fn trivial ⟨(rn_ptr (use_lo rfl) rfl rfl), trivial⟩), ⟨(rn_int rfl), ⟨(rn_unk _), ⟨(rn_unk _), trivial⟩⟩⟩⟩⟩⟩ rfl (entl_new (use_lo rfl) rfl (by first | exact Nat.le_of_eq mkl_len | (simp only [mkl_len, snoc_len]; omega)) (rcs_int (fun _ hj => col_mkl (fun (t : Int) => t) hj) rcs_nil) (entl_blk (use_lo rfl) rfl (by simp) id (rb_cells ⟨rn_loose (use_lo rfl) rfl rfl rfl, trivial⟩) (entl_bor (use_lo rfl) rfl rfl entl_nil)))) (fun c2 h => no_some h)) (fun c1 h => no_some h))
attribute [local irreducible] Int.subNatNat in
theorem b70_1 (no mo : Nat) (to : NI) (cn : Int) (al nl ml : Nat) (tl : Nat → ByteArray) (vl gl wl : NI) (Kst : KS) (Kret : KR) (x : St70 ⊕ Rt70) (hS : HS 3 400 ((I70 no mo to cn al nl ml tl vl gl wl)) Kst x) (hR : HR 3 400 ((V70 no mo to cn al nl ml tl vl gl wl)) (J70 no mo to cn al nl ml tl vl gl wl) Kret x) (x0 : Int) (x1 : List Int) (h : q70 no mo to cn al nl ml tl vl gl wl (.h1 x0 x1) = some x) : T70_1 cond Kst Kret no mo to cn al nl ml tl vl gl wl x0 x1 := by
  unfold T70_1
  rw [q70] at h
  exact bif_split h (fun c0 h => bif_split h (fun c1 h => stop_at hS _ h (fun n => n) rfl rfl rfl ⟨(rn_own (use_lo rfl) rfl rfl), ⟨(rn_int rfl), ⟨(rn_fn trivial ⟨(rn_ptr (use_lo rfl) rfl rfl), trivial⟩), ⟨(rn_int rfl), ⟨(rn_int rfl), ⟨(rn_int rfl), trivial⟩⟩⟩⟩⟩⟩ rfl (entl_new (use_lo rfl) rfl (Nat.le_of_eq rfl) (rcs_int (fun _ _ => rfl) rcs_nil) (entl_blk (use_lo rfl) rfl (by simp) id (rb_cells ⟨rn_loose (use_lo rfl) rfl rfl rfl, trivial⟩) (entl_bor (use_lo rfl) rfl rfl entl_nil)))) (fun c1 h => no_some h)) (fun c0 h => ret_at hR _ h (fun n => n) rfl rfl rfl (rn_tup trivial) rfl (entl_new (use_lo rfl) rfl (Nat.le_of_eq rfl) (rcs_int (fun _ _ => rfl) rcs_nil) (entl_blk (use_lo rfl) rfl (by simp) id (rb_cells ⟨rn_loose (use_lo rfl) rfl rfl rfl, trivial⟩) (entl_bor (use_lo rfl) rfl rfl entl_nil))))
attribute [local irreducible] Int.subNatNat in
theorem b70_2 (no mo : Nat) (to : NI) (cn : Int) (al nl ml : Nat) (tl : Nat → ByteArray) (vl gl wl : NI) (Kst : KS) (Kret : KR) (x : St70 ⊕ Rt70) (hS : HS 3 400 ((I70 no mo to cn al nl ml tl vl gl wl)) Kst x) (hR : HR 3 400 ((V70 no mo to cn al nl ml tl vl gl wl)) (J70 no mo to cn al nl ml tl vl gl wl) Kret x) (x0 x1 : Int) (x2 : List Int) (h : q70 no mo to cn al nl ml tl vl gl wl (.h2 x0 x1 x2) = some x) : T70_2 cond Kst Kret no mo to cn al nl ml tl vl gl wl x0 x1 x2 := by
  unfold T70_2
  rw [q70] at h
  exact bif_split h (fun c0 h => bif_split h (fun c1 h => bif_split h (fun c2 h => no_some h) (fun c2 h => no_some h)) (fun c1 h => no_some h)) (fun c0 h => bif_split h (fun c1 h => bif_split h (fun c2 h => bif_split h (fun c3 h => no_some h) (fun c3 h => no_some h)) (fun c2 h => bif_split h (fun c3 h => stop_at hS _ h (fun n => n) rfl rfl rfl ⟨(rn_own (use_lo rfl) rfl rfl), ⟨(rn_int rfl), ⟨(rn_fn trivial ⟨(rn_ptr (use_lo rfl) rfl rfl), trivial⟩), ⟨(rn_int rfl), ⟨(rn_unk _), ⟨(rn_unk _), trivial⟩⟩⟩⟩⟩⟩ rfl (entl_new (use_lo rfl) rfl (Nat.le_of_eq rfl) (rcs_int (fun _ _ => rfl) rcs_nil) (entl_blk (use_lo rfl) rfl (by simp) id (rb_cells ⟨rn_loose (use_lo rfl) rfl rfl rfl, trivial⟩) (entl_bor (use_lo rfl) rfl rfl entl_nil)))) (fun c3 h => no_some h))) (fun c1 h => no_some h))
theorem a70 (no mo : Nat) (to : NI) (cn : Int) (al nl ml : Nat) (tl : Nat → ByteArray) (vl gl wl : NI) {r : Rt70} (h : Goes ((q70 no mo to cn al nl ml tl vl gl wl)) ((p70 no mo to cn al nl ml tl vl gl wl)) r) : CallR Try.prog 70 [.own 0 1 no, .int .i64 cn, .fn (.func 59) [] [.ptr ⟨1, 0, 0, 0⟩]] [[(0, (true, .cols no [.int .i64 to])), (1, (false, .cells [.loose ⟨2, 4, al, 0⟩ nl])), (2, (false, .cols ml [.str tl, .int .i64 vl, .int .i64 gl, .int .i64 wl]))]] 3 ((V70 no mo to cn al nl ml tl vl gl wl) r) ((J70 no mo to cn al nl ml tl vl gl wl) r) 400 ∧ ∃ F, Try.prog.funcs[70]? = some F ∧ F.body.isSome = true ∧ (F.name == "runtime.NumGoroutine") = false := by
  refine dec_calls (sy := true) (f := 70) (lo := 3) (hi := 400) (H := [[(0, (true, .cols no [.int .i64 to])), (1, (false, .cells [.loose ⟨2, 4, al, 0⟩ nl])), (2, (false, .cols ml [.str tl, .int .i64 vl, .int .i64 gl, .int .i64 wl]))]]) (args := [.own 0 1 no, .int .i64 cn, .fn (.func 59) [] [.ptr ⟨1, 0, 0, 0⟩]]) Try.envOk Try.mixed xI5_ok ((I70 no mo to cn al nl ml tl vl gl wl)) ((V70 no mo to cn al nl ml tl vl gl wl)) (J70 no mo to cn al nl ml tl vl gl wl) (fn := mkFn Try.f70) (ts := [0, 1, 2, 6, 7, 8]) (n := 400) rfl (by decide) (by simp) (names_of rfl) ?_ ?_ ?_ h
  · intro s; cases s <;> exact ⟨hd_ok _ _, by simp [I70], names_of rfl, Nat.le_of_ble_eq_true rfl⟩
  · intro Kst Kret x hS hR h
    exact Holds.eq (te70 Kst Kret no mo to cn al nl ml tl vl gl wl) (be70 no mo to cn al nl ml tl vl gl wl Kst Kret x hS hR h)
  · intro Kst Kret x hS hR s h
    cases s with
    | h0 x0 x1 x2 => exact Holds.eq (t70_0 Kst Kret no mo to cn al nl ml tl vl gl wl x0 x1 x2) (b70_0 no mo to cn al nl ml tl vl gl wl Kst Kret x hS hR x0 x1 x2 h)
    | h1 x0 x1 => exact Holds.eq (t70_1 Kst Kret no mo to cn al nl ml tl vl gl wl x0 x1) (b70_1 no mo to cn al nl ml tl vl gl wl Kst Kret x hS hR x0 x1 h)
    | h2 x0 x1 x2 => exact Holds.eq (t70_2 Kst Kret no mo to cn al nl ml tl vl gl wl x0 x1 x2) (b70_2 no mo to cn al nl ml tl vl gl wl Kst Kret x hS hR x0 x1 x2 h)
noncomputable abbrev w70 {α : Type} (g : Nat → Nat → (Nat → Int) → Int → Nat → Nat → Nat → (Nat → ByteArray) → (Nat → Int) → (Nat → Int) → (Nat → Int) → α) (x : (Nat × Nat × (Nat → Int) × Unit) × Int × (((Nat × Nat × Nat × (Nat → ByteArray) × (Nat → Int) × (Nat → Int) × (Nat → Int) × Unit) × Unit) × Unit) × Unit) : α := g x.1.1 x.1.2.1 x.1.2.2.1 x.2.1 x.2.2.1.1.1.1 x.2.2.1.1.1.2.1 x.2.2.1.1.1.2.2.1 x.2.2.1.1.1.2.2.2.1 x.2.2.1.1.1.2.2.2.2.1 x.2.2.1.1.1.2.2.2.2.2.1 x.2.2.1.1.1.2.2.2.2.2.2.1
noncomputable def k70  : Con := ⟨70, [.one (.own [.int .i64]), .one (.plain (.int .i64)), .fnx 59 [(false, [.list [.str, .int .i64, .int .i64, .int .i64]])]], w70 (fun no mo to cn al nl ml tl vl gl wl => decide ((al + nl ≤ ml ∧ nl ≤ 8 ∧ no = nl ∧ cn = no) ∧ S.okT nl (fun j => vl (j + al)) (fun j => gl (j + al)) (fun j => wl (j + al)) = true ∧ S.idB no to = true)), w70 (fun no mo to cn al nl ml tl vl gl wl => (V70 no mo to cn al nl ml tl vl gl wl) (S.mkl no fun j => S.at' (S.ordL (fun x => wl (x.toNat + al)) no) j)), w70 (fun no mo to cn al nl ml tl vl gl wl => (N70 no mo to cn al nl ml tl vl gl wl) (S.mkl no fun j => S.at' (S.ordL (fun x => wl (x.toNat + al)) no) j)), w70 (fun no mo to cn al nl ml tl vl gl wl => (W70 no mo to cn al nl ml tl vl gl wl) (S.mkl no fun j => S.at' (S.ordL (fun x => wl (x.toNat + al)) no) j))⟩
theorem s70 (no mo : Nat) (to : Nat → Int) (cn : Int) (al nl ml : Nat) (tl : Nat → ByteArray) (vl gl wl : Nat → Int) (hp : (al + nl ≤ ml ∧ nl ≤ 8 ∧ no = nl ∧ cn = no) ∧ S.okT nl (fun j => vl (j + al)) (fun j => gl (j + al)) (fun j => wl (j + al)) = true ∧ S.idB no to = true) : Goes ((q70 no mo to cn al nl ml tl vl gl wl)) ((p70 no mo to cn al nl ml tl vl gl wl)) (S.mkl no fun j => S.at' (S.ordL (fun x => wl (x.toNat + al)) no) j) := by
  obtain ⟨⟨hp1, hp2, rfl, rfl⟩, hT, hI⟩ := hp
  have hl : (S.mkl no fun j => to j).length = no := mkl_len
  have ho : (S.mkl no fun j => S.at' (S.ordL (fun x => wl (x.toNat + al)) no) j) = S.ordL (fun x => wl (x.toNat + al)) no := mkl_eq ordL_len.symm fun j hj => rfl
  have ho2 : (S.mkl no fun j => S.at' (S.mkl no fun j => S.at' (S.ordL (fun x => wl (x.toNat + al)) no) j) j) = S.mkl no fun j => S.at' (S.ordL (fun x => wl (x.toNat + al)) no) j := mkl_congr fun j hj => at_mkl hj
  unfold p70
  apply Comes.of
  rw [q70]
  ((with_reducible refine goes_no ?_ ?_); focus (exact decide_eq_false (by omega)))
  rw [hl]
  try rw [ho2]
  ((with_reducible refine goes_ok ?_ ?_); focus (exact decide_eq_true (by omega)))
  ((with_reducible refine goes_ok ?_ ?_); focus (exact decide_eq_true ⟨⟨hp1, hp2, rfl, rfl, rfl⟩, hT, idB_mkl hI⟩))
  show Comes _ _ _
  apply Comes.of
  rw [q70]
  ((with_reducible refine goes_no ?_ ?_); focus (exact decide_eq_false (by omega)))
  exact goes_inr.mpr rfl
theorem k70_ok  : k70.ok Try.prog := by
  intro x hx
  obtain ⟨⟨no, mo, to, _⟩, cn, ⟨⟨⟨al, nl, ml, tl, vl, gl, wl, _⟩, _⟩, _⟩, _⟩ := x
  obtain ⟨h1, h2⟩ := a70 no mo to cn al nl ml tl vl gl wl (s70 no mo to cn al nl ml tl vl gl wl (of_dec hx rfl))
  exact ⟨⟨400, (by decide : 3 + 1 + 0 ≤ 400), h1⟩, h2⟩
noncomputable def xI6 (test : Bool → Prop → Prop → Prop) : Ext := consX test [k70]
theorem xI6_ok  : ExtOk Try.prog (xI6 cond) := consX_ok ⟨k70_ok, trivial⟩
abbrev St58  := Empty
abbrev Rt58  := List Int
noncomputable def V58 (no mo : Nat) (to : NI) (al nl ml : Nat) (tl : Nat → ByteArray) (vl gl wl : NI) (r : Rt58) : PV := PV.tup []
noncomputable def N58 (no mo : Nat) (to : NI) (al nl ml : Nat) (tl : Nat → ByteArray) (vl gl wl : NI) (r : Rt58) : List Blk := []
noncomputable def W58 (no mo : Nat) (to : Nat → Int) (al nl ml : Nat) (tl : Nat → ByteArray) (vl gl wl : Nat → Int) (r : Rt58) : Nat → Blk := fun n => bif Nat.beq n 0 then Blk.cols (List.length r) [Col.int IntKind.i64 fun j => S.at' r j] else .dead
noncomputable def I58 (no mo : Nat) (to : NI) (al nl ml : Nat) (tl : Nat → ByteArray) (vl gl wl : NI) : St58 → Hd := fun s => s.elim
noncomputable def q58 (no mo : Nat) (to : NI) (al nl ml : Nat) (tl : Nat → ByteArray) (vl gl wl : NI) : St58 → Option (St58 ⊕ Rt58) := fun s => s.elim
noncomputable def p58 (no mo : Nat) (to : NI) (al nl ml : Nat) (tl : Nat → ByteArray) (vl gl wl : NI) : Option (St58 ⊕ Rt58) := bif (decide (no ≤ no)) then (bif (decide ((al + nl ≤ ml ∧ nl ≤ 8 ∧ no = nl ∧ (↑no : Int) = (↑no : Int)) ∧ (S.okT nl (fun j => vl (j + al)) (fun j => gl (j + al)) fun j => wl (j + al)) = true ∧ S.idB no to = true)) then (some (.inr (S.mkl no fun j => S.at' (S.ordL (fun (x : Int) => wl (Int.toNat x + al)) no) j))) else (none)) else (none)
def Te58 (test : TT) (Kst : KS) (Kret : KR) (no mo : Nat) (to : NI) (al nl ml : Nat) (tl : Nat → ByteArray) (vl gl wl : NI) : Prop := test (decide (no ≤ no)) (test (decide ((al + nl ≤ ml ∧ nl ≤ 8 ∧ no = nl ∧ (↑no : Int) = (↑no : Int)) ∧ (S.okT nl (fun j => vl (j + al)) (fun j => gl (j + al)) fun j => wl (j + al)) = true ∧ S.idB no to = true)) (Kret (PV.tup []) ([[(2, false, Blk.cols ml [Col.str tl, Col.int .i64 vl, Col.int .i64 gl, Col.int .i64 wl]), (1, false, Blk.cells [PV.loose (PA.mk (2) (4) al (0)) nl]), (0, true, Blk.cols (List.length (S.mkl no fun j => S.at' (S.ordL (fun (x : Int) => wl (Int.toNat x + al)) no) j)) [Col.int .i64 fun j => S.at' (S.mkl no fun j => S.at' (S.ordL (fun (x : Int) => wl (Int.toNat x + al)) no) j) j])]]) (4)) (False)) (False)
theorem te58 (test : TT) (Kst : KS) (Kret : KR) (no mo : Nat) (to : NI) (al nl ml : Nat) (tl : Nat → ByteArray) (vl gl wl : NI) : run test Try.env true (xI6 test) true 400 ⟨58, [.cd (mkFn Try.f58).body], argT 0 [.own 0 1 no, .fn (.func 59) [] [.ptr ⟨1, 0, 0, 0⟩]], [[], [(0, (true, .cols no [.int .i64 to])), (1, (false, .cells [.loose ⟨2, 4, al, 0⟩ nl])), (2, (false, .cols ml [.str tl, .int .i64 vl, .int .i64 gl, .int .i64 wl]))]], 3⟩ (proj 3 [] Kst Kret) =
  Te58 test Kst Kret no mo to al nl ml tl vl gl wl := by kernel_rfl
noncomputable abbrev J58 (no mo : Nat) (to : NI) (al nl ml : Nat) (tl : Nat → ByteArray) (vl : NI) (gl : NI) (wl : NI) : Rt58 → Heap := fun r => [newL (3 + 1) ((N58 no mo to al nl ml tl vl gl wl) r) ++ [(0, (true, ((W58 no mo to al nl ml tl vl gl wl) r 0))), (1, (false, .cells [.loose ⟨2, 4, al, 0⟩ nl])), (2, (false, .cols ml [.str tl, .int .i64 vl, .int .i64 gl, .int .i64 wl]))]]
attribute [local irreducible] Int.subNatNat in
theorem be58 (no mo : Nat) (to : NI) (al nl ml : Nat) (tl : Nat → ByteArray) (vl gl wl : NI) (Kst : KS) (Kret : KR) (x : St58 ⊕ Rt58) (hS : HS 3 400 ((I58 no mo to al nl ml tl vl gl wl)) Kst x) (hR : HR 3 400 ((V58 no mo to al nl ml tl vl gl wl)) (J58 no mo to al nl ml tl vl gl wl) Kret x) (h : p58 no mo to al nl ml tl vl gl wl = some x) : Te58 cond Kst Kret no mo to al nl ml tl vl gl wl := by
  unfold Te58
  unfold p58 at h
  exact bif_split h (fun c0 h => bif_split h (fun c1 h => ret_at hR _ h (fun n => n) rfl rfl rfl (rn_tup trivial) rfl (entl_new (use_lo rfl) rfl (Nat.le_of_eq rfl) (rcs_int (fun _ _ => rfl) rcs_nil) (entl_blk (use_lo rfl) rfl (by simp) id (rb_cells ⟨rn_loose (use_lo rfl) rfl rfl rfl, trivial⟩) (entl_bor (use_lo rfl) rfl rfl entl_nil)))) (fun c1 h => no_some h)) (fun c0 h => no_some h)
theorem a58 (no mo : Nat) (to : NI) (al nl ml : Nat) (tl : Nat → ByteArray) (vl gl wl : NI) {r : Rt58} (h : Goes ((q58 no mo to al nl ml tl vl gl wl)) ((p58 no mo to al nl ml tl vl gl wl)) r) : CallR Try.prog 58 [.own 0 1 no, .fn (.func 59) [] [.ptr ⟨1, 0, 0, 0⟩]] [[(0, (true, .cols no [.int .i64 to])), (1, (false, .cells [.loose ⟨2, 4, al, 0⟩ nl])), (2, (false, .cols ml [.str tl, .int .i64 vl, .int .i64 gl, .int .i64 wl]))]] 3 ((V58 no mo to al nl ml tl vl gl wl) r) ((J58 no mo to al nl ml tl vl gl wl) r) 400 ∧ ∃ F, Try.prog.funcs[58]? = some F ∧ F.body.isSome = true ∧ (F.name == "runtime.NumGoroutine") = false := by
  refine dec_calls (sy := true) (f := 58) (lo := 3) (hi := 400) (H := [[(0, (true, .cols no [.int .i64 to])), (1, (false, .cells [.loose ⟨2, 4, al, 0⟩ nl])), (2, (false, .cols ml [.str tl, .int .i64 vl, .int .i64 gl, .int .i64 wl]))]]) (args := [.own 0 1 no, .fn (.func 59) [] [.ptr ⟨1, 0, 0, 0⟩]]) Try.envOk Try.mixed xI6_ok ((I58 no mo to al nl ml tl vl gl wl)) ((V58 no mo to al nl ml tl vl gl wl)) (J58 no mo to al nl ml tl vl gl wl) (fn := mkFn Try.f58) (ts := []) (n := 400) rfl (by decide) (by simp) (names_of rfl) ?_ ?_ ?_ h
  · intro s; exact s.elim
  · intro Kst Kret x hS hR h
    exact Holds.eq (te58 cond Kst Kret no mo to al nl ml tl vl gl wl) (be58 no mo to al nl ml tl vl gl wl Kst Kret x hS hR h)
  · intro Kst Kret x hS hR s h; exact s.elim
noncomputable abbrev w58 {α : Type} (g : Nat → Nat → (Nat → Int) → Nat → Nat → Nat → (Nat → ByteArray) → (Nat → Int) → (Nat → Int) → (Nat → Int) → α) (x : (Nat × Nat × (Nat → Int) × Unit) × (((Nat × Nat × Nat × (Nat → ByteArray) × (Nat → Int) × (Nat → Int) × (Nat → Int) × Unit) × Unit) × Unit) × Unit) : α := g x.1.1 x.1.2.1 x.1.2.2.1 x.2.1.1.1.1 x.2.1.1.1.2.1 x.2.1.1.1.2.2.1 x.2.1.1.1.2.2.2.1 x.2.1.1.1.2.2.2.2.1 x.2.1.1.1.2.2.2.2.2.1 x.2.1.1.1.2.2.2.2.2.2.1
noncomputable def k58  : Con := ⟨58, [.one (.own [.int .i64]), .fnx 59 [(false, [.list [.str, .int .i64, .int .i64, .int .i64]])]], w58 (fun no mo to al nl ml tl vl gl wl => decide ((al + nl ≤ ml ∧ nl ≤ 8 ∧ no = nl) ∧ S.okT nl (fun j => vl (j + al)) (fun j => gl (j + al)) (fun j => wl (j + al)) = true ∧ S.idB no to = true)), w58 (fun no mo to al nl ml tl vl gl wl => (V58 no mo to al nl ml tl vl gl wl) (S.mkl no fun j => S.at' (S.ordL (fun x => wl (x.toNat + al)) no) j)), w58 (fun no mo to al nl ml tl vl gl wl => (N58 no mo to al nl ml tl vl gl wl) (S.mkl no fun j => S.at' (S.ordL (fun x => wl (x.toNat + al)) no) j)), w58 (fun no mo to al nl ml tl vl gl wl => (W58 no mo to al nl ml tl vl gl wl) (S.mkl no fun j => S.at' (S.ordL (fun x => wl (x.toNat + al)) no) j))⟩
theorem s58 (no mo : Nat) (to : Nat → Int) (al nl ml : Nat) (tl : Nat → ByteArray) (vl gl wl : Nat → Int) (hp : (al + nl ≤ ml ∧ nl ≤ 8 ∧ no = nl) ∧ S.okT nl (fun j => vl (j + al)) (fun j => gl (j + al)) (fun j => wl (j + al)) = true ∧ S.idB no to = true) : Goes ((q58 no mo to al nl ml tl vl gl wl)) ((p58 no mo to al nl ml tl vl gl wl)) (S.mkl no fun j => S.at' (S.ordL (fun x => wl (x.toNat + al)) no) j) := by
  obtain ⟨⟨hp1, hp2, rfl⟩, hT, hI⟩ := hp
  have ho : (S.mkl no fun j => S.at' (S.ordL (fun x => wl (x.toNat + al)) no) j) = S.ordL (fun x => wl (x.toNat + al)) no := mkl_eq ordL_len.symm fun j hj => rfl
  have ho2 : (S.mkl no fun j => S.at' (S.mkl no fun j => S.at' (S.ordL (fun x => wl (x.toNat + al)) no) j) j) = S.mkl no fun j => S.at' (S.ordL (fun x => wl (x.toNat + al)) no) j := mkl_congr fun j hj => at_mkl hj
  unfold p58
  try rw [ho2]
  repeat' first
    | with_reducible exact goes_inr.mpr rfl
    | ((with_reducible refine goes_ok ?_ ?_); focus (first | exact decide_eq_true ⟨⟨hp1, hp2, rfl, rfl⟩, hT, hI⟩ | exact decide_eq_true (by omega)))
theorem k58_ok  : k58.ok Try.prog := by
  intro x hx
  obtain ⟨⟨no, mo, to, _⟩, ⟨⟨⟨al, nl, ml, tl, vl, gl, wl, _⟩, _⟩, _⟩, _⟩ := x
  obtain ⟨h1, h2⟩ := a58 no mo to al nl ml tl vl gl wl (s58 no mo to al nl ml tl vl gl wl (of_dec hx rfl))
  exact ⟨⟨400, (by decide : 3 + 1 + 0 ≤ 400), h1⟩, h2⟩
noncomputable def xI7 (test : Bool → Prop → Prop → Prop) : Ext := consX test [k58, k17, k51]
theorem xI7_ok  : ExtOk Try.prog (xI7 cond) := consX_ok ⟨k58_ok, k17_ok, k51_ok, trivial⟩
namespace S
def oS (e : Int) (o : List Int) (m : Int) : Int × List Int := if e = 0 then (if m ≥ 0 then (10, []) else (0, o)) else (e, [])
def inR (n m : Nat) (f : Nat → Int) : Bool := decide (∀ j, j < n → 0 ≤ f j ∧ f j < (m : Int))
end S
theorem ordL_in  {d : Int → Int} {n j : Nat} (hj : j < n) : 0 ≤ S.at' (S.ordL d n) j ∧ S.at' (S.ordL d n) j < n := ordL_mem.1 (at_mem (by rw [ordL_len]; exact hj))
theorem okT_perm  {n : Nat} {p c d : Nat → Int} {f : Nat → Int} (h : S.okT n p c d = true) (hf : ∀ j, j < n → 0 ≤ f j ∧ f j < (n : Int)) : S.okT n (fun j => p (f j).toNat) (fun j => c (f j).toNat) (fun j => d (f j).toNat) = true := by
  obtain ⟨h8, hA⟩ := okT_at h
  exact decide_eq_true ⟨h8, fun j hj => hA _ (by have := hf j hj; omega)⟩
theorem okT_congr  {n : Nat} {p p' c c' d d' : Nat → Int} (h2 : ∀ j, j < n → p j = p' j) (h3 : ∀ j, j < n → c j = c' j) (h4 : ∀ j, j < n → d j = d' j) : S.okT n p c d = S.okT n p' c' d' := by
  unfold S.okT
  rw [decide_eq_decide]
  constructor
  · rintro ⟨a, h⟩; exact ⟨a, fun j hj => by rw [← h2 j hj, ← h3 j hj, ← h4 j hj]; exact h j hj⟩
  · rintro ⟨a, h⟩; exact ⟨a, fun j hj => by rw [h2 j hj, h3 j hj, h4 j hj]; exact h j hj⟩
inductive St33 where
  | h0 (x0 : Int) (x1 : List Int)
  | h1 (x0 : Int) (x1 : Int) (x2 : List Int) (x3 : List (ByteArray × Int × Int × Int))
abbrev Rt33  := Int × List Int
noncomputable def V33 (al nl ml : Nat) (tl : Nat → ByteArray) (vl gl wl : NI) (r : Rt33) : PV := PV.tup [PV.own (2) (1) (List.length r.2), PV.int .i64 r.1]
noncomputable def N33 (al nl ml : Nat) (tl : Nat → ByteArray) (vl gl wl : NI) (r : Rt33) : List Blk := [Blk.cols (List.length r.2) [Col.int .i64 fun j => S.at' r.2 j]]
noncomputable def I33 (al nl ml : Nat) (tl : Nat → ByteArray) (vl gl wl : NI) : St33 → Hd
  | .h0 x0 x1 => ⟨hd Try.f33 0, [PV.ptr (PA.mk (1) (0) (0) (0)),
 PV.own (2) (1) (List.length x1), PV.unk, PV.int .i64 (↑nl : Int),
 PV.int .i64 x0, PV.unk, PV.unk, PV.unk], [[(1, (true, Blk.cells [PV.loose (PA.mk (0) (4) al (0)) nl])), (2, (true, Blk.cols (List.length x1) [Col.int .i64 fun j => S.at' x1 j]))], [(0, (false, .cols ml [.str tl, .int .i64 vl, .int .i64 gl, .int .i64 wl]))]], 3⟩
  | .h1 x0 x1 x2 x3 => ⟨hd Try.f33 1, [PV.ptr (PA.mk (1) (0) (0) (0)),
 PV.own (2) (1) (List.length x2), PV.own (3) (4) (List.length x3),
 PV.unk, PV.unk, PV.own (2) (1) (List.length x2), PV.int .i64 x0,
 PV.int .i64 x1], [[(1, (true, Blk.cells [PV.loose (PA.mk (0) (4) al (0)) nl])), (2, (true, Blk.cols (List.length x2) [Col.int .i64 fun j => S.at' x2 j])), (3, (true, Blk.cols (List.length x3)
 [Col.str fun j => (S.at' x3 j).1,
 Col.int .i64 fun j => (S.at' x3 j).2.1,
 Col.int .i64 fun j => (S.at' x3 j).2.2.1,
 Col.int .i64 fun j => (S.at' x3 j).2.2.2]))], [(0, (false, .cols ml [.str tl, .int .i64 vl, .int .i64 gl, .int .i64 wl]))]], 4⟩
noncomputable def q33 (al nl ml : Nat) (tl : Nat → ByteArray) (vl gl wl : NI) : St33 → Option (St33 ⊕ Rt33) | .h0 x0 x1 => bif (decide (x0 < (↑nl : Int))) then (bif (decide (List.length x1 + 1 ≤ 1000000)) then (bif (decide (List.length x1 ≤ List.length x1)) then (bif (lim .i64 (x0 + 1)) then (some (.inl (.h0 (x0 + 1) (S.snoc x1 x0)))) else (none)) else (none)) else (none)) else (bif (decide (List.length x1 ≤ List.length x1)) then (bif (decide ((al + nl ≤ ml ∧ nl ≤ 8 ∧ List.length x1 = nl) ∧ (S.okT nl (fun j => vl (j + al)) (fun j => gl (j + al)) fun j => wl (j + al)) = true ∧ (S.idB (List.length x1) fun j => S.at' x1 j) = true)) then (some (.inl (.h1 ((↑(List.length x1) : Int)) ((0 : Int)) (S.mkl (List.length x1) fun j => S.at' (S.mkl (List.length x1) fun j => S.at' (S.ordL (fun (x : Int) => wl (Int.toNat x + al)) (List.length x1)) j) j) ([])))) else (none)) else (none)) | .h1 x0 x1 x2 x3 => bif (decide (x1 < x0)) then (bif (decide ((0 : Int) ≤ x1 ∧ x1 < (↑(List.length x2) : Int))) then (bif (decide (Int.toNat x1 < List.length x2)) then (bif (decide ((0 : Int) ≤ S.at' x2 (Int.toNat x1) ∧ S.at' x2 (Int.toNat x1) < (↑nl : Int))) then (bif (decide (Int.toNat (S.at' x2 (Int.toNat x1)) + al < ml)) then (bif (decide (List.length x3 + 1 ≤ 1000000)) then (bif (decide (List.length x3 ≤ List.length x3)) then (bif (lim .i64 (x1 + 1)) then (some (.inl (.h1 (x0) (x1 + 1) (x2) (S.snoc x3 (tl (Int.toNat (S.at' x2 (Int.toNat x1)) + al), vl (Int.toNat (S.at' x2 (Int.toNat x1)) + al), gl (Int.toNat (S.at' x2 (Int.toNat x1)) + al), wl (Int.toNat (S.at' x2 (Int.toNat x1)) + al)))))) else (none)) else (none)) else (none)) else (none)) else (none)) else (none)) else (none)) else (bif (decide (0 + List.length x3 ≤ List.length x3 ∧ (S.okT (List.length x3) (fun j => (S.at' x3 j).2.1) (fun j => (S.at' x3 j).2.2.1) fun j => (S.at' x3 j).2.2.2) = true)) then (bif (decide ((S.misT (List.length x3) (fun j => (S.at' x3 j).2.1) (fun j => (S.at' x3 j).2.2.1) fun j => (S.at' x3 j).2.2.2) ≥ 0)) then (some (.inr ((10 : Int), []))) else (some (.inr ((0 : Int), x2)))) else (none))
noncomputable def p33 (al nl ml : Nat) (tl : Nat → ByteArray) (vl gl wl : NI) : Option (St33 ⊕ Rt33) := bif (decide (al + nl ≤ ml)) then (bif ((S.tskS nl (fun j => tl (j + al)) (fun j => vl (j + al)) (fun j => gl (j + al)) fun j => wl (j + al)) != 0) then (some (.inr (S.tskS nl (fun j => tl (j + al)) (fun j => vl (j + al)) (fun j => gl (j + al)) fun j => wl (j + al), []))) else (some (.inl (.h0 ((0 : Int)) ([]))))) else (none)
def Te33 (test : TT) (Kst : KS) (Kret : KR) (al nl ml : Nat) (tl : Nat → ByteArray) (vl gl wl : NI) : Prop := test (decide (al + nl ≤ ml)) (test ((S.tskS nl (fun j => tl (j + al)) (fun j => vl (j + al)) (fun j => gl (j + al)) fun j => wl (j + al)) != 0) (Kret (PV.tup [PV.nils, PV.int .i64 (S.tskS nl (fun j => tl (j + al)) (fun j => vl (j + al)) (fun j => gl (j + al)) fun j => wl (j + al))]) ([[(0, false, Blk.cols ml [Col.str tl, Col.int .i64 vl, Col.int .i64 gl, Col.int .i64 wl])]]) (3)) (Kst (hd Try.f33 0) ([PV.ptr (PA.mk (1) (0) (0) (0)), PV.nils, PV.unk, PV.int .i64 (↑nl : Int), PV.int .i64 (0 : Int), PV.unk, PV.unk, PV.unk]) ([[(0, false, Blk.cols ml [Col.str tl, Col.int .i64 vl, Col.int .i64 gl, Col.int .i64 wl]), (1, true, Blk.cells [PV.loose (PA.mk (0) (4) al (0)) nl])]]) (3))) (False)
theorem te33 (test : TT) (Kst : KS) (Kret : KR) (al nl ml : Nat) (tl : Nat → ByteArray) (vl gl wl : NI) : run test Try.env true (xI7 test) true 400 ⟨33, [.cd (mkFn Try.f33).body], argT 0 [.loose ⟨0, 4, al, 0⟩ nl], [[], [(0, (false, .cols ml [.str tl, .int .i64 vl, .int .i64 gl, .int .i64 wl]))]], 1⟩ (proj 1 [1, 5, 7, 16, 17, 28, 29, 30] Kst Kret) =
  Te33 test Kst Kret al nl ml tl vl gl wl := by kernel_rfl
def T33_0 (test : TT) (Kst : KS) (Kret : KR) (al nl ml : Nat) (tl : Nat → ByteArray) (vl gl wl : NI) (x0 : Int) (x1 : List Int) : Prop := test (decide (x0 < (↑nl : Int))) (test (decide (List.length x1 + 1 ≤ 1000000)) (test (decide (List.length x1 ≤ List.length x1)) (test (true) (test (lim .i64 (x0 + 1)) (Kst (hd Try.f33 0) ([PV.ptr (PA.mk (1) (0) (0) (0)), PV.own (4) (1) (List.length x1 + 1), PV.unk, PV.int .i64 (↑nl : Int), PV.int .i64 (x0 + 1), PV.unk, PV.unk, PV.unk]) ([[(0, false, Blk.cols ml [Col.str tl, Col.int .i64 vl, Col.int .i64 gl, Col.int .i64 wl]), (4, true, Blk.cols (List.length x1 + 1) [Col.int .i64 fun j => bif Nat.blt j (List.length x1) then S.at' x1 j else x0]), (1, true, Blk.cells [PV.loose (PA.mk (0) (4) al (0)) nl])]]) (5)) (False)) (False)) (False)) (False)) (test (decide (List.length x1 ≤ List.length x1)) (test (decide ((al + nl ≤ ml ∧ nl ≤ 8 ∧ List.length x1 = nl) ∧ (S.okT nl (fun j => vl (j + al)) (fun j => gl (j + al)) fun j => wl (j + al)) = true ∧ (S.idB (List.length x1) fun j => S.at' x1 j) = true)) (Kst (hd Try.f33 1) ([PV.ptr (PA.mk (1) (0) (0) (0)), PV.own (2) (1) (List.length x1), PV.nils, PV.int .i64 (↑nl : Int), PV.int .i64 x0, PV.own (2) (1) (List.length x1), PV.int .i64 (↑(List.length x1) : Int), PV.int .i64 (0 : Int)]) ([[(0, false, Blk.cols ml [Col.str tl, Col.int .i64 vl, Col.int .i64 gl, Col.int .i64 wl]), (2, true, Blk.cols (List.length (S.mkl (List.length x1) fun j => S.at' (S.ordL (fun (x : Int) => wl (Int.toNat x + al)) (List.length x1)) j)) [Col.int .i64 fun j => S.at' (S.mkl (List.length x1) fun j => S.at' (S.ordL (fun (x : Int) => wl (Int.toNat x + al)) (List.length x1)) j) j]), (1, true, Blk.cells [PV.loose (PA.mk (0) (4) al (0)) nl])]]) (4)) (False)) (False))
theorem t33_0 (test : TT) (Kst : KS) (Kret : KR) (al nl ml : Nat) (tl : Nat → ByteArray) (vl gl wl : NI) (x0 : Int) (x1 : List Int) : run test Try.env true (xI7 test) true 400 ⟨33, hd Try.f33 0, zipT [1, 5, 7, 16, 17, 28, 29, 30] [PV.ptr (PA.mk (1) (0) (0) (0)),
 PV.own (2) (1) (List.length x1), PV.unk, PV.int .i64 (↑nl : Int),
 PV.int .i64 x0, PV.unk, PV.unk, PV.unk], [[(1, (true, Blk.cells [PV.loose (PA.mk (0) (4) al (0)) nl])), (2, (true, Blk.cols (List.length x1) [Col.int .i64 fun j => S.at' x1 j]))], [(0, (false, .cols ml [.str tl, .int .i64 vl, .int .i64 gl, .int .i64 wl]))]], 3⟩ (proj 1 [1, 5, 7, 16, 17, 28, 29, 30] Kst Kret) =
  T33_0 test Kst Kret al nl ml tl vl gl wl x0 x1 := by kernel_rfl
def T33_1 (test : TT) (Kst : KS) (Kret : KR) (al nl ml : Nat) (tl : Nat → ByteArray) (vl gl wl : NI) (x0 x1 : Int) (x2 : List Int) (x3 : List (ByteArray × Int × Int × Int)) : Prop := test (decide (x1 < x0)) (test (decide ((0 : Int) ≤ x1 ∧ x1 < (↑(List.length x2) : Int))) (test (decide (Int.toNat x1 < List.length x2)) (test (decide ((0 : Int) ≤ S.at' x2 (Int.toNat x1) ∧ S.at' x2 (Int.toNat x1) < (↑nl : Int))) (test (decide (Int.toNat (S.at' x2 (Int.toNat x1)) + al < ml)) (test (decide (Int.toNat (S.at' x2 (Int.toNat x1)) + al < ml)) (test (decide (Int.toNat (S.at' x2 (Int.toNat x1)) + al < ml)) (test (decide (Int.toNat (S.at' x2 (Int.toNat x1)) + al < ml)) (test (decide (List.length x3 + 1 ≤ 1000000)) (test (decide (List.length x3 ≤ List.length x3)) (test (true) (test (lim .i64 (x1 + 1)) (Kst (hd Try.f33 1) ([PV.ptr (PA.mk (1) (0) (0) (0)), PV.own (2) (1) (List.length x2), PV.own (5) (4) (List.length x3 + 1), PV.unk, PV.unk, PV.own (2) (1) (List.length x2), PV.int .i64 x0, PV.int .i64 (x1 + 1)]) ([[(0, false, Blk.cols ml [Col.str tl, Col.int .i64 vl, Col.int .i64 gl, Col.int .i64 wl]), (2, true, Blk.cols (List.length x2) [Col.int .i64 fun j => S.at' x2 j]), (5, true, Blk.cols (List.length x3 + 1) [Col.str fun j => bif Nat.blt j (List.length x3) then (S.at' x3 j).1 else tl (Int.toNat (S.at' x2 (Int.toNat x1)) + al), Col.int .i64 fun j => bif Nat.blt j (List.length x3) then (S.at' x3 j).2.1 else vl (Int.toNat (S.at' x2 (Int.toNat x1)) + al), Col.int .i64 fun j => bif Nat.blt j (List.length x3) then (S.at' x3 j).2.2.1 else gl (Int.toNat (S.at' x2 (Int.toNat x1)) + al), Col.int .i64 fun j => bif Nat.blt j (List.length x3) then (S.at' x3 j).2.2.2 else wl (Int.toNat (S.at' x2 (Int.toNat x1)) + al)]), (1, true, Blk.cells [PV.loose (PA.mk (0) (4) al (0)) nl])]]) (6)) (False)) (False)) (False)) (False)) (False)) (False)) (False)) (False)) (False)) (False)) (False)) (test (decide (0 + List.length x3 ≤ List.length x3 ∧ (S.okT (List.length x3) (fun j => (S.at' x3 j).2.1) (fun j => (S.at' x3 j).2.2.1) fun j => (S.at' x3 j).2.2.2) = true)) (test (decide ((S.misT (List.length x3) (fun j => (S.at' x3 j).2.1) (fun j => (S.at' x3 j).2.2.1) fun j => (S.at' x3 j).2.2.2) ≥ 0)) (Kret (PV.tup [PV.nils, PV.int .i64 (10 : Int)]) ([[(0, false, Blk.cols ml [Col.str tl, Col.int .i64 vl, Col.int .i64 gl, Col.int .i64 wl])]]) (5)) (Kret (PV.tup [PV.own (2) (1) (List.length x2), PV.int .i64 (0 : Int)]) ([[(0, false, Blk.cols ml [Col.str tl, Col.int .i64 vl, Col.int .i64 gl, Col.int .i64 wl]), (2, true, Blk.cols (List.length x2) [Col.int .i64 fun j => S.at' x2 j])]]) (5))) (False))
theorem t33_1 (test : TT) (Kst : KS) (Kret : KR) (al nl ml : Nat) (tl : Nat → ByteArray) (vl gl wl : NI) (x0 x1 : Int) (x2 : List Int) (x3 : List (ByteArray × Int × Int × Int)) : run test Try.env true (xI7 test) true 400 ⟨33, hd Try.f33 1, zipT [1, 5, 7, 16, 17, 28, 29, 30] [PV.ptr (PA.mk (1) (0) (0) (0)),
 PV.own (2) (1) (List.length x2), PV.own (3) (4) (List.length x3),
 PV.unk, PV.unk, PV.own (2) (1) (List.length x2), PV.int .i64 x0,
 PV.int .i64 x1], [[(1, (true, Blk.cells [PV.loose (PA.mk (0) (4) al (0)) nl])), (2, (true, Blk.cols (List.length x2) [Col.int .i64 fun j => S.at' x2 j])), (3, (true, Blk.cols (List.length x3)
 [Col.str fun j => (S.at' x3 j).1,
 Col.int .i64 fun j => (S.at' x3 j).2.1,
 Col.int .i64 fun j => (S.at' x3 j).2.2.1,
 Col.int .i64 fun j => (S.at' x3 j).2.2.2]))], [(0, (false, .cols ml [.str tl, .int .i64 vl, .int .i64 gl, .int .i64 wl]))]], 4⟩ (proj 1 [1, 5, 7, 16, 17, 28, 29, 30] Kst Kret) =
  T33_1 test Kst Kret al nl ml tl vl gl wl x0 x1 x2 x3 := by kernel_rfl
noncomputable abbrev J33 (al nl ml : Nat) (tl : Nat → ByteArray) (vl : NI) (gl : NI) (wl : NI) : Rt33 → Heap := fun r => [newL (1 + 1) ((N33 al nl ml tl vl gl wl) r) ++ [(0, (false, .cols ml [.str tl, .int .i64 vl, .int .i64 gl, .int .i64 wl]))]]
attribute [local irreducible] Int.subNatNat in
theorem be33 (al nl ml : Nat) (tl : Nat → ByteArray) (vl gl wl : NI) (Kst : KS) (Kret : KR) (x : St33 ⊕ Rt33) (hS : HS 1 400 ((I33 al nl ml tl vl gl wl)) Kst x) (hR : HR 1 400 ((V33 al nl ml tl vl gl wl)) (J33 al nl ml tl vl gl wl) Kret x) (h : p33 al nl ml tl vl gl wl = some x) : Te33 cond Kst Kret al nl ml tl vl gl wl := by
  unfold Te33
  unfold p33 at h
  exact bif_split h (fun c0 h => bif_split h (fun c1 h => ret_at hR _ h (fun n => bif Nat.beq n 2 then 399 else n) rfl rfl rfl (rn_tup ⟨(rn_own_nils rfl), (rn_int rfl), trivial⟩) rfl (entl_fresh (use_own rfl) (fresh_ok rfl) (entl_bor (use_lo rfl) rfl rfl entl_nil))) (fun c1 h => stop_at hS _ h (fun n => bif Nat.beq n 1 then 1 else bif Nat.beq n 2 then 399 else n) rfl rfl rfl ⟨(rn_ptr (use_own rfl) rfl rfl), ⟨(rn_own_nils rfl), ⟨(rn_unk _), ⟨(rn_int rfl), ⟨(rn_int rfl), ⟨(rn_unk _), ⟨(rn_unk _), ⟨(rn_unk _), trivial⟩⟩⟩⟩⟩⟩⟩⟩ rfl (entl_b (use_own rfl) rfl (by simp) (rb_cells ⟨(rn_loose (use_lo rfl) rfl rfl rfl), trivial⟩) (entl_fresh (use_own rfl) (fresh_ok rfl) (entl_bor (use_lo rfl) rfl rfl entl_nil))))) (fun c0 h => no_some h)
attribute [local irreducible] Int.subNatNat in
theorem b33_0 (al nl ml : Nat) (tl : Nat → ByteArray) (vl gl wl : NI) (Kst : KS) (Kret : KR) (x : St33 ⊕ Rt33) (hS : HS 1 400 ((I33 al nl ml tl vl gl wl)) Kst x) (hR : HR 1 400 ((V33 al nl ml tl vl gl wl)) (J33 al nl ml tl vl gl wl) Kret x) (x0 : Int) (x1 : List Int) (h : q33 al nl ml tl vl gl wl (.h0 x0 x1) = some x) : T33_0 cond Kst Kret al nl ml tl vl gl wl x0 x1 := by
  unfold T33_0
  rw [q33] at h
  exact bif_split h (fun c0 h => bif_split h (fun c1 h => bif_split h (fun c2 h => cond_yes rfl (bif_split h (fun c3 h => stop_at hS _ h (fun n => bif Nat.beq n 1 then 1 else bif Nat.beq n 2 then 4 else n) rfl rfl rfl ⟨(rn_ptr (use_own rfl) rfl rfl), ⟨(rn_own (use_own rfl) rfl (snoc_len' rfl)), ⟨(rn_unk _), ⟨(rn_int rfl), ⟨(rn_int rfl), ⟨(rn_unk _), ⟨(rn_unk _), ⟨(rn_unk _), trivial⟩⟩⟩⟩⟩⟩⟩⟩ rfl (entl_b (use_own rfl) rfl (by simp) (rb_cells ⟨(rn_loose (use_lo rfl) rfl rfl rfl), trivial⟩) (entl_new (use_own rfl) rfl (Nat.le_of_eq (snoc_len' rfl)) (rcs_int (col_snoc' (fun (t : Int) => t) rfl (fun _ _ => rfl)) rcs_nil) (entl_bor (use_lo rfl) rfl rfl entl_nil)))) (fun c3 h => no_some h))) (fun c2 h => no_some h)) (fun c1 h => no_some h)) (fun c0 h => bif_split h (fun c1 h => bif_split h (fun c2 h => stop_at hS _ h (fun n => bif Nat.beq n 1 then 1 else bif Nat.beq n 2 then 2 else bif Nat.beq n 3 then 399 else n) rfl rfl rfl ⟨(rn_ptr (use_own rfl) rfl rfl), ⟨(rn_own (use_own rfl) rfl mkl_len), ⟨(rn_own_nils rfl), ⟨(rn_unk _), ⟨(rn_unk _), ⟨(rn_own (use_own rfl) rfl mkl_len), ⟨(rn_int rfl), ⟨(rn_int rfl), trivial⟩⟩⟩⟩⟩⟩⟩⟩ rfl (entl_b (use_own rfl) rfl (by simp) (rb_cells ⟨(rn_loose (use_lo rfl) rfl rfl rfl), trivial⟩) (entl_new (use_own rfl) rfl (by first | exact Nat.le_of_eq mkl_len | (simp only [mkl_len, snoc_len]; omega)) (rcs_int (fun _ hj => col_mkl (fun (t : Int) => t) hj) rcs_nil) (entl_fresh (use_own rfl) (fresh_ok rfl) (entl_bor (use_lo rfl) rfl rfl entl_nil))))) (fun c2 h => no_some h)) (fun c1 h => no_some h))
attribute [local irreducible] Int.subNatNat in
theorem b33_1 (al nl ml : Nat) (tl : Nat → ByteArray) (vl gl wl : NI) (Kst : KS) (Kret : KR) (x : St33 ⊕ Rt33) (hS : HS 1 400 ((I33 al nl ml tl vl gl wl)) Kst x) (hR : HR 1 400 ((V33 al nl ml tl vl gl wl)) (J33 al nl ml tl vl gl wl) Kret x) (x0 x1 : Int) (x2 : List Int) (x3 : List (ByteArray × Int × Int × Int)) (h : q33 al nl ml tl vl gl wl (.h1 x0 x1 x2 x3) = some x) : T33_1 cond Kst Kret al nl ml tl vl gl wl x0 x1 x2 x3 := by
  unfold T33_1
  rw [q33] at h
  exact bif_split h (fun c0 h => bif_split h (fun c1 h => bif_split h (fun c2 h => bif_split h (fun c3 h => bif_split h (fun c4 h => cond_yes c4 (cond_yes c4 (cond_yes c4 (bif_split h (fun c5 h => bif_split h (fun c6 h => cond_yes rfl (bif_split h (fun c7 h => stop_at hS _ h (fun n => bif Nat.beq n 1 then 1 else bif Nat.beq n 2 then 2 else bif Nat.beq n 3 then 5 else n) rfl rfl rfl ⟨(rn_ptr (use_own rfl) rfl rfl), ⟨(rn_own (use_own rfl) rfl rfl), ⟨(rn_own (use_own rfl) rfl (snoc_len' rfl)), ⟨(rn_unk _), ⟨(rn_unk _), ⟨(rn_own (use_own rfl) rfl rfl), ⟨(rn_int rfl), ⟨(rn_int rfl), trivial⟩⟩⟩⟩⟩⟩⟩⟩ rfl (entl_b (use_own rfl) rfl (by simp) (rb_cells ⟨(rn_loose (use_lo rfl) rfl rfl rfl), trivial⟩) (entl_new (use_own rfl) rfl (Nat.le_of_eq rfl) (rcs_int (fun _ _ => rfl) rcs_nil) (entl_new (use_own rfl) rfl (Nat.le_of_eq (snoc_len' rfl)) (rcs_str (col_snoc' (fun (t : ByteArray × Int × Int × Int) => t.1) rfl (fun _ _ => rfl)) (rcs_int (col_snoc' (fun (t : ByteArray × Int × Int × Int) => t.2.1) rfl (fun _ _ => rfl)) (rcs_int (col_snoc' (fun (t : ByteArray × Int × Int × Int) => t.2.2.1) rfl (fun _ _ => rfl)) (rcs_int (col_snoc' (fun (t : ByteArray × Int × Int × Int) => t.2.2.2) rfl (fun _ _ => rfl)) rcs_nil)))) (entl_bor (use_lo rfl) rfl rfl entl_nil))))) (fun c7 h => no_some h))) (fun c6 h => no_some h)) (fun c5 h => no_some h))))) (fun c4 h => no_some h)) (fun c3 h => no_some h)) (fun c2 h => no_some h)) (fun c1 h => no_some h)) (fun c0 h => bif_split h (fun c1 h => bif_split h (fun c2 h => ret_at hR _ h (fun n => bif Nat.beq n 2 then 399 else n) rfl rfl rfl (rn_tup ⟨(rn_own_nils rfl), (rn_int rfl), trivial⟩) rfl (entl_fresh (use_own rfl) (fresh_ok rfl) (entl_bor (use_lo rfl) rfl rfl entl_nil))) (fun c2 h => ret_at hR _ h (fun n => bif Nat.beq n 2 then 2 else n) rfl rfl rfl (rn_tup ⟨(rn_own (use_own rfl) rfl rfl), (rn_int rfl), trivial⟩) rfl (entl_new (use_own rfl) rfl (Nat.le_of_eq rfl) (rcs_int (fun _ _ => rfl) rcs_nil) (entl_bor (use_lo rfl) rfl rfl entl_nil)))) (fun c1 h => no_some h))
theorem a33 (al nl ml : Nat) (tl : Nat → ByteArray) (vl gl wl : NI) {r : Rt33} (h : Goes ((q33 al nl ml tl vl gl wl)) ((p33 al nl ml tl vl gl wl)) r) : CallR Try.prog 33 [.loose ⟨0, 4, al, 0⟩ nl] [[(0, (false, .cols ml [.str tl, .int .i64 vl, .int .i64 gl, .int .i64 wl]))]] 1 ((V33 al nl ml tl vl gl wl) r) ((J33 al nl ml tl vl gl wl) r) 400 ∧ ∃ F, Try.prog.funcs[33]? = some F ∧ F.body.isSome = true ∧ (F.name == "runtime.NumGoroutine") = false := by
  refine dec_calls (sy := true) (f := 33) (lo := 1) (hi := 400) (H := [[(0, (false, .cols ml [.str tl, .int .i64 vl, .int .i64 gl, .int .i64 wl]))]]) (args := [.loose ⟨0, 4, al, 0⟩ nl]) Try.envOk Try.mixed xI7_ok ((I33 al nl ml tl vl gl wl)) ((V33 al nl ml tl vl gl wl)) (J33 al nl ml tl vl gl wl) (fn := mkFn Try.f33) (ts := [1, 5, 7, 16, 17, 28, 29, 30]) (n := 400) rfl (by decide) (by simp) (names_of rfl) ?_ ?_ ?_ h
  · intro s; cases s <;> exact ⟨hd_ok _ _, by simp [I33], names_of rfl, Nat.le_of_ble_eq_true rfl⟩
  · intro Kst Kret x hS hR h
    exact Holds.eq (te33 cond Kst Kret al nl ml tl vl gl wl) (be33 al nl ml tl vl gl wl Kst Kret x hS hR h)
  · intro Kst Kret x hS hR s h
    cases s with
    | h0 x0 x1 => exact Holds.eq (t33_0 cond Kst Kret al nl ml tl vl gl wl x0 x1) (b33_0 al nl ml tl vl gl wl Kst Kret x hS hR x0 x1 h)
    | h1 x0 x1 x2 x3 => exact Holds.eq (t33_1 cond Kst Kret al nl ml tl vl gl wl x0 x1 x2 x3) (b33_1 al nl ml tl vl gl wl Kst Kret x hS hR x0 x1 x2 x3 h)
noncomputable abbrev w33 {α : Type} (g : Nat → Nat → Nat → (Nat → ByteArray) → (Nat → Int) → (Nat → Int) → (Nat → Int) → α) (x : (Nat × Nat × Nat × (Nat → ByteArray) × (Nat → Int) × (Nat → Int) × (Nat → Int) × Unit) × Unit) : α := g x.1.1 x.1.2.1 x.1.2.2.1 x.1.2.2.2.1 x.1.2.2.2.2.1 x.1.2.2.2.2.2.1 x.1.2.2.2.2.2.2.1
noncomputable def k33  : Con := ⟨33, [.one (.list [.str, .int .i64, .int .i64, .int .i64])], w33 (fun al nl ml tl vl gl wl => decide (al + nl ≤ ml)), w33 (fun al nl ml tl vl gl wl => (V33 al nl ml tl vl gl wl) (S.oS (S.tskS nl (fun j => tl (j + al)) (fun j => vl (j + al)) (fun j => gl (j + al)) (fun j => wl (j + al))) (S.ordL (fun x => wl (x.toNat + al)) nl) (S.misT nl (fun j => vl ((S.at' (S.ordL (fun x => wl (x.toNat + al)) nl) j).toNat + al)) (fun j => gl ((S.at' (S.ordL (fun x => wl (x.toNat + al)) nl) j).toNat + al)) (fun j => wl ((S.at' (S.ordL (fun x => wl (x.toNat + al)) nl) j).toNat + al))))), w33 (fun al nl ml tl vl gl wl => (N33 al nl ml tl vl gl wl) (S.oS (S.tskS nl (fun j => tl (j + al)) (fun j => vl (j + al)) (fun j => gl (j + al)) (fun j => wl (j + al))) (S.ordL (fun x => wl (x.toNat + al)) nl) (S.misT nl (fun j => vl ((S.at' (S.ordL (fun x => wl (x.toNat + al)) nl) j).toNat + al)) (fun j => gl ((S.at' (S.ordL (fun x => wl (x.toNat + al)) nl) j).toNat + al)) (fun j => wl ((S.at' (S.ordL (fun x => wl (x.toNat + al)) nl) j).toNat + al))))), fun _ _ => .dead⟩
theorem s33b (al nl ml : Nat) (tl : Nat → ByteArray) (vl gl wl : Nat → Int) (hp : al + nl ≤ ml) (hT : S.okT nl (fun j => vl (j + al)) (fun j => gl (j + al)) (fun j => wl (j + al)) = true) (O : List Int) (hl : O.length = nl) (hO : ∀ j, j < nl → 0 ≤ S.at' O j ∧ S.at' O j < nl) : ∀ k i : Nat, i + k = nl → Comes (q33 al nl ml tl vl gl wl) (.h1 (nl : Int) (i : Int) O (S.mkl i fun j => (tl ((S.at' O j).toNat + al), vl ((S.at' O j).toNat + al), gl ((S.at' O j).toNat + al), wl ((S.at' O j).toNat + al)))) (if S.misT nl (fun j => vl ((S.at' O j).toNat + al)) (fun j => gl ((S.at' O j).toNat + al)) (fun j => wl ((S.at' O j).toNat + al)) ≥ 0 then (10, []) else (0, O)) := by
  have h8 := (okT_at hT).1
  intro k
  induction k with
  | zero =>
    intro i hi
    obtain rfl : i = nl := by omega
    have hL : ((S.mkl i fun j => (tl ((S.at' O j).toNat + al), vl ((S.at' O j).toNat + al), gl ((S.at' O j).toNat + al), wl ((S.at' O j).toNat + al)))).length = i := mkl_len
    have hA : ∀ j, j < i → S.at' (S.mkl i fun j => (tl ((S.at' O j).toNat + al), vl ((S.at' O j).toNat + al), gl ((S.at' O j).toNat + al), wl ((S.at' O j).toNat + al))) j = (tl ((S.at' O j).toNat + al), vl ((S.at' O j).toNat + al), gl ((S.at' O j).toNat + al), wl ((S.at' O j).toNat + al)) := fun j hj => at_mkl hj
    have e1 : S.misT i (fun j => (S.at' (S.mkl i fun j => (tl ((S.at' O j).toNat + al), vl ((S.at' O j).toNat + al), gl ((S.at' O j).toNat + al), wl ((S.at' O j).toNat + al))) j).2.1) (fun j => (S.at' (S.mkl i fun j => (tl ((S.at' O j).toNat + al), vl ((S.at' O j).toNat + al), gl ((S.at' O j).toNat + al), wl ((S.at' O j).toNat + al))) j).2.2.1) (fun j => (S.at' (S.mkl i fun j => (tl ((S.at' O j).toNat + al), vl ((S.at' O j).toNat + al), gl ((S.at' O j).toNat + al), wl ((S.at' O j).toNat + al))) j).2.2.2) = S.misT i (fun j => vl ((S.at' O j).toNat + al)) (fun j => gl ((S.at' O j).toNat + al)) (fun j => wl ((S.at' O j).toNat + al)) := misT_congr (fun j hj => by rw [hA j hj]) (fun j hj => by rw [hA j hj]) (fun j hj => by rw [hA j hj])
    have e2 : S.okT i (fun j => (S.at' (S.mkl i fun j => (tl ((S.at' O j).toNat + al), vl ((S.at' O j).toNat + al), gl ((S.at' O j).toNat + al), wl ((S.at' O j).toNat + al))) j).2.1) (fun j => (S.at' (S.mkl i fun j => (tl ((S.at' O j).toNat + al), vl ((S.at' O j).toNat + al), gl ((S.at' O j).toNat + al), wl ((S.at' O j).toNat + al))) j).2.2.1) (fun j => (S.at' (S.mkl i fun j => (tl ((S.at' O j).toNat + al), vl ((S.at' O j).toNat + al), gl ((S.at' O j).toNat + al), wl ((S.at' O j).toNat + al))) j).2.2.2) = true := by
      rw [okT_congr (p' := (fun j => vl ((S.at' O j).toNat + al))) (c' := (fun j => gl ((S.at' O j).toNat + al))) (d' := (fun j => wl ((S.at' O j).toNat + al))) (fun j hj => by rw [hA j hj]) (fun j hj => by rw [hA j hj]) (fun j hj => by rw [hA j hj])]
      exact okT_perm (f := fun j => S.at' O j) hT hO
    apply Comes.of
    rw [q33]
    rw [hL, e1, e2]
    ((with_reducible refine goes_no ?_ ?_); focus (exact decide_eq_false (by omega)))
    ((with_reducible refine goes_ok ?_ ?_); focus (exact decide_eq_true ⟨by omega, rfl⟩))
    by_cases hm : S.misT i (fun j => vl ((S.at' O j).toNat + al)) (fun j => gl ((S.at' O j).toNat + al)) (fun j => wl ((S.at' O j).toNat + al)) ≥ 0
    · rw [if_pos hm]
      ((with_reducible refine goes_ok ?_ ?_); focus (exact decide_eq_true hm))
      exact goes_inr.mpr rfl
    · rw [if_neg hm]
      ((with_reducible refine goes_no ?_ ?_); focus (exact decide_eq_false hm))
      exact goes_inr.mpr rfl
  | succ k ih =>
    intro i hi
    have ih := ih (i + 1) (by omega)
    have h2 := hO i (by omega)
    have hL : ((S.mkl i fun j => (tl ((S.at' O j).toNat + al), vl ((S.at' O j).toNat + al), gl ((S.at' O j).toNat + al), wl ((S.at' O j).toNat + al)))).length = i := mkl_len
    have e : (S.mkl (i + 1) fun j => (tl ((S.at' O j).toNat + al), vl ((S.at' O j).toNat + al), gl ((S.at' O j).toNat + al), wl ((S.at' O j).toNat + al))) = S.snoc (S.mkl i fun j => (tl ((S.at' O j).toNat + al), vl ((S.at' O j).toNat + al), gl ((S.at' O j).toNat + al), wl ((S.at' O j).toNat + al))) (tl ((S.at' O i).toNat + al), vl ((S.at' O i).toNat + al), gl ((S.at' O i).toNat + al), wl ((S.at' O i).toNat + al)) := mkl_succ
    rw [e] at ih
    apply Comes.of
    rw [q33]
    rw [hL, hl, Int.toNat_natCast]
    generalize S.at' O i = y at *
    ((with_reducible refine goes_ok ?_ ?_); focus (exact decide_eq_true (by omega)))
    ((with_reducible refine goes_ok ?_ ?_); focus (exact decide_eq_true (by omega)))
    ((with_reducible refine goes_ok ?_ ?_); focus (exact decide_eq_true (by omega)))
    ((with_reducible refine goes_ok ?_ ?_); focus (exact decide_eq_true (by omega)))
    ((with_reducible refine goes_ok ?_ ?_); focus (exact decide_eq_true (by omega)))
    ((with_reducible refine goes_ok ?_ ?_); focus (exact decide_eq_true (by omega)))
    ((with_reducible refine goes_ok ?_ ?_); focus (exact decide_eq_true (by omega)))
    ((with_reducible refine goes_ok ?_ ?_); focus (rw [lim64]; exact decide_eq_true (by omega)))
    exact ih
theorem s33a (al nl ml : Nat) (tl : Nat → ByteArray) (vl gl wl : Nat → Int) (hp : al + nl ≤ ml) (hT : S.okT nl (fun j => vl (j + al)) (fun j => gl (j + al)) (fun j => wl (j + al)) = true) : ∀ k i : Nat, i + k = nl → Comes (q33 al nl ml tl vl gl wl) (.h0 (i : Int) (S.mkl i fun j => (j : Int))) (if (S.misT nl (fun j => vl ((S.at' (S.ordL (fun x => wl (x.toNat + al)) nl) j).toNat + al)) (fun j => gl ((S.at' (S.ordL (fun x => wl (x.toNat + al)) nl) j).toNat + al)) (fun j => wl ((S.at' (S.ordL (fun x => wl (x.toNat + al)) nl) j).toNat + al))) ≥ 0 then (10, []) else (0, (S.ordL (fun x => wl (x.toNat + al)) nl))) := by
  have h8 := (okT_at hT).1
  intro k
  induction k with
  | zero =>
    intro i hi
    obtain rfl : i = nl := by omega
    have hL : (S.mkl i fun j => (j : Int)).length = i := mkl_len
    have hid : S.idB i (fun j => S.at' (S.mkl i fun j => (j : Int)) j) = true := decide_eq_true fun j hj => at_mkl hj
    have ho : (S.mkl i fun j => S.at' (S.mkl i fun j => S.at' (S.ordL (fun x => wl (x.toNat + al)) i) j) j) = (S.ordL (fun x => wl (x.toNat + al)) i) := (mkl_congr fun j hj => at_mkl hj).trans (mkl_eq ordL_len.symm fun j hj => rfl)
    have key := s33b al i ml tl vl gl wl hp hT (S.ordL (fun x => wl (x.toNat + al)) i) ordL_len (fun j hj => ordL_in hj) i 0 (Nat.zero_add _)
    apply Comes.of
    rw [q33]
    rw [hL]
    ((with_reducible refine goes_no ?_ ?_); focus (exact decide_eq_false (by omega)))
    ((with_reducible refine goes_ok ?_ ?_); focus (exact decide_eq_true (Nat.le_refl _)))
    ((with_reducible refine goes_ok ?_ ?_); focus (exact decide_eq_true ⟨⟨hp, h8, rfl⟩, hT, hid⟩))
    rw [ho]
    exact key
  | succ k ih =>
    intro i hi
    have ih := ih (i + 1) (by omega)
    have e : (S.mkl (i + 1) fun j => (j : Int)) = S.snoc (S.mkl i fun j => (j : Int)) (i : Int) := mkl_succ
    rw [e] at ih
    have hL : (S.mkl i fun j => (j : Int)).length = i := mkl_len
    apply Comes.of
    rw [q33]
    rw [hL]
    ((with_reducible refine goes_ok ?_ ?_); focus (exact decide_eq_true (by omega)))
    ((with_reducible refine goes_ok ?_ ?_); focus (exact decide_eq_true (by omega)))
    ((with_reducible refine goes_ok ?_ ?_); focus (exact decide_eq_true (Nat.le_refl _)))
    ((with_reducible refine goes_ok ?_ ?_); focus (rw [lim64]; exact decide_eq_true (by omega)))
    exact ih
theorem s33 (al nl ml : Nat) (tl : Nat → ByteArray) (vl gl wl : Nat → Int) (hp : al + nl ≤ ml) : Goes ((q33 al nl ml tl vl gl wl)) ((p33 al nl ml tl vl gl wl)) (S.oS (S.tskS nl (fun j => tl (j + al)) (fun j => vl (j + al)) (fun j => gl (j + al)) (fun j => wl (j + al))) (S.ordL (fun x => wl (x.toNat + al)) nl) (S.misT nl (fun j => vl ((S.at' (S.ordL (fun x => wl (x.toNat + al)) nl) j).toNat + al)) (fun j => gl ((S.at' (S.ordL (fun x => wl (x.toNat + al)) nl) j).toNat + al)) (fun j => wl ((S.at' (S.ordL (fun x => wl (x.toNat + al)) nl) j).toNat + al)))) := by
  have hk : S.tskS nl (fun j => tl (j + al)) (fun j => vl (j + al)) (fun j => gl (j + al)) (fun j => wl (j + al)) = 0 → S.okT nl (fun j => vl (j + al)) (fun j => gl (j + al)) (fun j => wl (j + al)) = true := fun h => (tskS_ok h).2
  have hmain := s33a al nl ml tl vl gl wl hp
  unfold p33 S.oS
  generalize (S.misT nl (fun j => vl ((S.at' (S.ordL (fun x => wl (x.toNat + al)) nl) j).toNat + al)) (fun j => gl ((S.at' (S.ordL (fun x => wl (x.toNat + al)) nl) j).toNat + al)) (fun j => wl ((S.at' (S.ordL (fun x => wl (x.toNat + al)) nl) j).toNat + al))) = m at *
  generalize S.tskS nl (fun j => tl (j + al)) (fun j => vl (j + al)) (fun j => gl (j + al)) (fun j => wl (j + al)) = e at *
  ((with_reducible refine goes_ok ?_ ?_); focus (exact decide_eq_true hp))
  by_cases he : e = 0
  · have h := hmain (hk he) nl 0 (Nat.zero_add _)
    rw [if_pos he]
    refine goes_no (by rw [he]; rfl) ?_
    exact h
  · rw [if_neg he]
    exact goes_ok (by simpa using he) rfl
theorem k33_ok  : k33.ok Try.prog := by
  intro x hx
  obtain ⟨⟨al, nl, ml, tl, vl, gl, wl, _⟩, _⟩ := x
  obtain ⟨h1, h2⟩ := a33 al nl ml tl vl gl wl (s33 al nl ml tl vl gl wl (of_dec hx rfl))
  exact ⟨⟨400, (by decide : 1 + 1 + 1 ≤ 400), h1⟩, h2⟩
inductive St37 where
  | h0 (x0 : Int) (x1 : List (ByteArray × Int × Int × Int))
abbrev Rt37  := List (ByteArray × Int × Int × Int)
noncomputable def V37 (al nl ml : Nat) (tl : Nat → ByteArray) (vl gl wl : NI) (ao no mo : Nat) (to : NI) (r : Rt37) : PV := PV.own (3) (4) (List.length r)
noncomputable def N37 (al nl ml : Nat) (tl : Nat → ByteArray) (vl gl wl : NI) (ao no mo : Nat) (to : NI) (r : Rt37) : List Blk := [Blk.cols (List.length r) [Col.str fun j => (S.at' r j).1, Col.int .i64 fun j => (S.at' r j).2.1, Col.int .i64 fun j => (S.at' r j).2.2.1, Col.int .i64 fun j => (S.at' r j).2.2.2]]
noncomputable def I37 (al nl ml : Nat) (tl : Nat → ByteArray) (vl gl wl : NI) (ao no mo : Nat) (to : NI) : St37 → Hd
  | .h0 x0 x1 => ⟨hd Try.f37 0, [PV.loose (PA.mk (0) (4) al (0)) nl,
 PV.loose (PA.mk (1) (1) ao (0)) no,
 PV.own (2) (4) (List.length x1), PV.int .i64 x0], [[(2, (true, Blk.cols (List.length x1)
 [Col.str fun j => (S.at' x1 j).1,
 Col.int .i64 fun j => (S.at' x1 j).2.1,
 Col.int .i64 fun j => (S.at' x1 j).2.2.1,
 Col.int .i64 fun j => (S.at' x1 j).2.2.2]))], [(0, (false, .cols ml [.str tl, .int .i64 vl, .int .i64 gl, .int .i64 wl])), (1, (false, .cols mo [.int .i64 to]))]], 3⟩
noncomputable def q37 (al nl ml : Nat) (tl : Nat → ByteArray) (vl gl wl : NI) (ao no mo : Nat) (to : NI) : St37 → Option (St37 ⊕ Rt37) | .h0 x0 x1 => bif (decide (x0 < (↑no : Int))) then (bif (decide ((0 : Int) ≤ x0 ∧ x0 < (↑no : Int))) then (bif (decide (Int.toNat x0 + ao < mo)) then (bif (decide ((0 : Int) ≤ to (Int.toNat x0 + ao) ∧ to (Int.toNat x0 + ao) < (↑nl : Int))) then (bif (decide (Int.toNat (to (Int.toNat x0 + ao)) + al < ml)) then (bif (decide (List.length x1 + 1 ≤ 1000000)) then (bif (decide (List.length x1 ≤ List.length x1)) then (bif (lim .i64 (x0 + 1)) then (some (.inl (.h0 (x0 + 1) (S.snoc x1 (tl (Int.toNat (to (Int.toNat x0 + ao)) + al), vl (Int.toNat (to (Int.toNat x0 + ao)) + al), gl (Int.toNat (to (Int.toNat x0 + ao)) + al), wl (Int.toNat (to (Int.toNat x0 + ao)) + al)))))) else (none)) else (none)) else (none)) else (none)) else (none)) else (none)) else (none)) else (some (.inr (x1)))
noncomputable def p37 (al nl ml : Nat) (tl : Nat → ByteArray) (vl gl wl : NI) (ao no mo : Nat) (to : NI) : Option (St37 ⊕ Rt37) := some (.inl (.h0 ((0 : Int)) ([])))
def Te37 (test : TT) (Kst : KS) (Kret : KR) (al nl ml : Nat) (tl : Nat → ByteArray) (vl gl wl : NI) (ao no mo : Nat) (to : NI) : Prop := Kst (hd Try.f37 0) ([PV.loose (PA.mk (0) (4) al (0)) nl, PV.loose (PA.mk (1) (1) ao (0)) no, PV.nils, PV.int .i64 (0 : Int)]) ([[(1, false, Blk.cols mo [Col.int .i64 to]), (0, false, Blk.cols ml [Col.str tl, Col.int .i64 vl, Col.int .i64 gl, Col.int .i64 wl])]]) (2)
theorem te37 (test : TT) (Kst : KS) (Kret : KR) (al nl ml : Nat) (tl : Nat → ByteArray) (vl gl wl : NI) (ao no mo : Nat) (to : NI) : run test Try.env true noX true 400 ⟨37, [.cd (mkFn Try.f37).body], argT 0 [.loose ⟨0, 4, al, 0⟩ nl, .loose ⟨1, 1, ao, 0⟩ no], [[], [(0, (false, .cols ml [.str tl, .int .i64 vl, .int .i64 gl, .int .i64 wl])), (1, (false, .cols mo [.int .i64 to]))]], 2⟩ (proj 2 [0, 1, 5, 6] Kst Kret) =
  Te37 test Kst Kret al nl ml tl vl gl wl ao no mo to := by kernel_rfl
def T37_0 (test : TT) (Kst : KS) (Kret : KR) (al nl ml : Nat) (tl : Nat → ByteArray) (vl gl wl : NI) (ao no mo : Nat) (to : NI) (x0 : Int) (x1 : List (ByteArray × Int × Int × Int)) : Prop := test (decide (x0 < (↑no : Int))) (test (decide ((0 : Int) ≤ x0 ∧ x0 < (↑no : Int))) (test (decide (Int.toNat x0 + ao < mo)) (test (decide ((0 : Int) ≤ to (Int.toNat x0 + ao) ∧ to (Int.toNat x0 + ao) < (↑nl : Int))) (test (decide (Int.toNat (to (Int.toNat x0 + ao)) + al < ml)) (test (decide (Int.toNat (to (Int.toNat x0 + ao)) + al < ml)) (test (decide (Int.toNat (to (Int.toNat x0 + ao)) + al < ml)) (test (decide (Int.toNat (to (Int.toNat x0 + ao)) + al < ml)) (test (decide (List.length x1 + 1 ≤ 1000000)) (test (decide (List.length x1 ≤ List.length x1)) (test (true) (test (lim .i64 (x0 + 1)) (Kst (hd Try.f37 0) ([PV.loose (PA.mk (0) (4) al (0)) nl, PV.loose (PA.mk (1) (1) ao (0)) no, PV.own (4) (4) (List.length x1 + 1), PV.int .i64 (x0 + 1)]) ([[(1, false, Blk.cols mo [Col.int .i64 to]), (0, false, Blk.cols ml [Col.str tl, Col.int .i64 vl, Col.int .i64 gl, Col.int .i64 wl]), (4, true, Blk.cols (List.length x1 + 1) [Col.str fun j => bif Nat.blt j (List.length x1) then (S.at' x1 j).1 else tl (Int.toNat (to (Int.toNat x0 + ao)) + al), Col.int .i64 fun j => bif Nat.blt j (List.length x1) then (S.at' x1 j).2.1 else vl (Int.toNat (to (Int.toNat x0 + ao)) + al), Col.int .i64 fun j => bif Nat.blt j (List.length x1) then (S.at' x1 j).2.2.1 else gl (Int.toNat (to (Int.toNat x0 + ao)) + al), Col.int .i64 fun j => bif Nat.blt j (List.length x1) then (S.at' x1 j).2.2.2 else wl (Int.toNat (to (Int.toNat x0 + ao)) + al)])]]) (5)) (False)) (False)) (False)) (False)) (False)) (False)) (False)) (False)) (False)) (False)) (False)) (Kret (PV.own (2) (4) (List.length x1)) ([[(1, false, Blk.cols mo [Col.int .i64 to]), (0, false, Blk.cols ml [Col.str tl, Col.int .i64 vl, Col.int .i64 gl, Col.int .i64 wl]), (2, true, Blk.cols (List.length x1) [Col.str fun j => (S.at' x1 j).1, Col.int .i64 fun j => (S.at' x1 j).2.1, Col.int .i64 fun j => (S.at' x1 j).2.2.1, Col.int .i64 fun j => (S.at' x1 j).2.2.2])]]) (3))
theorem t37_0 (test : TT) (Kst : KS) (Kret : KR) (al nl ml : Nat) (tl : Nat → ByteArray) (vl gl wl : NI) (ao no mo : Nat) (to : NI) (x0 : Int) (x1 : List (ByteArray × Int × Int × Int)) : run test Try.env true noX true 400 ⟨37, hd Try.f37 0, zipT [0, 1, 5, 6] [PV.loose (PA.mk (0) (4) al (0)) nl,
 PV.loose (PA.mk (1) (1) ao (0)) no,
 PV.own (2) (4) (List.length x1), PV.int .i64 x0], [[(2, (true, Blk.cols (List.length x1)
 [Col.str fun j => (S.at' x1 j).1,
 Col.int .i64 fun j => (S.at' x1 j).2.1,
 Col.int .i64 fun j => (S.at' x1 j).2.2.1,
 Col.int .i64 fun j => (S.at' x1 j).2.2.2]))], [(0, (false, .cols ml [.str tl, .int .i64 vl, .int .i64 gl, .int .i64 wl])), (1, (false, .cols mo [.int .i64 to]))]], 3⟩ (proj 2 [0, 1, 5, 6] Kst Kret) =
  T37_0 test Kst Kret al nl ml tl vl gl wl ao no mo to x0 x1 := by kernel_rfl
noncomputable abbrev J37 (al nl ml : Nat) (tl : Nat → ByteArray) (vl : NI) (gl : NI) (wl : NI) (ao no mo : Nat) (to : NI) : Rt37 → Heap := fun r => [newL (2 + 1) ((N37 al nl ml tl vl gl wl ao no mo to) r) ++ [(0, (false, .cols ml [.str tl, .int .i64 vl, .int .i64 gl, .int .i64 wl])), (1, (false, .cols mo [.int .i64 to]))]]
attribute [local irreducible] Int.subNatNat in
theorem be37 (al nl ml : Nat) (tl : Nat → ByteArray) (vl gl wl : NI) (ao no mo : Nat) (to : NI) (Kst : KS) (Kret : KR) (x : St37 ⊕ Rt37) (hS : HS 2 400 ((I37 al nl ml tl vl gl wl ao no mo to)) Kst x) (hR : HR 2 400 ((V37 al nl ml tl vl gl wl ao no mo to)) (J37 al nl ml tl vl gl wl ao no mo to) Kret x) (h : (some (.inl (.h0 ((0 : Int)) ([]))) : Option (St37 ⊕ Rt37)) = some x) : Te37 cond Kst Kret al nl ml tl vl gl wl ao no mo to := by
  unfold Te37
  exact stop_at hS _ h (fun n => bif Nat.beq n 2 then 399 else n) rfl rfl rfl ⟨(rn_loose (use_lo rfl) rfl rfl rfl), ⟨(rn_loose (use_lo rfl) rfl rfl rfl), ⟨(rn_own_nils rfl), ⟨(rn_int rfl), trivial⟩⟩⟩⟩ rfl (entl_fresh (use_own rfl) (fresh_ok rfl) (entl_bor (use_lo rfl) rfl rfl (entl_bor (use_lo rfl) rfl rfl entl_nil)))
attribute [local irreducible] Int.subNatNat in
theorem b37_0 (al nl ml : Nat) (tl : Nat → ByteArray) (vl gl wl : NI) (ao no mo : Nat) (to : NI) (Kst : KS) (Kret : KR) (x : St37 ⊕ Rt37) (hS : HS 2 400 ((I37 al nl ml tl vl gl wl ao no mo to)) Kst x) (hR : HR 2 400 ((V37 al nl ml tl vl gl wl ao no mo to)) (J37 al nl ml tl vl gl wl ao no mo to) Kret x) (x0 : Int) (x1 : List (ByteArray × Int × Int × Int)) (h : q37 al nl ml tl vl gl wl ao no mo to (.h0 x0 x1) = some x) : T37_0 cond Kst Kret al nl ml tl vl gl wl ao no mo to x0 x1 := by
  unfold T37_0
  rw [q37] at h
  exact bif_split h (fun c0 h => bif_split h (fun c1 h => bif_split h (fun c2 h => bif_split h (fun c3 h => bif_split h (fun c4 h => cond_yes c4 (cond_yes c4 (cond_yes c4 (bif_split h (fun c5 h => bif_split h (fun c6 h => cond_yes rfl (bif_split h (fun c7 h => stop_at hS _ h (fun n => bif Nat.beq n 2 then 4 else n) rfl rfl rfl ⟨(rn_loose (use_lo rfl) rfl rfl rfl), ⟨(rn_loose (use_lo rfl) rfl rfl rfl), ⟨(rn_own (use_own rfl) rfl (snoc_len' rfl)), ⟨(rn_int rfl), trivial⟩⟩⟩⟩ rfl (entl_new (use_own rfl) rfl (Nat.le_of_eq (snoc_len' rfl)) (rcs_str (col_snoc' (fun (t : ByteArray × Int × Int × Int) => t.1) rfl (fun _ _ => rfl)) (rcs_int (col_snoc' (fun (t : ByteArray × Int × Int × Int) => t.2.1) rfl (fun _ _ => rfl)) (rcs_int (col_snoc' (fun (t : ByteArray × Int × Int × Int) => t.2.2.1) rfl (fun _ _ => rfl)) (rcs_int (col_snoc' (fun (t : ByteArray × Int × Int × Int) => t.2.2.2) rfl (fun _ _ => rfl)) rcs_nil)))) (entl_bor (use_lo rfl) rfl rfl (entl_bor (use_lo rfl) rfl rfl entl_nil)))) (fun c7 h => no_some h))) (fun c6 h => no_some h)) (fun c5 h => no_some h))))) (fun c4 h => no_some h)) (fun c3 h => no_some h)) (fun c2 h => no_some h)) (fun c1 h => no_some h)) (fun c0 h => ret_at hR _ h (fun n => bif Nat.beq n 3 then 2 else n) rfl rfl rfl (rn_own (use_own rfl) rfl rfl) rfl (entl_new (use_own rfl) rfl (Nat.le_of_eq rfl) (rcs_str (fun _ _ => rfl) (rcs_int (fun _ _ => rfl) (rcs_int (fun _ _ => rfl) (rcs_int (fun _ _ => rfl) rcs_nil)))) (entl_bor (use_lo rfl) rfl rfl (entl_bor (use_lo rfl) rfl rfl entl_nil))))
theorem a37 (al nl ml : Nat) (tl : Nat → ByteArray) (vl gl wl : NI) (ao no mo : Nat) (to : NI) {r : Rt37} (h : Goes ((q37 al nl ml tl vl gl wl ao no mo to)) ((p37 al nl ml tl vl gl wl ao no mo to)) r) : CallR Try.prog 37 [.loose ⟨0, 4, al, 0⟩ nl, .loose ⟨1, 1, ao, 0⟩ no] [[(0, (false, .cols ml [.str tl, .int .i64 vl, .int .i64 gl, .int .i64 wl])), (1, (false, .cols mo [.int .i64 to]))]] 2 ((V37 al nl ml tl vl gl wl ao no mo to) r) ((J37 al nl ml tl vl gl wl ao no mo to) r) 400 ∧ ∃ F, Try.prog.funcs[37]? = some F ∧ F.body.isSome = true ∧ (F.name == "runtime.NumGoroutine") = false := by
  refine dec_calls (sy := true) (f := 37) (lo := 2) (hi := 400) (H := [[(0, (false, .cols ml [.str tl, .int .i64 vl, .int .i64 gl, .int .i64 wl])), (1, (false, .cols mo [.int .i64 to]))]]) (args := [.loose ⟨0, 4, al, 0⟩ nl, .loose ⟨1, 1, ao, 0⟩ no]) Try.envOk Try.mixed noX_ok ((I37 al nl ml tl vl gl wl ao no mo to)) ((V37 al nl ml tl vl gl wl ao no mo to)) (J37 al nl ml tl vl gl wl ao no mo to) (fn := mkFn Try.f37) (ts := [0, 1, 5, 6]) (n := 400) rfl (by decide) (by simp) (names_of rfl) ?_ ?_ ?_ h
  · intro s; cases s <;> exact ⟨hd_ok _ _, by simp [I37], names_of rfl, Nat.le_of_ble_eq_true rfl⟩
  · intro Kst Kret x hS hR h
    exact Holds.eq (te37 cond Kst Kret al nl ml tl vl gl wl ao no mo to) (be37 al nl ml tl vl gl wl ao no mo to Kst Kret x hS hR h)
  · intro Kst Kret x hS hR s h
    cases s with
    | h0 x0 x1 => exact Holds.eq (t37_0 cond Kst Kret al nl ml tl vl gl wl ao no mo to x0 x1) (b37_0 al nl ml tl vl gl wl ao no mo to Kst Kret x hS hR x0 x1 h)
noncomputable abbrev w37 {α : Type} (g : Nat → Nat → Nat → (Nat → ByteArray) → (Nat → Int) → (Nat → Int) → (Nat → Int) → Nat → Nat → Nat → (Nat → Int) → α) (x : (Nat × Nat × Nat × (Nat → ByteArray) × (Nat → Int) × (Nat → Int) × (Nat → Int) × Unit) × (Nat × Nat × Nat × (Nat → Int) × Unit) × Unit) : α := g x.1.1 x.1.2.1 x.1.2.2.1 x.1.2.2.2.1 x.1.2.2.2.2.1 x.1.2.2.2.2.2.1 x.1.2.2.2.2.2.2.1 x.2.1.1 x.2.1.2.1 x.2.1.2.2.1 x.2.1.2.2.2.1
noncomputable def k37  : Con := ⟨37, [.one (.list [.str, .int .i64, .int .i64, .int .i64]), .one (.list [.int .i64])], w37 (fun al nl ml tl vl gl wl ao no mo to => decide (al + nl ≤ ml ∧ ao + no ≤ mo ∧ no ≤ 1000 ∧ S.inR no nl (fun j => to (j + ao)) = true)), w37 (fun al nl ml tl vl gl wl ao no mo to => (V37 al nl ml tl vl gl wl ao no mo to) (S.mkl no fun j => (tl ((to (j + ao)).toNat + al), vl ((to (j + ao)).toNat + al), gl ((to (j + ao)).toNat + al), wl ((to (j + ao)).toNat + al)))), w37 (fun al nl ml tl vl gl wl ao no mo to => (N37 al nl ml tl vl gl wl ao no mo to) (S.mkl no fun j => (tl ((to (j + ao)).toNat + al), vl ((to (j + ao)).toNat + al), gl ((to (j + ao)).toNat + al), wl ((to (j + ao)).toNat + al)))), fun _ _ => .dead⟩
theorem s37' (al nl ml : Nat) (tl : Nat → ByteArray) (vl gl wl : Nat → Int) (ao no mo : Nat) (to : Nat → Int) (hp : al + nl ≤ ml ∧ ao + no ≤ mo ∧ no ≤ 1000 ∧ S.inR no nl (fun j => to (j + ao)) = true) : ∀ k i : Nat, i + k = no → Comes (q37 al nl ml tl vl gl wl ao no mo to) (.h0 (i : Int) (S.mkl i fun j => (tl ((to (j + ao)).toNat + al), vl ((to (j + ao)).toNat + al), gl ((to (j + ao)).toNat + al), wl ((to (j + ao)).toNat + al)))) (S.mkl no fun j => (tl ((to (j + ao)).toNat + al), vl ((to (j + ao)).toNat + al), gl ((to (j + ao)).toNat + al), wl ((to (j + ao)).toNat + al))) := by
  obtain ⟨hp1, hp2, hp3, hI⟩ := hp
  have hI := of_decide_eq_true hI
  intro k
  induction k with
  | zero =>
    intro i hi
    obtain rfl : i = no := by omega
    apply Comes.of
    rw [q37]
    ((with_reducible refine goes_no ?_ ?_); focus (exact decide_eq_false (by omega)))
    exact goes_inr.mpr rfl
  | succ k ih =>
    intro i hi
    have ih := ih (i + 1) (by omega)
    have h2 : 0 ≤ to (i + ao) ∧ to (i + ao) < (nl : Int) := hI i (by omega)
    have hL : (S.mkl i fun j => (tl ((to (j + ao)).toNat + al), vl ((to (j + ao)).toNat + al), gl ((to (j + ao)).toNat + al), wl ((to (j + ao)).toNat + al))).length = i := mkl_len
    have e : (S.mkl (i + 1) fun j => (tl ((to (j + ao)).toNat + al), vl ((to (j + ao)).toNat + al), gl ((to (j + ao)).toNat + al), wl ((to (j + ao)).toNat + al))) = S.snoc (S.mkl i fun j => (tl ((to (j + ao)).toNat + al), vl ((to (j + ao)).toNat + al), gl ((to (j + ao)).toNat + al), wl ((to (j + ao)).toNat + al))) (tl ((to (i + ao)).toNat + al), vl ((to (i + ao)).toNat + al), gl ((to (i + ao)).toNat + al), wl ((to (i + ao)).toNat + al)) := mkl_succ
    rw [e] at ih
    apply Comes.of
    rw [q37]
    rw [hL, Int.toNat_natCast]
    generalize to (i + ao) = y at *
    ((with_reducible refine goes_ok ?_ ?_); focus (exact decide_eq_true (by omega)))
    ((with_reducible refine goes_ok ?_ ?_); focus (exact decide_eq_true (by omega)))
    ((with_reducible refine goes_ok ?_ ?_); focus (exact decide_eq_true (by omega)))
    ((with_reducible refine goes_ok ?_ ?_); focus (exact decide_eq_true (by omega)))
    ((with_reducible refine goes_ok ?_ ?_); focus (exact decide_eq_true (by omega)))
    ((with_reducible refine goes_ok ?_ ?_); focus (exact decide_eq_true (by omega)))
    ((with_reducible refine goes_ok ?_ ?_); focus (exact decide_eq_true (by omega)))
    ((with_reducible refine goes_ok ?_ ?_); focus (rw [lim64]; exact decide_eq_true (by omega)))
    exact ih
theorem s37 (al nl ml : Nat) (tl : Nat → ByteArray) (vl gl wl : Nat → Int) (ao no mo : Nat) (to : Nat → Int) (hp : al + nl ≤ ml ∧ ao + no ≤ mo ∧ no ≤ 1000 ∧ S.inR no nl (fun j => to (j + ao)) = true) : Goes ((q37 al nl ml tl vl gl wl ao no mo to)) ((p37 al nl ml tl vl gl wl ao no mo to)) (S.mkl no fun j => (tl ((to (j + ao)).toNat + al), vl ((to (j + ao)).toNat + al), gl ((to (j + ao)).toNat + al), wl ((to (j + ao)).toNat + al))) := by
  exact s37' al nl ml tl vl gl wl ao no mo to hp no 0 (Nat.zero_add _)
theorem k37_ok  : k37.ok Try.prog := by
  intro x hx
  obtain ⟨⟨al, nl, ml, tl, vl, gl, wl, _⟩, ⟨ao, no, mo, to, _⟩, _⟩ := x
  obtain ⟨h1, h2⟩ := a37 al nl ml tl vl gl wl ao no mo to (s37 al nl ml tl vl gl wl ao no mo to (of_dec hx rfl))
  exact ⟨⟨400, (by decide : 2 + 1 + 1 ≤ 400), h1⟩, h2⟩
noncomputable def xI8 (test : Bool → Prop → Prop → Prop) : Ext := consX test [k18, k52, k37]
theorem xI8_ok  : ExtOk Try.prog (xI8 cond) := consX_ok ⟨k18_ok, k52_ok, k37_ok, trivial⟩
theorem ins_mkl  {A B : List Int} {x : Int} {n k : Nat} (hn : n = (A ++ B).length) (hk : k = A.length) : (S.mkl (0 + k + 1 + (n - k)) fun j => bif Nat.blt j (0 + k + 1) then bif Nat.blt j (0 + k) then S.at' (A ++ B) j else x else S.at' (A ++ B) (j - (0 + k + 1) + k)) = A ++ x :: B := by
  subst hn hk
  have hl : (A ++ B).length = A.length + B.length := List.length_append
  refine mkl_eq (by simp only [List.length_append, List.length_cons]; omega) fun t ht => ?_
  by_cases h1 : t < A.length
  · have e1 : Nat.blt t (0 + A.length + 1) = true := by rw [Nat.blt_eq]; omega
    have e2 : Nat.blt t (0 + A.length) = true := by rw [Nat.blt_eq]; omega
    rw [e1, e2, cond_true, cond_true, at_app_lt h1, at_app_lt h1]
  · by_cases h2 : t = A.length
    · subst h2
      have e1 : Nat.blt A.length (0 + A.length + 1) = true := by rw [Nat.blt_eq]; omega
      have e2 : Nat.blt A.length (0 + A.length) = false := by cases hb : Nat.blt A.length (0 + A.length); rfl; rw [Nat.blt_eq] at hb; omega
      rw [e1, e2, cond_true, cond_false, at_app_ge (Nat.le_refl _), Nat.sub_self]; rfl
    · have e1 : Nat.blt t (0 + A.length + 1) = false := by cases hb : Nat.blt t (0 + A.length + 1); rfl; rw [Nat.blt_eq] at hb; omega
      rw [e1, cond_false, at_app_ge (by omega), at_app_ge (by omega)]
      obtain ⟨q, hq⟩ : ∃ q, t - A.length = q + 1 := ⟨t - A.length - 1, by omega⟩
      rw [hq, show t - (0 + A.length + 1) + A.length - A.length = q by omega]; rfl
inductive St34 where
  | h0 (x0 : Int) (x1 : List Int)
  | h1 (x0 : Int) (x1 : Int) (x2 : List Int)
abbrev Rt34  := Int × List Int
noncomputable def V34 (al nl ml : Nat) (tl : Nat → ByteArray) (vl gl wl : NI) (r : Rt34) : PV := PV.tup [PV.own (2) (1) (List.length r.2), PV.int .i64 r.1]
noncomputable def N34 (al nl ml : Nat) (tl : Nat → ByteArray) (vl gl wl : NI) (r : Rt34) : List Blk := [Blk.cols (List.length r.2) [Col.int .i64 fun j => S.at' r.2 j]]
noncomputable def I34 (al nl ml : Nat) (tl : Nat → ByteArray) (vl gl wl : NI) : St34 → Hd
  | .h0 x0 x1 => ⟨hd Try.f34 0, [PV.loose (PA.mk (0) (4) al (0)) nl,
 PV.own (1) (1) (List.length x1), PV.int .i64 x0, PV.unk], [[(1, (true, Blk.cols (List.length x1) [Col.int .i64 fun j => S.at' x1 j]))], [(0, (false, .cols ml [.str tl, .int .i64 vl, .int .i64 gl, .int .i64 wl]))]], 2⟩
  | .h1 x0 x1 x2 => ⟨hd Try.f34 1, [PV.loose (PA.mk (0) (4) al (0)) nl,
 PV.own (1) (1) (List.length x2), PV.int .i64 x0, PV.int .i64 x1], [[(1, (true, Blk.cols (List.length x2) [Col.int .i64 fun j => S.at' x2 j]))], [(0, (false, .cols ml [.str tl, .int .i64 vl, .int .i64 gl, .int .i64 wl]))]], 2⟩
noncomputable def q34 (al nl ml : Nat) (tl : Nat → ByteArray) (vl gl wl : NI) : St34 → Option (St34 ⊕ Rt34) | .h0 x0 x1 => bif (decide (x0 < (↑nl : Int))) then (some (.inl (.h1 (x0) ((0 : Int)) (x1)))) else (bif (decide (al + nl ≤ ml ∧ 0 + List.length x1 ≤ List.length x1 ∧ List.length x1 ≤ 1000 ∧ (S.inR (List.length x1) nl fun j => S.at' x1 j) = true)) then (bif (decide (0 + List.length (S.mkl (List.length x1) fun j => (tl (Int.toNat (S.at' x1 j) + al), vl (Int.toNat (S.at' x1 j) + al), gl (Int.toNat (S.at' x1 j) + al), wl (Int.toNat (S.at' x1 j) + al))) ≤ List.length (S.mkl (List.length x1) fun j => (tl (Int.toNat (S.at' x1 j) + al), vl (Int.toNat (S.at' x1 j) + al), gl (Int.toNat (S.at' x1 j) + al), wl (Int.toNat (S.at' x1 j) + al))) ∧ (S.okT (List.length (S.mkl (List.length x1) fun j => (tl (Int.toNat (S.at' x1 j) + al), vl (Int.toNat (S.at' x1 j) + al), gl (Int.toNat (S.at' x1 j) + al), wl (Int.toNat (S.at' x1 j) + al)))) (fun j => Prod.fst (Prod.snd (S.at' (S.mkl (List.length x1) fun j => (tl (Int.toNat (S.at' x1 j) + al), vl (Int.toNat (S.at' x1 j) + al), gl (Int.toNat (S.at' x1 j) + al), wl (Int.toNat (S.at' x1 j) + al))) j))) (fun j => Prod.fst (Prod.snd (Prod.snd (S.at' (S.mkl (List.length x1) fun j => (tl (Int.toNat (S.at' x1 j) + al), vl (Int.toNat (S.at' x1 j) + al), gl (Int.toNat (S.at' x1 j) + al), wl (Int.toNat (S.at' x1 j) + al))) j)))) fun j => Prod.snd (Prod.snd (Prod.snd (S.at' (S.mkl (List.length x1) fun j => (tl (Int.toNat (S.at' x1 j) + al), vl (Int.toNat (S.at' x1 j) + al), gl (Int.toNat (S.at' x1 j) + al), wl (Int.toNat (S.at' x1 j) + al))) j)))) = true)) then (bif (decide ((S.misT (List.length (S.mkl (List.length x1) fun j => (tl (Int.toNat (S.at' x1 j) + al), vl (Int.toNat (S.at' x1 j) + al), gl (Int.toNat (S.at' x1 j) + al), wl (Int.toNat (S.at' x1 j) + al)))) (fun j => Prod.fst (Prod.snd (S.at' (S.mkl (List.length x1) fun j => (tl (Int.toNat (S.at' x1 j) + al), vl (Int.toNat (S.at' x1 j) + al), gl (Int.toNat (S.at' x1 j) + al), wl (Int.toNat (S.at' x1 j) + al))) j))) (fun j => Prod.fst (Prod.snd (Prod.snd (S.at' (S.mkl (List.length x1) fun j => (tl (Int.toNat (S.at' x1 j) + al), vl (Int.toNat (S.at' x1 j) + al), gl (Int.toNat (S.at' x1 j) + al), wl (Int.toNat (S.at' x1 j) + al))) j)))) fun j => Prod.snd (Prod.snd (Prod.snd (S.at' (S.mkl (List.length x1) fun j => (tl (Int.toNat (S.at' x1 j) + al), vl (Int.toNat (S.at' x1 j) + al), gl (Int.toNat (S.at' x1 j) + al), wl (Int.toNat (S.at' x1 j) + al))) j)))) ≥ 0)) then (some (.inr ((10 : Int), []))) else (some (.inr ((0 : Int), x1)))) else (none)) else (none)) | .h1 x0 x1 x2 => bif (decide (x1 < (↑(List.length x2) : Int))) then (bif (decide ((0 : Int) ≤ x1 ∧ x1 < (↑(List.length x2) : Int))) then (bif (decide (Int.toNat x1 < List.length x2)) then (bif (decide ((0 : Int) ≤ S.at' x2 (Int.toNat x1) ∧ S.at' x2 (Int.toNat x1) < (↑nl : Int))) then (bif (decide (Int.toNat (S.at' x2 (Int.toNat x1)) + al < ml)) then (bif (decide ((0 : Int) ≤ x0 ∧ x0 < (↑nl : Int))) then (bif (decide (Int.toNat x0 + al < ml)) then (bif (decide (wl (Int.toNat (S.at' x2 (Int.toNat x1)) + al) ≤ wl (Int.toNat x0 + al))) then (bif (lim .i64 (x1 + 1)) then (some (.inl (.h1 (x0) (x1 + 1) (x2)))) else (none)) else (bif (decide ((0 : Int) ≤ x1 ∧ x1 ≤ (↑(List.length x2) : Int))) then (bif (decide (0 + Int.toNat x1 ≤ 1000000)) then (bif (decide (0 + Int.toNat x1 ≤ List.length x2)) then (bif (decide (0 + Int.toNat x1 + 1 ≤ 1000000)) then (bif (decide (0 + Int.toNat x1 ≤ 0 + Int.toNat x1)) then (bif (decide ((0 : Int) ≤ x1 ∧ x1 ≤ (↑(List.length x2) : Int) ∧ (↑(List.length x2) : Int) ≤ (↑(List.length x2) : Int))) then (bif (decide (0 + Int.toNat x1 + 1 + (List.length x2 - Int.toNat x1) ≤ 1000000)) then (bif (decide (0 + Int.toNat x1 + 1 ≤ 0 + Int.toNat x1 + 1)) then (bif (decide (Int.toNat x1 + (List.length x2 - Int.toNat x1) ≤ List.length x2)) then (bif (lim .i64 (x0 + 1)) then (some (.inl (.h0 (x0 + 1) (S.mkl (0 + Int.toNat x1 + 1 + (List.length x2 - Int.toNat x1)) fun j => bif Nat.blt j (0 + Int.toNat x1 + 1) then bif Nat.blt j (0 + Int.toNat x1) then S.at' x2 j else x0 else S.at' x2 (j - (0 + Int.toNat x1 + 1) + Int.toNat x1))))) else (none)) else (none)) else (none)) else (none)) else (none)) else (none)) else (none)) else (none)) else (none)) else (none))) else (none)) else (none)) else (none)) else (none)) else (none)) else (none)) else (bif (decide ((0 : Int) ≤ x1 ∧ x1 ≤ (↑(List.length x2) : Int))) then (bif (decide (0 + Int.toNat x1 ≤ 1000000)) then (bif (decide (0 + Int.toNat x1 ≤ List.length x2)) then (bif (decide (0 + Int.toNat x1 + 1 ≤ 1000000)) then (bif (decide (0 + Int.toNat x1 ≤ 0 + Int.toNat x1)) then (bif (decide ((0 : Int) ≤ x1 ∧ x1 ≤ (↑(List.length x2) : Int) ∧ (↑(List.length x2) : Int) ≤ (↑(List.length x2) : Int))) then (bif (decide (0 + Int.toNat x1 + 1 + (List.length x2 - Int.toNat x1) ≤ 1000000)) then (bif (decide (0 + Int.toNat x1 + 1 ≤ 0 + Int.toNat x1 + 1)) then (bif (decide (Int.toNat x1 + (List.length x2 - Int.toNat x1) ≤ List.length x2)) then (bif (lim .i64 (x0 + 1)) then (some (.inl (.h0 (x0 + 1) (S.mkl (0 + Int.toNat x1 + 1 + (List.length x2 - Int.toNat x1)) fun j => bif Nat.blt j (0 + Int.toNat x1 + 1) then bif Nat.blt j (0 + Int.toNat x1) then S.at' x2 j else x0 else S.at' x2 (j - (0 + Int.toNat x1 + 1) + Int.toNat x1))))) else (none)) else (none)) else (none)) else (none)) else (none)) else (none)) else (none)) else (none)) else (none)) else (none))
noncomputable def p34 (al nl ml : Nat) (tl : Nat → ByteArray) (vl gl wl : NI) : Option (St34 ⊕ Rt34) := bif (decide (al + nl ≤ ml)) then (bif ((S.tskS nl (fun j => tl (j + al)) (fun j => vl (j + al)) (fun j => gl (j + al)) fun j => wl (j + al)) != 0) then (some (.inr (S.tskS nl (fun j => tl (j + al)) (fun j => vl (j + al)) (fun j => gl (j + al)) fun j => wl (j + al), []))) else (some (.inl (.h0 ((0 : Int)) ([]))))) else (none)
def Te34 (test : TT) (Kst : KS) (Kret : KR) (al nl ml : Nat) (tl : Nat → ByteArray) (vl gl wl : NI) : Prop := test (decide (al + nl ≤ ml)) (test ((S.tskS nl (fun j => tl (j + al)) (fun j => vl (j + al)) (fun j => gl (j + al)) fun j => wl (j + al)) != 0) (Kret (PV.tup [PV.nils, PV.int .i64 (S.tskS nl (fun j => tl (j + al)) (fun j => vl (j + al)) (fun j => gl (j + al)) fun j => wl (j + al))]) ([[(0, false, Blk.cols ml [Col.str tl, Col.int .i64 vl, Col.int .i64 gl, Col.int .i64 wl])]]) (2)) (Kst (hd Try.f34 0) ([PV.loose (PA.mk (0) (4) al (0)) nl, PV.nils, PV.int .i64 (0 : Int), PV.unk]) ([[(0, false, Blk.cols ml [Col.str tl, Col.int .i64 vl, Col.int .i64 gl, Col.int .i64 wl])]]) (2))) (False)
theorem te34 (test : TT) (Kst : KS) (Kret : KR) (al nl ml : Nat) (tl : Nat → ByteArray) (vl gl wl : NI) : run test Try.env true (xI8 test) true 400 ⟨34, [.cd (mkFn Try.f34).body], argT 0 [.loose ⟨0, 4, al, 0⟩ nl], [[], [(0, (false, .cols ml [.str tl, .int .i64 vl, .int .i64 gl, .int .i64 wl]))]], 1⟩ (proj 1 [0, 5, 6, 7] Kst Kret) =
  Te34 test Kst Kret al nl ml tl vl gl wl := by kernel_rfl
noncomputable abbrev u34_0_0 (al : Nat) (tl : Nat → ByteArray) (vl gl wl : Nat → Int) (x1 : List Int) := (S.mkl (List.length x1) fun j => (tl (Int.toNat (S.at' x1 j) + al), vl (Int.toNat (S.at' x1 j) + al), gl (Int.toNat (S.at' x1 j) + al), wl (Int.toNat (S.at' x1 j) + al)))
def T34_0 (test : TT) (Kst : KS) (Kret : KR) (al nl ml : Nat) (tl : Nat → ByteArray) (vl gl wl : NI) (x0 : Int) (x1 : List Int) : Prop := test (decide (x0 < (↑nl : Int))) (Kst (hd Try.f34 1) ([PV.loose (PA.mk (0) (4) al (0)) nl, PV.own (1) (1) (List.length x1), PV.int .i64 x0, PV.int .i64 (0 : Int)]) ([[(0, false, Blk.cols ml [Col.str tl, Col.int .i64 vl, Col.int .i64 gl, Col.int .i64 wl]), (1, true, Blk.cols (List.length x1) [Col.int .i64 fun j => S.at' x1 j])]]) (2)) (test (decide (al + nl ≤ ml ∧ 0 + List.length x1 ≤ List.length x1 ∧ List.length x1 ≤ 1000 ∧ (S.inR (List.length x1) nl fun j => S.at' x1 j) = true)) (test (decide (0 + List.length (u34_0_0 al tl vl gl wl x1) ≤ List.length (u34_0_0 al tl vl gl wl x1) ∧ (S.okT (List.length (u34_0_0 al tl vl gl wl x1)) (fun j => (S.at' (u34_0_0 al tl vl gl wl x1) j).2.1) (fun j => (S.at' (u34_0_0 al tl vl gl wl x1) j).2.2.1) fun j => (S.at' (u34_0_0 al tl vl gl wl x1) j).2.2.2) = true)) (test (decide ((S.misT (List.length (u34_0_0 al tl vl gl wl x1)) (fun j => (S.at' (u34_0_0 al tl vl gl wl x1) j).2.1) (fun j => (S.at' (u34_0_0 al tl vl gl wl x1) j).2.2.1) fun j => (S.at' (u34_0_0 al tl vl gl wl x1) j).2.2.2) ≥ 0)) (Kret (PV.tup [PV.nils, PV.int .i64 (10 : Int)]) ([[(0, false, Blk.cols ml [Col.str tl, Col.int .i64 vl, Col.int .i64 gl, Col.int .i64 wl])]]) (5)) (Kret (PV.tup [PV.own (1) (1) (List.length x1), PV.int .i64 (0 : Int)]) ([[(0, false, Blk.cols ml [Col.str tl, Col.int .i64 vl, Col.int .i64 gl, Col.int .i64 wl]), (1, true, Blk.cols (List.length x1) [Col.int .i64 fun j => S.at' x1 j])]]) (5))) (False)) (False))
theorem t34_0 (test : TT) (Kst : KS) (Kret : KR) (al nl ml : Nat) (tl : Nat → ByteArray) (vl gl wl : NI) (x0 : Int) (x1 : List Int) : run test Try.env true (xI8 test) true 400 ⟨34, hd Try.f34 0, zipT [0, 5, 6, 7] [PV.loose (PA.mk (0) (4) al (0)) nl,
 PV.own (1) (1) (List.length x1), PV.int .i64 x0, PV.unk], [[(1, (true, Blk.cols (List.length x1) [Col.int .i64 fun j => S.at' x1 j]))], [(0, (false, .cols ml [.str tl, .int .i64 vl, .int .i64 gl, .int .i64 wl]))]], 2⟩ (proj 1 [0, 5, 6, 7] Kst Kret) =
  T34_0 test Kst Kret al nl ml tl vl gl wl x0 x1 := by kernel_rfl
noncomputable abbrev u34_1_0 (ml : Nat) (tl : Nat → ByteArray) (vl gl wl : Nat → Int) (x0 x1 : Int) (x2 : List Int) := ([[(0, false, Blk.cols ml [Col.str tl, Col.int IntKind.i64 vl, Col.int IntKind.i64 gl, Col.int IntKind.i64 wl]), (6, true, Blk.cols (0 + Int.toNat x1 + 1 + (List.length x2 - Int.toNat x1)) [Col.int IntKind.i64 fun j => bif Nat.blt j (0 + Int.toNat x1 + 1) then bif Nat.blt j (0 + Int.toNat x1) then S.at' x2 j else x0 else S.at' x2 (j - (0 + Int.toNat x1 + 1) + Int.toNat x1)])]])
def T34_1 (test : TT) (Kst : KS) (Kret : KR) (al nl ml : Nat) (tl : Nat → ByteArray) (vl gl wl : NI) (x0 x1 : Int) (x2 : List Int) : Prop := test (decide (x1 < (↑(List.length x2) : Int))) (test (decide ((0 : Int) ≤ x1 ∧ x1 < (↑(List.length x2) : Int))) (test (decide (Int.toNat x1 < List.length x2)) (test (decide ((0 : Int) ≤ S.at' x2 (Int.toNat x1) ∧ S.at' x2 (Int.toNat x1) < (↑nl : Int))) (test (decide (Int.toNat (S.at' x2 (Int.toNat x1)) + al < ml)) (test (decide ((0 : Int) ≤ x0 ∧ x0 < (↑nl : Int))) (test (decide (Int.toNat x0 + al < ml)) (test (decide (wl (Int.toNat (S.at' x2 (Int.toNat x1)) + al) ≤ wl (Int.toNat x0 + al))) (test (lim .i64 (x1 + 1)) (Kst (hd Try.f34 1) ([PV.loose (PA.mk (0) (4) al (0)) nl, PV.own (1) (1) (List.length x2), PV.int .i64 x0, PV.int .i64 (x1 + 1)]) ([[(0, false, Blk.cols ml [Col.str tl, Col.int .i64 vl, Col.int .i64 gl, Col.int .i64 wl]), (1, true, Blk.cols (List.length x2) [Col.int .i64 fun j => S.at' x2 j])]]) (2)) (False)) (test (decide ((0 : Int) ≤ x1 ∧ x1 ≤ (↑(List.length x2) : Int))) (test (decide (0 + Int.toNat x1 ≤ 1000000)) (test (true) (test (decide (0 + Int.toNat x1 ≤ List.length x2)) (test (decide (0 + Int.toNat x1 + 1 ≤ 1000000)) (test (decide (0 + Int.toNat x1 ≤ 0 + Int.toNat x1)) (test (true) (test (decide ((0 : Int) ≤ x1 ∧ x1 ≤ (↑(List.length x2) : Int) ∧ (↑(List.length x2) : Int) ≤ (↑(List.length x2) : Int))) (test (decide (0 + Int.toNat x1 + 1 + (List.length x2 - Int.toNat x1) ≤ 1000000)) (test (decide (0 + Int.toNat x1 + 1 ≤ 0 + Int.toNat x1 + 1)) (test (decide (Int.toNat x1 + (List.length x2 - Int.toNat x1) ≤ List.length x2)) (test (lim .i64 (x0 + 1)) (Kst (hd Try.f34 0) ([PV.loose (PA.mk (0) (4) al (0)) nl, PV.own (6) (1) (0 + Int.toNat x1 + 1 + (List.length x2 - Int.toNat x1)), PV.int .i64 (x0 + 1), PV.int .i64 x1]) (u34_1_0 ml tl vl gl wl x0 x1 x2) (7)) (False)) (False)) (False)) (False)) (False)) (False)) (False)) (False)) (False)) (False)) (False)) (False))) (False)) (False)) (False)) (False)) (False)) (False)) (test (decide ((0 : Int) ≤ x1 ∧ x1 ≤ (↑(List.length x2) : Int))) (test (decide (0 + Int.toNat x1 ≤ 1000000)) (test (true) (test (decide (0 + Int.toNat x1 ≤ List.length x2)) (test (decide (0 + Int.toNat x1 + 1 ≤ 1000000)) (test (decide (0 + Int.toNat x1 ≤ 0 + Int.toNat x1)) (test (true) (test (decide ((0 : Int) ≤ x1 ∧ x1 ≤ (↑(List.length x2) : Int) ∧ (↑(List.length x2) : Int) ≤ (↑(List.length x2) : Int))) (test (decide (0 + Int.toNat x1 + 1 + (List.length x2 - Int.toNat x1) ≤ 1000000)) (test (decide (0 + Int.toNat x1 + 1 ≤ 0 + Int.toNat x1 + 1)) (test (decide (Int.toNat x1 + (List.length x2 - Int.toNat x1) ≤ List.length x2)) (test (lim .i64 (x0 + 1)) (Kst (hd Try.f34 0) ([PV.loose (PA.mk (0) (4) al (0)) nl, PV.own (6) (1) (0 + Int.toNat x1 + 1 + (List.length x2 - Int.toNat x1)), PV.int .i64 (x0 + 1), PV.int .i64 x1]) (u34_1_0 ml tl vl gl wl x0 x1 x2) (7)) (False)) (False)) (False)) (False)) (False)) (False)) (False)) (False)) (False)) (False)) (False)) (False))
theorem t34_1 (test : TT) (Kst : KS) (Kret : KR) (al nl ml : Nat) (tl : Nat → ByteArray) (vl gl wl : NI) (x0 x1 : Int) (x2 : List Int) : run test Try.env true (xI8 test) true 400 ⟨34, hd Try.f34 1, zipT [0, 5, 6, 7] [PV.loose (PA.mk (0) (4) al (0)) nl,
 PV.own (1) (1) (List.length x2), PV.int .i64 x0, PV.int .i64 x1], [[(1, (true, Blk.cols (List.length x2) [Col.int .i64 fun j => S.at' x2 j]))], [(0, (false, .cols ml [.str tl, .int .i64 vl, .int .i64 gl, .int .i64 wl]))]], 2⟩ (proj 1 [0, 5, 6, 7] Kst Kret) =
  T34_1 test Kst Kret al nl ml tl vl gl wl x0 x1 x2 := by kernel_rfl
noncomputable abbrev J34 (al nl ml : Nat) (tl : Nat → ByteArray) (vl : NI) (gl : NI) (wl : NI) : Rt34 → Heap := fun r => [newL (1 + 1) ((N34 al nl ml tl vl gl wl) r) ++ [(0, (false, .cols ml [.str tl, .int .i64 vl, .int .i64 gl, .int .i64 wl]))]]
attribute [local irreducible] Int.subNatNat in
theorem be34 (al nl ml : Nat) (tl : Nat → ByteArray) (vl gl wl : NI) (Kst : KS) (Kret : KR) (x : St34 ⊕ Rt34) (hS : HS 1 400 ((I34 al nl ml tl vl gl wl)) Kst x) (hR : HR 1 400 ((V34 al nl ml tl vl gl wl)) (J34 al nl ml tl vl gl wl) Kret x) (h : p34 al nl ml tl vl gl wl = some x) : Te34 cond Kst Kret al nl ml tl vl gl wl := by
  unfold Te34
  unfold p34 at h
  exact bif_split h (fun c0 h => bif_split h (fun c1 h => ret_at hR _ h (fun n => bif Nat.beq n 2 then 399 else n) rfl rfl rfl (rn_tup ⟨(rn_own_nils rfl), (rn_int rfl), trivial⟩) rfl (entl_fresh (use_own rfl) (fresh_ok rfl) (entl_bor (use_lo rfl) rfl rfl entl_nil))) (fun c1 h => stop_at hS _ h (fun n => bif Nat.beq n 1 then 399 else n) rfl rfl rfl ⟨(rn_loose (use_lo rfl) rfl rfl rfl), ⟨(rn_own_nils rfl), ⟨(rn_int rfl), ⟨(rn_unk _), trivial⟩⟩⟩⟩ rfl (entl_fresh (use_own rfl) (fresh_ok rfl) (entl_bor (use_lo rfl) rfl rfl entl_nil)))) (fun c0 h => no_some h)
attribute [local irreducible] Int.subNatNat in
theorem b34_0 (al nl ml : Nat) (tl : Nat → ByteArray) (vl gl wl : NI) (Kst : KS) (Kret : KR) (x : St34 ⊕ Rt34) (hS : HS 1 400 ((I34 al nl ml tl vl gl wl)) Kst x) (hR : HR 1 400 ((V34 al nl ml tl vl gl wl)) (J34 al nl ml tl vl gl wl) Kret x) (x0 : Int) (x1 : List Int) (h : q34 al nl ml tl vl gl wl (.h0 x0 x1) = some x) : T34_0 cond Kst Kret al nl ml tl vl gl wl x0 x1 := by
  unfold T34_0
  rw [q34] at h
  exact bif_split h (fun c0 h => stop_at hS _ h (fun n => bif Nat.beq n 1 then 1 else n) rfl rfl rfl ⟨(rn_loose (use_lo rfl) rfl rfl rfl), ⟨(rn_own (use_own rfl) rfl rfl), ⟨(rn_int rfl), ⟨(rn_int rfl), trivial⟩⟩⟩⟩ rfl (entl_new (use_own rfl) rfl (Nat.le_of_eq rfl) (rcs_int (fun _ _ => rfl) rcs_nil) (entl_bor (use_lo rfl) rfl rfl entl_nil))) (fun c0 h => bif_split h (fun c1 h => bif_split h (fun c2 h => bif_split h (fun c3 h => ret_at hR _ h (fun n => bif Nat.beq n 2 then 399 else n) rfl rfl rfl (rn_tup ⟨(rn_own_nils rfl), (rn_int rfl), trivial⟩) rfl (entl_fresh (use_own rfl) (fresh_ok rfl) (entl_bor (use_lo rfl) rfl rfl entl_nil))) (fun c3 h => ret_at hR _ h (fun n => bif Nat.beq n 2 then 1 else n) rfl rfl rfl (rn_tup ⟨(rn_own (use_own rfl) rfl rfl), (rn_int rfl), trivial⟩) rfl (entl_new (use_own rfl) rfl (Nat.le_of_eq rfl) (rcs_int (fun _ _ => rfl) rcs_nil) (entl_bor (use_lo rfl) rfl rfl entl_nil)))) (fun c2 h => no_some h)) (fun c1 h => no_some h))
attribute [local irreducible] Int.subNatNat in
theorem b34_1 (al nl ml : Nat) (tl : Nat → ByteArray) (vl gl wl : NI) (Kst : KS) (Kret : KR) (x : St34 ⊕ Rt34) (hS : HS 1 400 ((I34 al nl ml tl vl gl wl)) Kst x) (hR : HR 1 400 ((V34 al nl ml tl vl gl wl)) (J34 al nl ml tl vl gl wl) Kret x) (x0 x1 : Int) (x2 : List Int) (h : q34 al nl ml tl vl gl wl (.h1 x0 x1 x2) = some x) : T34_1 cond Kst Kret al nl ml tl vl gl wl x0 x1 x2 := by
  unfold T34_1
  rw [q34] at h
  refine bif_split h (fun c0 h => bif_split h (fun c1 h => bif_split h (fun c2 h => bif_split h (fun c3 h => bif_split h (fun c4 h => bif_split h (fun c5 h => bif_split h (fun c6 h => bif_split h (fun c7 h => bif_split h (fun c8 h => stop_at hS _ h (fun n => bif Nat.beq n 1 then 1 else n) rfl rfl rfl ⟨(rn_loose (use_lo rfl) rfl rfl rfl), ⟨(rn_own (use_own rfl) rfl rfl), ⟨(rn_int rfl), ⟨(rn_int rfl), trivial⟩⟩⟩⟩ rfl (entl_new (use_own rfl) rfl (Nat.le_of_eq rfl) (rcs_int (fun _ _ => rfl) rcs_nil) (entl_bor (use_lo rfl) rfl rfl entl_nil))) (fun c8 h => ?_)) (fun c7 h => bif_split h (fun c8 h => bif_split h (fun c9 h => cond_yes rfl (bif_split h (fun c10 h => bif_split h (fun c11 h => bif_split h (fun c12 h => cond_yes rfl (bif_split h (fun c13 h => bif_split h (fun c14 h => bif_split h (fun c15 h => bif_split h (fun c16 h => bif_split h (fun c17 h => ?_) (fun c17 h => ?_)) (fun c16 h => ?_)) (fun c15 h => ?_)) (fun c14 h => ?_)) (fun c13 h => ?_))) (fun c12 h => ?_)) (fun c11 h => ?_)) (fun c10 h => ?_))) (fun c9 h => ?_)) (fun c8 h => ?_))) (fun c6 h => ?_)) (fun c5 h => ?_)) (fun c4 h => ?_)) (fun c3 h => ?_)) (fun c2 h => ?_)) (fun c1 h => ?_)) (fun c0 h => bif_split h (fun c1 h => bif_split h (fun c2 h => cond_yes rfl (bif_split h (fun c3 h => bif_split h (fun c4 h => bif_split h (fun c5 h => cond_yes rfl (bif_split h (fun c6 h => bif_split h (fun c7 h => bif_split h (fun c8 h => bif_split h (fun c9 h => bif_split h (fun c10 h => ?_) (fun c10 h => ?_)) (fun c9 h => ?_)) (fun c8 h => ?_)) (fun c7 h => ?_)) (fun c6 h => ?_))) (fun c5 h => ?_)) (fun c4 h => ?_)) (fun c3 h => ?_))) (fun c2 h => ?_)) (fun c1 h => ?_))
  all_goals first
    | exact no_some h
    | exact stop_at hS _ h (fun n => bif Nat.beq n 1 then 6 else n) rfl rfl rfl ⟨(rn_loose (use_lo rfl) rfl rfl rfl), ⟨(rn_own (use_own rfl) rfl mkl_len), ⟨(rn_int rfl), ⟨(rn_unk _), trivial⟩⟩⟩⟩ rfl (entl_new (use_own rfl) rfl (Nat.le_of_eq mkl_len) (rcs_int (fun _ hj => col_mkl (fun (t : Int) => t) hj) rcs_nil) (entl_bor (use_lo rfl) rfl rfl entl_nil))
theorem a34 (al nl ml : Nat) (tl : Nat → ByteArray) (vl gl wl : NI) {r : Rt34} (h : Goes ((q34 al nl ml tl vl gl wl)) ((p34 al nl ml tl vl gl wl)) r) : CallR Try.prog 34 [.loose ⟨0, 4, al, 0⟩ nl] [[(0, (false, .cols ml [.str tl, .int .i64 vl, .int .i64 gl, .int .i64 wl]))]] 1 ((V34 al nl ml tl vl gl wl) r) ((J34 al nl ml tl vl gl wl) r) 400 ∧ ∃ F, Try.prog.funcs[34]? = some F ∧ F.body.isSome = true ∧ (F.name == "runtime.NumGoroutine") = false := by
  refine dec_calls (sy := true) (f := 34) (lo := 1) (hi := 400) (H := [[(0, (false, .cols ml [.str tl, .int .i64 vl, .int .i64 gl, .int .i64 wl]))]]) (args := [.loose ⟨0, 4, al, 0⟩ nl]) Try.envOk Try.mixed xI8_ok ((I34 al nl ml tl vl gl wl)) ((V34 al nl ml tl vl gl wl)) (J34 al nl ml tl vl gl wl) (fn := mkFn Try.f34) (ts := [0, 5, 6, 7]) (n := 400) rfl (by decide) (by simp) (names_of rfl) ?_ ?_ ?_ h
  · intro s; cases s <;> exact ⟨hd_ok _ _, by simp [I34], names_of rfl, Nat.le_of_ble_eq_true rfl⟩
  · intro Kst Kret x hS hR h
    exact Holds.eq (te34 cond Kst Kret al nl ml tl vl gl wl) (be34 al nl ml tl vl gl wl Kst Kret x hS hR h)
  · intro Kst Kret x hS hR s h
    cases s with
    | h0 x0 x1 => exact Holds.eq (t34_0 cond Kst Kret al nl ml tl vl gl wl x0 x1) (b34_0 al nl ml tl vl gl wl Kst Kret x hS hR x0 x1 h)
    | h1 x0 x1 x2 => exact Holds.eq (t34_1 cond Kst Kret al nl ml tl vl gl wl x0 x1 x2) (b34_1 al nl ml tl vl gl wl Kst Kret x hS hR x0 x1 x2 h)
noncomputable abbrev w34 {α : Type} (g : Nat → Nat → Nat → (Nat → ByteArray) → (Nat → Int) → (Nat → Int) → (Nat → Int) → α) (x : (Nat × Nat × Nat × (Nat → ByteArray) × (Nat → Int) × (Nat → Int) × (Nat → Int) × Unit) × Unit) : α := g x.1.1 x.1.2.1 x.1.2.2.1 x.1.2.2.2.1 x.1.2.2.2.2.1 x.1.2.2.2.2.2.1 x.1.2.2.2.2.2.2.1
noncomputable def k34  : Con := ⟨34, [.one (.list [.str, .int .i64, .int .i64, .int .i64])], w34 (fun al nl ml tl vl gl wl => decide (al + nl ≤ ml)), w34 (fun al nl ml tl vl gl wl => (V34 al nl ml tl vl gl wl) (S.oS (S.tskS nl (fun j => tl (j + al)) (fun j => vl (j + al)) (fun j => gl (j + al)) (fun j => wl (j + al))) (S.ordL (fun x => wl (x.toNat + al)) nl) (S.misT nl (fun j => vl ((S.at' (S.ordL (fun x => wl (x.toNat + al)) nl) j).toNat + al)) (fun j => gl ((S.at' (S.ordL (fun x => wl (x.toNat + al)) nl) j).toNat + al)) (fun j => wl ((S.at' (S.ordL (fun x => wl (x.toNat + al)) nl) j).toNat + al))))), w34 (fun al nl ml tl vl gl wl => (N34 al nl ml tl vl gl wl) (S.oS (S.tskS nl (fun j => tl (j + al)) (fun j => vl (j + al)) (fun j => gl (j + al)) (fun j => wl (j + al))) (S.ordL (fun x => wl (x.toNat + al)) nl) (S.misT nl (fun j => vl ((S.at' (S.ordL (fun x => wl (x.toNat + al)) nl) j).toNat + al)) (fun j => gl ((S.at' (S.ordL (fun x => wl (x.toNat + al)) nl) j).toNat + al)) (fun j => wl ((S.at' (S.ordL (fun x => wl (x.toNat + al)) nl) j).toNat + al))))), fun _ _ => .dead⟩
theorem s34i (al nl ml : Nat) (tl : Nat → ByteArray) (vl gl wl : Nat → Int) (hp : al + nl ≤ ml) (hT : S.okT nl (fun j => vl (j + al)) (fun j => gl (j + al)) (fun j => wl (j + al)) = true) (i : Nat) (hi : i < nl) (R : Int × List Int) (hN : Comes (q34 al nl ml tl vl gl wl) (.h0 ((i : Int) + 1) (S.ordL (fun x => wl (x.toNat + al)) (i + 1))) R) : ∀ (d : Nat) (A B : List Int), B.length = d → A ++ B = S.ordL (fun x => wl (x.toNat + al)) i → (∀ y ∈ A, wl (y.toNat + al) ≤ wl (i + al)) → Comes (q34 al nl ml tl vl gl wl) (.h1 (i : Int) (A.length : Int) (S.ordL (fun x => wl (x.toNat + al)) i)) R := by
  have h8 := (okT_at hT).1
  clear hT
  have hlen : (S.ordL (fun x => wl (x.toNat + al)) i).length = i := ordL_len
  have hasc := ordL_asc (d := (fun x => wl (x.toNat + al))) (k := i)
  have hin := fun z => (ordL_mem (d := (fun x => wl (x.toNat + al))) (z := z) (k := i)).1
  have hdef : S.ordL (fun x => wl (x.toNat + al)) (i + 1) = S.insL (fun x => wl (x.toNat + al)) (i : Int) (S.ordL (fun x => wl (x.toNat + al)) i) := rfl
  intro d
  induction d with
  | zero =>
    intro A B hd hAB hA
    have e : B = [] := List.length_eq_zero_iff.1 hd
    subst e
    have hm := ins_mkl (A := A) (B := []) (x := (i : Int)) (n := (A ++ []).length) (k := A.length) rfl rfl
    have e2 : S.ordL (fun x => wl (x.toNat + al)) (i + 1) = A ++ (i : Int) :: [] := by
      rw [hdef, ← hAB]
      exact insL_split hA fun y hy => by cases hy
    rw [e2] at hN
    have hl : A.length = i := by rw [← hlen, ← hAB, List.append_nil]
    rw [hAB, hlen] at hm
    clear hasc hin hdef hA e2 hAB
    apply Comes.of
    rw [q34]
    rw [hlen, Int.toNat_natCast, hm]
    ((with_reducible refine goes_no ?_ ?_); focus (exact decide_eq_false (by omega)))
    ((with_reducible refine goes_ok ?_ ?_); focus (exact decide_eq_true (by omega)))
    ((with_reducible refine goes_ok ?_ ?_); focus (exact decide_eq_true (by omega)))
    ((with_reducible refine goes_ok ?_ ?_); focus (exact decide_eq_true (by omega)))
    ((with_reducible refine goes_ok ?_ ?_); focus (exact decide_eq_true (by omega)))
    ((with_reducible refine goes_ok ?_ ?_); focus (exact decide_eq_true (by omega)))
    ((with_reducible refine goes_ok ?_ ?_); focus (exact decide_eq_true (by omega)))
    ((with_reducible refine goes_ok ?_ ?_); focus (exact decide_eq_true (by omega)))
    ((with_reducible refine goes_ok ?_ ?_); focus (exact decide_eq_true (by omega)))
    ((with_reducible refine goes_ok ?_ ?_); focus (exact decide_eq_true (by omega)))
    ((with_reducible refine goes_ok ?_ ?_); focus (rw [lim64]; exact decide_eq_true (by omega)))
    exact hN
  | succ d ih =>
    intro A B hd hAB hA
    obtain ⟨y, B', rfl⟩ : ∃ y B', B = y :: B' := by
      cases B with
      | nil => cases hd
      | cons y B' => exact ⟨y, B', rfl⟩
    have hy : S.at' (S.ordL (fun x => wl (x.toNat + al)) i) A.length = y := by rw [← hAB, at_app_ge (Nat.le_refl _), Nat.sub_self]; rfl
    have hyi := hin y (by rw [← hAB]; exact List.mem_append_right _ (List.mem_cons.2 (.inl rfl)))
    have hll : A.length + (B'.length + 1) = i := by rw [← hlen, ← hAB, List.length_append, List.length_cons]
    by_cases hc : wl (y.toNat + al) ≤ wl (i + al)
    · have ih := ih (A ++ [y]) B' (by simpa using hd) (by rw [← hAB, List.append_assoc]; rfl) (fun z hz => by
        rcases List.mem_append.1 hz with hz | hz
        · exact hA z hz
        · rw [List.mem_singleton.1 hz]; exact hc)
      rw [List.length_append, List.length_singleton] at ih
      clear hasc hin hdef hA hAB hN
      apply Comes.of
      rw [q34]
      rw [hlen, Int.toNat_natCast, hy]
      ((with_reducible refine goes_ok ?_ ?_); focus (exact decide_eq_true (by omega)))
      ((with_reducible refine goes_ok ?_ ?_); focus (exact decide_eq_true (by omega)))
      ((with_reducible refine goes_ok ?_ ?_); focus (exact decide_eq_true (by omega)))
      ((with_reducible refine goes_ok ?_ ?_); focus (exact decide_eq_true (by omega)))
      ((with_reducible refine goes_ok ?_ ?_); focus (exact decide_eq_true (by omega)))
      ((with_reducible refine goes_ok ?_ ?_); focus (exact decide_eq_true (by omega)))
      ((with_reducible refine goes_ok ?_ ?_); focus (exact decide_eq_true (by omega)))
      ((with_reducible refine goes_ok ?_ ?_); focus (exact decide_eq_true hc))
      ((with_reducible refine goes_ok ?_ ?_); focus (rw [lim64]; exact decide_eq_true (by omega)))
      exact ih
    · have hm := ins_mkl (A := A) (B := y :: B') (x := (i : Int)) (n := (A ++ y :: B').length) (k := A.length) rfl rfl
      have e2 : S.ordL (fun x => wl (x.toNat + al)) (i + 1) = A ++ (i : Int) :: (y :: B') := by
        rw [hdef, ← hAB]
        refine insL_split hA fun z hz => ?_
        show wl (i + al) < wl (z.toNat + al)
        rw [← hAB] at hasc
        have h9 := (List.pairwise_append.1 hasc).2.1
        rw [List.pairwise_cons] at h9
        rcases List.mem_cons.1 hz with rfl | hz
        · omega
        · have : wl (y.toNat + al) ≤ wl (z.toNat + al) := h9.1 z hz
          omega
      rw [e2] at hN
      rw [hAB, hlen] at hm
      clear hasc hin hdef hA e2 hAB ih
      apply Comes.of
      rw [q34]
      rw [hlen, Int.toNat_natCast, Int.toNat_natCast, hm, hy]
      ((with_reducible refine goes_ok ?_ ?_); focus (exact decide_eq_true (by omega)))
      ((with_reducible refine goes_ok ?_ ?_); focus (exact decide_eq_true (by omega)))
      ((with_reducible refine goes_ok ?_ ?_); focus (exact decide_eq_true (by omega)))
      ((with_reducible refine goes_ok ?_ ?_); focus (exact decide_eq_true (by omega)))
      ((with_reducible refine goes_ok ?_ ?_); focus (exact decide_eq_true (by omega)))
      ((with_reducible refine goes_ok ?_ ?_); focus (exact decide_eq_true (by omega)))
      ((with_reducible refine goes_ok ?_ ?_); focus (exact decide_eq_true (by omega)))
      ((with_reducible refine goes_no ?_ ?_); focus (exact decide_eq_false hc))
      ((with_reducible refine goes_ok ?_ ?_); focus (exact decide_eq_true (by omega)))
      ((with_reducible refine goes_ok ?_ ?_); focus (exact decide_eq_true (by omega)))
      ((with_reducible refine goes_ok ?_ ?_); focus (exact decide_eq_true (by omega)))
      ((with_reducible refine goes_ok ?_ ?_); focus (exact decide_eq_true (by omega)))
      ((with_reducible refine goes_ok ?_ ?_); focus (exact decide_eq_true (by omega)))
      ((with_reducible refine goes_ok ?_ ?_); focus (exact decide_eq_true (by omega)))
      ((with_reducible refine goes_ok ?_ ?_); focus (exact decide_eq_true (by omega)))
      ((with_reducible refine goes_ok ?_ ?_); focus (exact decide_eq_true (by omega)))
      ((with_reducible refine goes_ok ?_ ?_); focus (exact decide_eq_true (by omega)))
      ((with_reducible refine goes_ok ?_ ?_); focus (rw [lim64]; exact decide_eq_true (by omega)))
      exact hN
theorem s34o (al nl ml : Nat) (tl : Nat → ByteArray) (vl gl wl : Nat → Int) (hp : al + nl ≤ ml) (hT : S.okT nl (fun j => vl (j + al)) (fun j => gl (j + al)) (fun j => wl (j + al)) = true) : ∀ k i : Nat, i + k = nl → Comes (q34 al nl ml tl vl gl wl) (.h0 (i : Int) (S.ordL (fun x => wl (x.toNat + al)) i)) (if (S.misT nl (fun j => vl ((S.at' (S.ordL (fun x => wl (x.toNat + al)) nl) j).toNat + al)) (fun j => gl ((S.at' (S.ordL (fun x => wl (x.toNat + al)) nl) j).toNat + al)) (fun j => wl ((S.at' (S.ordL (fun x => wl (x.toNat + al)) nl) j).toNat + al))) ≥ 0 then (10, []) else (0, (S.ordL (fun x => wl (x.toNat + al)) nl))) := by
  have h8 := (okT_at hT).1
  intro k
  induction k with
  | zero =>
    intro i hi
    obtain rfl : i = nl := by omega
    have hL : (S.ordL (fun x => wl (x.toNat + al)) i).length = i := ordL_len
    have hR : S.inR i i (fun j => S.at' (S.ordL (fun x => wl (x.toNat + al)) i) j) = true := decide_eq_true fun j hj => ordL_in hj
    have hO : ∀ j, j < i → 0 ≤ S.at' (S.ordL (fun x => wl (x.toNat + al)) i) j ∧ S.at' (S.ordL (fun x => wl (x.toNat + al)) i) j < i := fun j hj => ordL_in hj
    have hL2 : (S.mkl i fun j => (tl ((S.at' (S.ordL (fun x => wl (x.toNat + al)) i) j).toNat + al), vl ((S.at' (S.ordL (fun x => wl (x.toNat + al)) i) j).toNat + al), gl ((S.at' (S.ordL (fun x => wl (x.toNat + al)) i) j).toNat + al), wl ((S.at' (S.ordL (fun x => wl (x.toNat + al)) i) j).toNat + al))).length = i := mkl_len
    have hA : ∀ j, j < i → S.at' (S.mkl i fun j => (tl ((S.at' (S.ordL (fun x => wl (x.toNat + al)) i) j).toNat + al), vl ((S.at' (S.ordL (fun x => wl (x.toNat + al)) i) j).toNat + al), gl ((S.at' (S.ordL (fun x => wl (x.toNat + al)) i) j).toNat + al), wl ((S.at' (S.ordL (fun x => wl (x.toNat + al)) i) j).toNat + al))) j = (tl ((S.at' (S.ordL (fun x => wl (x.toNat + al)) i) j).toNat + al), vl ((S.at' (S.ordL (fun x => wl (x.toNat + al)) i) j).toNat + al), gl ((S.at' (S.ordL (fun x => wl (x.toNat + al)) i) j).toNat + al), wl ((S.at' (S.ordL (fun x => wl (x.toNat + al)) i) j).toNat + al)) := fun j hj => at_mkl hj
    have e1 : S.misT i (fun j => (S.at' (S.mkl i fun j => (tl ((S.at' (S.ordL (fun x => wl (x.toNat + al)) i) j).toNat + al), vl ((S.at' (S.ordL (fun x => wl (x.toNat + al)) i) j).toNat + al), gl ((S.at' (S.ordL (fun x => wl (x.toNat + al)) i) j).toNat + al), wl ((S.at' (S.ordL (fun x => wl (x.toNat + al)) i) j).toNat + al))) j).2.1) (fun j => (S.at' (S.mkl i fun j => (tl ((S.at' (S.ordL (fun x => wl (x.toNat + al)) i) j).toNat + al), vl ((S.at' (S.ordL (fun x => wl (x.toNat + al)) i) j).toNat + al), gl ((S.at' (S.ordL (fun x => wl (x.toNat + al)) i) j).toNat + al), wl ((S.at' (S.ordL (fun x => wl (x.toNat + al)) i) j).toNat + al))) j).2.2.1) (fun j => (S.at' (S.mkl i fun j => (tl ((S.at' (S.ordL (fun x => wl (x.toNat + al)) i) j).toNat + al), vl ((S.at' (S.ordL (fun x => wl (x.toNat + al)) i) j).toNat + al), gl ((S.at' (S.ordL (fun x => wl (x.toNat + al)) i) j).toNat + al), wl ((S.at' (S.ordL (fun x => wl (x.toNat + al)) i) j).toNat + al))) j).2.2.2) = S.misT i (fun j => vl ((S.at' (S.ordL (fun x => wl (x.toNat + al)) i) j).toNat + al)) (fun j => gl ((S.at' (S.ordL (fun x => wl (x.toNat + al)) i) j).toNat + al)) (fun j => wl ((S.at' (S.ordL (fun x => wl (x.toNat + al)) i) j).toNat + al)) := misT_congr (fun j hj => by rw [hA j hj]) (fun j hj => by rw [hA j hj]) (fun j hj => by rw [hA j hj])
    have e2 : S.okT i (fun j => (S.at' (S.mkl i fun j => (tl ((S.at' (S.ordL (fun x => wl (x.toNat + al)) i) j).toNat + al), vl ((S.at' (S.ordL (fun x => wl (x.toNat + al)) i) j).toNat + al), gl ((S.at' (S.ordL (fun x => wl (x.toNat + al)) i) j).toNat + al), wl ((S.at' (S.ordL (fun x => wl (x.toNat + al)) i) j).toNat + al))) j).2.1) (fun j => (S.at' (S.mkl i fun j => (tl ((S.at' (S.ordL (fun x => wl (x.toNat + al)) i) j).toNat + al), vl ((S.at' (S.ordL (fun x => wl (x.toNat + al)) i) j).toNat + al), gl ((S.at' (S.ordL (fun x => wl (x.toNat + al)) i) j).toNat + al), wl ((S.at' (S.ordL (fun x => wl (x.toNat + al)) i) j).toNat + al))) j).2.2.1) (fun j => (S.at' (S.mkl i fun j => (tl ((S.at' (S.ordL (fun x => wl (x.toNat + al)) i) j).toNat + al), vl ((S.at' (S.ordL (fun x => wl (x.toNat + al)) i) j).toNat + al), gl ((S.at' (S.ordL (fun x => wl (x.toNat + al)) i) j).toNat + al), wl ((S.at' (S.ordL (fun x => wl (x.toNat + al)) i) j).toNat + al))) j).2.2.2) = true := by
      rw [okT_congr (p' := (fun j => vl ((S.at' (S.ordL (fun x => wl (x.toNat + al)) i) j).toNat + al))) (c' := (fun j => gl ((S.at' (S.ordL (fun x => wl (x.toNat + al)) i) j).toNat + al))) (d' := (fun j => wl ((S.at' (S.ordL (fun x => wl (x.toNat + al)) i) j).toNat + al))) (fun j hj => by rw [hA j hj]) (fun j hj => by rw [hA j hj]) (fun j hj => by rw [hA j hj])]
      exact okT_perm (f := fun j => S.at' (S.ordL (fun x => wl (x.toNat + al)) i) j) hT hO
    apply Comes.of
    rw [q34]
    rw [hL, hL2, e1, e2]
    ((with_reducible refine goes_no ?_ ?_); focus (exact decide_eq_false (by omega)))
    ((with_reducible refine goes_ok ?_ ?_); focus (exact decide_eq_true ⟨hp, by omega, by omega, hR⟩))
    ((with_reducible refine goes_ok ?_ ?_); focus (exact decide_eq_true ⟨by omega, rfl⟩))
    by_cases hm : S.misT i (fun j => vl ((S.at' (S.ordL (fun x => wl (x.toNat + al)) i) j).toNat + al)) (fun j => gl ((S.at' (S.ordL (fun x => wl (x.toNat + al)) i) j).toNat + al)) (fun j => wl ((S.at' (S.ordL (fun x => wl (x.toNat + al)) i) j).toNat + al)) ≥ 0
    · rw [if_pos hm]
      ((with_reducible refine goes_ok ?_ ?_); focus (exact decide_eq_true hm))
      exact goes_inr.mpr rfl
    · rw [if_neg hm]
      ((with_reducible refine goes_no ?_ ?_); focus (exact decide_eq_false hm))
      exact goes_inr.mpr rfl
  | succ k ih =>
    intro i hi
    have ih := ih (i + 1) (by omega)
    have key := s34i al nl ml tl vl gl wl hp hT i (by omega) _ ih i [] (S.ordL (fun x => wl (x.toNat + al)) i) ordL_len (List.nil_append _) (fun y hy => by cases hy)
    apply Comes.of
    rw [q34]
    ((with_reducible refine goes_ok ?_ ?_); focus (exact decide_eq_true (by omega)))
    exact key
theorem s34 (al nl ml : Nat) (tl : Nat → ByteArray) (vl gl wl : Nat → Int) (hp : al + nl ≤ ml) : Goes ((q34 al nl ml tl vl gl wl)) ((p34 al nl ml tl vl gl wl)) (S.oS (S.tskS nl (fun j => tl (j + al)) (fun j => vl (j + al)) (fun j => gl (j + al)) (fun j => wl (j + al))) (S.ordL (fun x => wl (x.toNat + al)) nl) (S.misT nl (fun j => vl ((S.at' (S.ordL (fun x => wl (x.toNat + al)) nl) j).toNat + al)) (fun j => gl ((S.at' (S.ordL (fun x => wl (x.toNat + al)) nl) j).toNat + al)) (fun j => wl ((S.at' (S.ordL (fun x => wl (x.toNat + al)) nl) j).toNat + al)))) := by
  have hk : S.tskS nl (fun j => tl (j + al)) (fun j => vl (j + al)) (fun j => gl (j + al)) (fun j => wl (j + al)) = 0 → S.okT nl (fun j => vl (j + al)) (fun j => gl (j + al)) (fun j => wl (j + al)) = true := fun h => (tskS_ok h).2
  have hmain := s34o al nl ml tl vl gl wl hp
  unfold p34 S.oS
  generalize (S.misT nl (fun j => vl ((S.at' (S.ordL (fun x => wl (x.toNat + al)) nl) j).toNat + al)) (fun j => gl ((S.at' (S.ordL (fun x => wl (x.toNat + al)) nl) j).toNat + al)) (fun j => wl ((S.at' (S.ordL (fun x => wl (x.toNat + al)) nl) j).toNat + al))) = m at *
  generalize S.tskS nl (fun j => tl (j + al)) (fun j => vl (j + al)) (fun j => gl (j + al)) (fun j => wl (j + al)) = e at *
  ((with_reducible refine goes_ok ?_ ?_); focus (exact decide_eq_true hp))
  by_cases he : e = 0
  · have h := hmain (hk he) nl 0 (Nat.zero_add _)
    rw [if_pos he]
    refine goes_no (by rw [he]; rfl) ?_
    exact h
  · rw [if_neg he]
    exact goes_ok (by simpa using he) rfl
theorem k34_ok  : k34.ok Try.prog := by
  intro x hx
  obtain ⟨⟨al, nl, ml, tl, vl, gl, wl, _⟩, _⟩ := x
  obtain ⟨h1, h2⟩ := a34 al nl ml tl vl gl wl (s34 al nl ml tl vl gl wl (of_dec hx rfl))
  exact ⟨⟨400, (by decide : 1 + 1 + 1 ≤ 400), h1⟩, h2⟩
inductive St35 where
  | h0 (x0 : Int)
abbrev Rt35  := Bool
noncomputable def V35 (aa na ma : Nat) (ta : NI) (ab nb mb : Nat) (tb : NI) (r : Rt35) : PV := PV.bool r
noncomputable def N35 (aa na ma : Nat) (ta : NI) (ab nb mb : Nat) (tb : NI) (r : Rt35) : List Blk := []
noncomputable def I35 (aa na ma : Nat) (ta : NI) (ab nb mb : Nat) (tb : NI) : St35 → Hd
  | .h0 x0 => ⟨hd Try.f35 0, [PV.loose (PA.mk (0) (1) aa (0)) na,
 PV.loose (PA.mk (1) (1) ab (0)) nb, PV.int .i64 (↑na : Int),
 PV.int .i64 x0], [[], [(0, (false, .cols ma [.int .i64 ta])), (1, (false, .cols mb [.int .i64 tb]))]], 2⟩
noncomputable def q35 (aa na ma : Nat) (ta : NI) (ab nb mb : Nat) (tb : NI) : St35 → Option (St35 ⊕ Rt35) | .h0 x0 => bif (decide (x0 < (↑na : Int))) then (bif (decide ((0 : Int) ≤ x0 ∧ x0 < (↑na : Int))) then (bif (decide (Int.toNat x0 + aa < ma)) then (bif (decide ((0 : Int) ≤ x0 ∧ x0 < (↑nb : Int))) then (bif (decide (Int.toNat x0 + ab < mb)) then (bif (ta (Int.toNat x0 + aa) != tb (Int.toNat x0 + ab)) then (some (.inr (false))) else (bif (lim .i64 (x0 + 1)) then (some (.inl (.h0 (x0 + 1)))) else (none))) else (none)) else (none)) else (none)) else (none)) else (some (.inr (true)))
noncomputable def p35 (aa na ma : Nat) (ta : NI) (ab nb mb : Nat) (tb : NI) : Option (St35 ⊕ Rt35) := bif ((↑na : Int) != (↑nb : Int)) then (some (.inr (false))) else (some (.inl (.h0 ((0 : Int)))))
def Te35 (test : TT) (Kst : KS) (Kret : KR) (aa na ma : Nat) (ta : NI) (ab nb mb : Nat) (tb : NI) : Prop := test ((↑na : Int) != (↑nb : Int)) (Kret (PV.tf false) ([[(1, false, Blk.cols mb [Col.int .i64 tb]), (0, false, Blk.cols ma [Col.int .i64 ta])]]) (2)) (Kst (hd Try.f35 0) ([PV.loose (PA.mk (0) (1) aa (0)) na, PV.loose (PA.mk (1) (1) ab (0)) nb, PV.int .i64 (↑na : Int), PV.int .i64 (0 : Int)]) ([[(1, false, Blk.cols mb [Col.int .i64 tb]), (0, false, Blk.cols ma [Col.int .i64 ta])]]) (2))
theorem te35 (test : TT) (Kst : KS) (Kret : KR) (aa na ma : Nat) (ta : NI) (ab nb mb : Nat) (tb : NI) : run test Try.env true noX true 400 ⟨35, [.cd (mkFn Try.f35).body], argT 0 [.loose ⟨0, 1, aa, 0⟩ na, .loose ⟨1, 1, ab, 0⟩ nb], [[], [(0, (false, .cols ma [.int .i64 ta])), (1, (false, .cols mb [.int .i64 tb]))]], 2⟩ (proj 2 [0, 1, 12, 13] Kst Kret) =
  Te35 test Kst Kret aa na ma ta ab nb mb tb := by kernel_rfl
def T35_0 (test : TT) (Kst : KS) (Kret : KR) (aa na ma : Nat) (ta : NI) (ab nb mb : Nat) (tb : NI) (x0 : Int) : Prop := test (decide (x0 < (↑na : Int))) (test (decide ((0 : Int) ≤ x0 ∧ x0 < (↑na : Int))) (test (decide (Int.toNat x0 + aa < ma)) (test (decide ((0 : Int) ≤ x0 ∧ x0 < (↑nb : Int))) (test (decide (Int.toNat x0 + ab < mb)) (test (ta (Int.toNat x0 + aa) != tb (Int.toNat x0 + ab)) (Kret (PV.tf false) ([[(1, false, Blk.cols mb [Col.int .i64 tb]), (0, false, Blk.cols ma [Col.int .i64 ta])]]) (2)) (test (lim .i64 (x0 + 1)) (Kst (hd Try.f35 0) ([PV.loose (PA.mk (0) (1) aa (0)) na, PV.loose (PA.mk (1) (1) ab (0)) nb, PV.int .i64 (↑na : Int), PV.int .i64 (x0 + 1)]) ([[(1, false, Blk.cols mb [Col.int .i64 tb]), (0, false, Blk.cols ma [Col.int .i64 ta])]]) (2)) (False))) (False)) (False)) (False)) (False)) (Kret (PV.tf true) ([[(1, false, Blk.cols mb [Col.int .i64 tb]), (0, false, Blk.cols ma [Col.int .i64 ta])]]) (2))
theorem t35_0 (test : TT) (Kst : KS) (Kret : KR) (aa na ma : Nat) (ta : NI) (ab nb mb : Nat) (tb : NI) (x0 : Int) : run test Try.env true noX true 400 ⟨35, hd Try.f35 0, zipT [0, 1, 12, 13] [PV.loose (PA.mk (0) (1) aa (0)) na,
 PV.loose (PA.mk (1) (1) ab (0)) nb, PV.int .i64 (↑na : Int),
 PV.int .i64 x0], [[], [(0, (false, .cols ma [.int .i64 ta])), (1, (false, .cols mb [.int .i64 tb]))]], 2⟩ (proj 2 [0, 1, 12, 13] Kst Kret) =
  T35_0 test Kst Kret aa na ma ta ab nb mb tb x0 := by kernel_rfl
noncomputable abbrev J35 (aa na ma : Nat) (ta : NI) (ab nb mb : Nat) (tb : NI) : Rt35 → Heap := fun r => [newL (2 + 1) ((N35 aa na ma ta ab nb mb tb) r) ++ [(0, (false, .cols ma [.int .i64 ta])), (1, (false, .cols mb [.int .i64 tb]))]]
attribute [local irreducible] Int.subNatNat in
theorem be35 (aa na ma : Nat) (ta : NI) (ab nb mb : Nat) (tb : NI) (Kst : KS) (Kret : KR) (x : St35 ⊕ Rt35) (hS : HS 2 400 ((I35 aa na ma ta ab nb mb tb)) Kst x) (hR : HR 2 400 ((V35 aa na ma ta ab nb mb tb)) (J35 aa na ma ta ab nb mb tb) Kret x) (h : p35 aa na ma ta ab nb mb tb = some x) : Te35 cond Kst Kret aa na ma ta ab nb mb tb := by
  unfold Te35
  unfold p35 at h
  exact bif_split h (fun c0 h => ret_at hR _ h (fun n => n) rfl rfl rfl (rn_bool_tf rfl) rfl (entl_bor (use_lo rfl) rfl rfl (entl_bor (use_lo rfl) rfl rfl entl_nil))) (fun c0 h => stop_at hS _ h (fun n => n) rfl rfl rfl ⟨(rn_loose (use_lo rfl) rfl rfl rfl), ⟨(rn_loose (use_lo rfl) rfl rfl rfl), ⟨(rn_int rfl), ⟨(rn_int rfl), trivial⟩⟩⟩⟩ rfl (entl_bor (use_lo rfl) rfl rfl (entl_bor (use_lo rfl) rfl rfl entl_nil)))
attribute [local irreducible] Int.subNatNat in
theorem b35_0 (aa na ma : Nat) (ta : NI) (ab nb mb : Nat) (tb : NI) (Kst : KS) (Kret : KR) (x : St35 ⊕ Rt35) (hS : HS 2 400 ((I35 aa na ma ta ab nb mb tb)) Kst x) (hR : HR 2 400 ((V35 aa na ma ta ab nb mb tb)) (J35 aa na ma ta ab nb mb tb) Kret x) (x0 : Int) (h : q35 aa na ma ta ab nb mb tb (.h0 x0) = some x) : T35_0 cond Kst Kret aa na ma ta ab nb mb tb x0 := by
  unfold T35_0
  rw [q35] at h
  exact bif_split h (fun c0 h => bif_split h (fun c1 h => bif_split h (fun c2 h => bif_split h (fun c3 h => bif_split h (fun c4 h => bif_split h (fun c5 h => ret_at hR _ h (fun n => n) rfl rfl rfl (rn_bool_tf rfl) rfl (entl_bor (use_lo rfl) rfl rfl (entl_bor (use_lo rfl) rfl rfl entl_nil))) (fun c5 h => bif_split h (fun c6 h => stop_at hS _ h (fun n => n) rfl rfl rfl ⟨(rn_loose (use_lo rfl) rfl rfl rfl), ⟨(rn_loose (use_lo rfl) rfl rfl rfl), ⟨(rn_int rfl), ⟨(rn_int rfl), trivial⟩⟩⟩⟩ rfl (entl_bor (use_lo rfl) rfl rfl (entl_bor (use_lo rfl) rfl rfl entl_nil))) (fun c6 h => no_some h))) (fun c4 h => no_some h)) (fun c3 h => no_some h)) (fun c2 h => no_some h)) (fun c1 h => no_some h)) (fun c0 h => ret_at hR _ h (fun n => n) rfl rfl rfl (rn_bool_tf rfl) rfl (entl_bor (use_lo rfl) rfl rfl (entl_bor (use_lo rfl) rfl rfl entl_nil)))
theorem a35 (aa na ma : Nat) (ta : NI) (ab nb mb : Nat) (tb : NI) {r : Rt35} (h : Goes ((q35 aa na ma ta ab nb mb tb)) ((p35 aa na ma ta ab nb mb tb)) r) : CallR Try.prog 35 [.loose ⟨0, 1, aa, 0⟩ na, .loose ⟨1, 1, ab, 0⟩ nb] [[(0, (false, .cols ma [.int .i64 ta])), (1, (false, .cols mb [.int .i64 tb]))]] 2 ((V35 aa na ma ta ab nb mb tb) r) ((J35 aa na ma ta ab nb mb tb) r) 400 ∧ ∃ F, Try.prog.funcs[35]? = some F ∧ F.body.isSome = true ∧ (F.name == "runtime.NumGoroutine") = false := by
  refine dec_calls (sy := true) (f := 35) (lo := 2) (hi := 400) (H := [[(0, (false, .cols ma [.int .i64 ta])), (1, (false, .cols mb [.int .i64 tb]))]]) (args := [.loose ⟨0, 1, aa, 0⟩ na, .loose ⟨1, 1, ab, 0⟩ nb]) Try.envOk Try.mixed noX_ok ((I35 aa na ma ta ab nb mb tb)) ((V35 aa na ma ta ab nb mb tb)) (J35 aa na ma ta ab nb mb tb) (fn := mkFn Try.f35) (ts := [0, 1, 12, 13]) (n := 400) rfl (by decide) (by simp) (names_of rfl) ?_ ?_ ?_ h
  · intro s; cases s <;> exact ⟨hd_ok _ _, by simp [I35], names_of rfl, Nat.le_of_ble_eq_true rfl⟩
  · intro Kst Kret x hS hR h
    exact Holds.eq (te35 cond Kst Kret aa na ma ta ab nb mb tb) (be35 aa na ma ta ab nb mb tb Kst Kret x hS hR h)
  · intro Kst Kret x hS hR s h
    cases s with
    | h0 x0 => exact Holds.eq (t35_0 cond Kst Kret aa na ma ta ab nb mb tb x0) (b35_0 aa na ma ta ab nb mb tb Kst Kret x hS hR x0 h)
noncomputable abbrev w35 {α : Type} (g : Nat → Nat → Nat → (Nat → Int) → Nat → Nat → Nat → (Nat → Int) → α) (x : (Nat × Nat × Nat × (Nat → Int) × Unit) × (Nat × Nat × Nat × (Nat → Int) × Unit) × Unit) : α := g x.1.1 x.1.2.1 x.1.2.2.1 x.1.2.2.2.1 x.2.1.1 x.2.1.2.1 x.2.1.2.2.1 x.2.1.2.2.2.1
noncomputable def k35  : Con := ⟨35, [.one (.list [.int .i64]), .one (.list [.int .i64])], w35 (fun aa na ma ta ab nb mb tb => decide (aa + na ≤ ma ∧ na ≤ 1000000 ∧ ab + nb ≤ mb ∧ nb ≤ 1000000)), w35 (fun aa na ma ta ab nb mb tb => (V35 aa na ma ta ab nb mb tb) (decide ((S.mkl na fun j => ta (j + aa)) = (S.mkl nb fun j => tb (j + ab))))), w35 (fun aa na ma ta ab nb mb tb => (N35 aa na ma ta ab nb mb tb) (decide ((S.mkl na fun j => ta (j + aa)) = (S.mkl nb fun j => tb (j + ab))))), fun _ _ => .dead⟩
theorem e35 (aa na ma : Nat) (ta : Nat → Int) (ab nb mb : Nat) (tb : Nat → Int) (h : na = nb) : decide ((S.mkl na fun j => ta (j + aa)) = (S.mkl nb fun j => tb (j + ab))) = true ↔ ∀ j, j < na → ta (j + aa) = tb (j + ab) := by
  rw [decide_eq_true_eq, mkl_inj]
  simp only [h, true_and, Prod.mk.injEq]
theorem s35' (aa na ma : Nat) (ta : Nat → Int) (ab nb mb : Nat) (tb : Nat → Int) (hp : aa + na ≤ ma ∧ na ≤ 1000000 ∧ ab + nb ≤ mb ∧ nb ≤ 1000000) (he : na = nb) : ∀ k i : Nat, i + k = na → (∀ j, j < i → ta (j + aa) = tb (j + ab)) → Comes (q35 aa na ma ta ab nb mb tb) (.h0 (i : Int)) (decide ((S.mkl na fun j => ta (j + aa)) = (S.mkl nb fun j => tb (j + ab)))) := by
  obtain ⟨hp1, hp2, hp3, hp4⟩ := hp
  have hq := e35 aa na ma ta ab nb mb tb he
  generalize decide ((S.mkl na fun j => ta (j + aa)) = (S.mkl nb fun j => tb (j + ab))) = R at hq ⊢
  intro k
  induction k with
  | zero =>
    intro i hi hj
    obtain rfl : na = i := by omega
    apply Comes.of
    show Goes _ _ _
    (first | rw [q35] | unfold q35)
    repeat' (first | with_reducible refine goes_if (fun h => ?_) (fun h => ?_) <;> (try simp only [SH] at h) | exact goes_none.mpr (by omega))
    all_goals first | (exfalso; omega) | (exact goes_inr.mpr (hq.mpr hj).symm)
  | succ k ih =>
    intro i hi hj
    have hw : ∀ {P : Prop}, (R = true → P) → ¬ P → false = R := fun h1 h2 => by cases R; rfl; exact absurd (h1 rfl) h2
    apply Comes.of
    show Goes _ _ _
    (first | rw [q35] | unfold q35)
    repeat' (first | with_reducible refine goes_if (fun h => ?_) (fun h => ?_) <;> (try simp only [SH] at h) | exact goes_none.mpr (by omega))
    all_goals first
      | (exfalso; omega)
      | (refine ih (i + 1) (by omega) fun j hlt => ?_
         rcases Nat.lt_or_eq_of_le (Nat.le_of_lt_succ hlt) with h1 | h1
         · exact hj j h1
         · subst h1; simp_all)
      | (refine goes_inr.mpr (hw (fun e => hq.mp e i (by omega)) fun e => ?_); simp_all)
theorem s35 (aa na ma : Nat) (ta : Nat → Int) (ab nb mb : Nat) (tb : Nat → Int) (hp : aa + na ≤ ma ∧ na ≤ 1000000 ∧ ab + nb ≤ mb ∧ nb ≤ 1000000) : Goes ((q35 aa na ma ta ab nb mb tb)) ((p35 aa na ma ta ab nb mb tb)) (decide ((S.mkl na fun j => ta (j + aa)) = (S.mkl nb fun j => tb (j + ab)))) := by
  by_cases he : na = nb
  · have hm := s35' aa na ma ta ab nb mb tb hp he na 0 (by omega) (fun j hj => absurd hj (Nat.not_lt_zero j))
    show Goes _ _ _
    unfold p35
    repeat' (first | with_reducible refine goes_if (fun h => ?_) (fun h => ?_) <;> (try simp only [SH] at h) | exact goes_none.mpr (by omega))
    all_goals first | (exfalso; omega) | exact hm
  · have hd : decide ((S.mkl na fun j => ta (j + aa)) = (S.mkl nb fun j => tb (j + ab))) = false := decide_eq_false (fun e => he (mkl_inj.mp e).1)
    rw [hd]
    show Goes _ _ _
    unfold p35
    repeat' (first | with_reducible refine goes_if (fun h => ?_) (fun h => ?_) <;> (try simp only [SH] at h) | exact goes_none.mpr (by omega))
    all_goals first | (exfalso; omega) | rfl
theorem k35_ok  : k35.ok Try.prog := by
  intro x hx
  obtain ⟨⟨aa, na, ma, ta, _⟩, ⟨ab, nb, mb, tb, _⟩, _⟩ := x
  obtain ⟨h1, h2⟩ := a35 aa na ma ta ab nb mb tb (s35 aa na ma ta ab nb mb tb (of_dec hx rfl))
  exact ⟨⟨400, (by decide : 2 + 1 + 0 ≤ 400), h1⟩, h2⟩
noncomputable def xL8 (test : Bool → Prop → Prop → Prop) : Ext := consX test [k12, k13, k15, k33, k34, k35]
theorem xL8_ok  : ExtOk Try.prog (xL8 cond) := consX_ok ⟨k12_ok, k13_ok, k15_ok, k33_ok, k34_ok, k35_ok, trivial⟩
theorem oS_len  {e m : Int} {o : List Int} : (S.oS e o m).2.length ≤ o.length := by
  unfold S.oS
  split
  · split
    · exact Nat.zero_le _
    · exact Nat.le_refl _
  · exact Nat.zero_le _
abbrev St8  := Empty
abbrev Rt8  := Bool
noncomputable def V8 (al nl ml : Nat) (tl : Nat → ByteArray) (vl gl wl : NI) (r : Rt8) : PV := PV.bool r
noncomputable def N8 (al nl ml : Nat) (tl : Nat → ByteArray) (vl gl wl : NI) (r : Rt8) : List Blk := []
noncomputable def I8 (al nl ml : Nat) (tl : Nat → ByteArray) (vl gl wl : NI) : St8 → Hd := fun s => s.elim
noncomputable def q8 (al nl ml : Nat) (tl : Nat → ByteArray) (vl gl wl : NI) : St8 → Option (St8 ⊕ Rt8) := fun s => s.elim
noncomputable def p8 (al nl ml : Nat) (tl : Nat → ByteArray) (vl gl wl : NI) : Option (St8 ⊕ Rt8) := bif (decide (al + nl ≤ ml)) then (bif (S.fewT nl fun j => tl (j + al)) then (bif (decide (al + nl ≤ ml ∧ nl ≤ 1000000)) then (bif (decide (0 + nl ≤ nl)) then (bif (decide (0 + List.length (Prod.snd (S.oS (S.tskS nl (fun j => tl (j + al)) (fun j => vl (j + al)) (fun j => gl (j + al)) fun j => wl (j + al)) (S.ordL (fun (x : Int) => wl (Int.toNat x + al)) nl) (S.misT nl (fun j => vl (Int.toNat (S.at' (S.ordL (fun (x : Int) => wl (Int.toNat x + al)) nl) j) + al)) (fun j => gl (Int.toNat (S.at' (S.ordL (fun (x : Int) => wl (Int.toNat x + al)) nl) j) + al)) fun j => wl (Int.toNat (S.at' (S.ordL (fun (x : Int) => wl (Int.toNat x + al)) nl) j) + al)))) ≤ List.length (Prod.snd (S.oS (S.tskS nl (fun j => tl (j + al)) (fun j => vl (j + al)) (fun j => gl (j + al)) fun j => wl (j + al)) (S.ordL (fun (x : Int) => wl (Int.toNat x + al)) nl) (S.misT nl (fun j => vl (Int.toNat (S.at' (S.ordL (fun (x : Int) => wl (Int.toNat x + al)) nl) j) + al)) (fun j => gl (Int.toNat (S.at' (S.ordL (fun (x : Int) => wl (Int.toNat x + al)) nl) j) + al)) fun j => wl (Int.toNat (S.at' (S.ordL (fun (x : Int) => wl (Int.toNat x + al)) nl) j) + al)))) ∧ List.length (Prod.snd (S.oS (S.tskS nl (fun j => tl (j + al)) (fun j => vl (j + al)) (fun j => gl (j + al)) fun j => wl (j + al)) (S.ordL (fun (x : Int) => wl (Int.toNat x + al)) nl) (S.misT nl (fun j => vl (Int.toNat (S.at' (S.ordL (fun (x : Int) => wl (Int.toNat x + al)) nl) j) + al)) (fun j => gl (Int.toNat (S.at' (S.ordL (fun (x : Int) => wl (Int.toNat x + al)) nl) j) + al)) fun j => wl (Int.toNat (S.at' (S.ordL (fun (x : Int) => wl (Int.toNat x + al)) nl) j) + al)))) ≤ 1000000 ∧ 0 + List.length (Prod.snd (S.oS (S.tskS nl (fun j => tl (j + al)) (fun j => vl (j + al)) (fun j => gl (j + al)) fun j => wl (j + al)) (S.ordL (fun (x : Int) => wl (Int.toNat x + al)) nl) (S.misT nl (fun j => vl (Int.toNat (S.at' (S.ordL (fun (x : Int) => wl (Int.toNat x + al)) nl) j) + al)) (fun j => gl (Int.toNat (S.at' (S.ordL (fun (x : Int) => wl (Int.toNat x + al)) nl) j) + al)) fun j => wl (Int.toNat (S.at' (S.ordL (fun (x : Int) => wl (Int.toNat x + al)) nl) j) + al)))) ≤ List.length (Prod.snd (S.oS (S.tskS nl (fun j => tl (j + al)) (fun j => vl (j + al)) (fun j => gl (j + al)) fun j => wl (j + al)) (S.ordL (fun (x : Int) => wl (Int.toNat x + al)) nl) (S.misT nl (fun j => vl (Int.toNat (S.at' (S.ordL (fun (x : Int) => wl (Int.toNat x + al)) nl) j) + al)) (fun j => gl (Int.toNat (S.at' (S.ordL (fun (x : Int) => wl (Int.toNat x + al)) nl) j) + al)) fun j => wl (Int.toNat (S.at' (S.ordL (fun (x : Int) => wl (Int.toNat x + al)) nl) j) + al)))) ∧ List.length (Prod.snd (S.oS (S.tskS nl (fun j => tl (j + al)) (fun j => vl (j + al)) (fun j => gl (j + al)) fun j => wl (j + al)) (S.ordL (fun (x : Int) => wl (Int.toNat x + al)) nl) (S.misT nl (fun j => vl (Int.toNat (S.at' (S.ordL (fun (x : Int) => wl (Int.toNat x + al)) nl) j) + al)) (fun j => gl (Int.toNat (S.at' (S.ordL (fun (x : Int) => wl (Int.toNat x + al)) nl) j) + al)) fun j => wl (Int.toNat (S.at' (S.ordL (fun (x : Int) => wl (Int.toNat x + al)) nl) j) + al)))) ≤ 1000000)) then (bif (decide ((S.mkl (List.length (Prod.snd (S.oS (S.tskS nl (fun j => tl (j + al)) (fun j => vl (j + al)) (fun j => gl (j + al)) fun j => wl (j + al)) (S.ordL (fun (x : Int) => wl (Int.toNat x + al)) nl) (S.misT nl (fun j => vl (Int.toNat (S.at' (S.ordL (fun (x : Int) => wl (Int.toNat x + al)) nl) j) + al)) (fun j => gl (Int.toNat (S.at' (S.ordL (fun (x : Int) => wl (Int.toNat x + al)) nl) j) + al)) fun j => wl (Int.toNat (S.at' (S.ordL (fun (x : Int) => wl (Int.toNat x + al)) nl) j) + al))))) fun j => S.at' (Prod.snd (S.oS (S.tskS nl (fun j => tl (j + al)) (fun j => vl (j + al)) (fun j => gl (j + al)) fun j => wl (j + al)) (S.ordL (fun (x : Int) => wl (Int.toNat x + al)) nl) (S.misT nl (fun j => vl (Int.toNat (S.at' (S.ordL (fun (x : Int) => wl (Int.toNat x + al)) nl) j) + al)) (fun j => gl (Int.toNat (S.at' (S.ordL (fun (x : Int) => wl (Int.toNat x + al)) nl) j) + al)) fun j => wl (Int.toNat (S.at' (S.ordL (fun (x : Int) => wl (Int.toNat x + al)) nl) j) + al)))) j) = S.mkl (List.length (Prod.snd (S.oS (S.tskS nl (fun j => tl (j + al)) (fun j => vl (j + al)) (fun j => gl (j + al)) fun j => wl (j + al)) (S.ordL (fun (x : Int) => wl (Int.toNat x + al)) nl) (S.misT nl (fun j => vl (Int.toNat (S.at' (S.ordL (fun (x : Int) => wl (Int.toNat x + al)) nl) j) + al)) (fun j => gl (Int.toNat (S.at' (S.ordL (fun (x : Int) => wl (Int.toNat x + al)) nl) j) + al)) fun j => wl (Int.toNat (S.at' (S.ordL (fun (x : Int) => wl (Int.toNat x + al)) nl) j) + al))))) fun j => S.at' (Prod.snd (S.oS (S.tskS nl (fun j => tl (j + al)) (fun j => vl (j + al)) (fun j => gl (j + al)) fun j => wl (j + al)) (S.ordL (fun (x : Int) => wl (Int.toNat x + al)) nl) (S.misT nl (fun j => vl (Int.toNat (S.at' (S.ordL (fun (x : Int) => wl (Int.toNat x + al)) nl) j) + al)) (fun j => gl (Int.toNat (S.at' (S.ordL (fun (x : Int) => wl (Int.toNat x + al)) nl) j) + al)) fun j => wl (Int.toNat (S.at' (S.ordL (fun (x : Int) => wl (Int.toNat x + al)) nl) j) + al)))) j)) then (bif (Prod.fst (S.oS (S.tskS nl (fun j => tl (j + al)) (fun j => vl (j + al)) (fun j => gl (j + al)) fun j => wl (j + al)) (S.ordL (fun (x : Int) => wl (Int.toNat x + al)) nl) (S.misT nl (fun j => vl (Int.toNat (S.at' (S.ordL (fun (x : Int) => wl (Int.toNat x + al)) nl) j) + al)) (fun j => gl (Int.toNat (S.at' (S.ordL (fun (x : Int) => wl (Int.toNat x + al)) nl) j) + al)) fun j => wl (Int.toNat (S.at' (S.ordL (fun (x : Int) => wl (Int.toNat x + al)) nl) j) + al))) == Prod.fst (S.oS (S.tskS nl (fun j => tl (j + al)) (fun j => vl (j + al)) (fun j => gl (j + al)) fun j => wl (j + al)) (S.ordL (fun (x : Int) => wl (Int.toNat x + al)) nl) (S.misT nl (fun j => vl (Int.toNat (S.at' (S.ordL (fun (x : Int) => wl (Int.toNat x + al)) nl) j) + al)) (fun j => gl (Int.toNat (S.at' (S.ordL (fun (x : Int) => wl (Int.toNat x + al)) nl) j) + al)) fun j => wl (Int.toNat (S.at' (S.ordL (fun (x : Int) => wl (Int.toNat x + al)) nl) j) + al)))) then (some (.inr (true))) else (some (.inr (false)))) else (some (.inr (false)))) else (none)) else (none)) else (none)) else (some (.inr (true)))) else (none)
noncomputable abbrev u8_e_0 (al nl : Nat) (tl : Nat → ByteArray) (vl gl wl : Nat → Int) := S.oS (S.tskS nl (fun j => tl (j + al)) (fun j => vl (j + al)) (fun j => gl (j + al)) fun j => wl (j + al)) (S.ordL (fun (x : Int) => wl (Int.toNat x + al)) nl) (S.misT nl (fun j => vl (Int.toNat (S.at' (S.ordL (fun (x : Int) => wl (Int.toNat x + al)) nl) j) + al)) (fun j => gl (Int.toNat (S.at' (S.ordL (fun (x : Int) => wl (Int.toNat x + al)) nl) j) + al)) fun j => wl (Int.toNat (S.at' (S.ordL (fun (x : Int) => wl (Int.toNat x + al)) nl) j) + al))
noncomputable abbrev u8_e_1 (ml : Nat) (tl : Nat → ByteArray) (vl gl wl : Nat → Int) := [[(0, false, Blk.cols ml [Col.str tl, Col.int IntKind.i64 vl, Col.int IntKind.i64 gl, Col.int IntKind.i64 wl])]]
def Te8 (test : TT) (Kst : KS) (Kret : KR) (al nl ml : Nat) (tl : Nat → ByteArray) (vl gl wl : NI) : Prop := test (true) (test (true) (test (decide (al + nl ≤ ml)) (test (S.fewT nl fun j => tl (j + al)) (test (decide (al + nl ≤ ml ∧ nl ≤ 1000000)) (test (decide (0 + nl ≤ nl)) (test (decide (al + nl ≤ ml)) (test (decide (0 + List.length (u8_e_0 al nl tl vl gl wl).2 ≤ List.length (u8_e_0 al nl tl vl gl wl).2 ∧ List.length (u8_e_0 al nl tl vl gl wl).2 ≤ 1000000 ∧ 0 + List.length (u8_e_0 al nl tl vl gl wl).2 ≤ List.length (u8_e_0 al nl tl vl gl wl).2 ∧ List.length (u8_e_0 al nl tl vl gl wl).2 ≤ 1000000)) (test (decide ((S.mkl (List.length (u8_e_0 al nl tl vl gl wl).2) fun j => S.at' (u8_e_0 al nl tl vl gl wl).2 j) = S.mkl (List.length (u8_e_0 al nl tl vl gl wl).2) fun j => S.at' (u8_e_0 al nl tl vl gl wl).2 j)) (test ((u8_e_0 al nl tl vl gl wl).1 == (u8_e_0 al nl tl vl gl wl).1) (Kret (PV.tf true) (u8_e_1 ml tl vl gl wl) (10)) (Kret (PV.tf false) (u8_e_1 ml tl vl gl wl) (10))) (Kret (PV.tf false) (u8_e_1 ml tl vl gl wl) (10))) (False)) (False)) (False)) (False)) (test (true) (test (true) (Kret (PV.tf true) (u8_e_1 ml tl vl gl wl) (4)) (Kret (PV.tf false) (u8_e_1 ml tl vl gl wl) (4))) (False))) (False)) (test (true) (test (true) (Kret (PV.tf true) (u8_e_1 ml tl vl gl wl) (3)) (Kret (PV.tf false) (u8_e_1 ml tl vl gl wl) (3))) (False))) (False)
theorem te8 (test : TT) (Kst : KS) (Kret : KR) (al nl ml : Nat) (tl : Nat → ByteArray) (vl gl wl : NI) : run test Try.env true (xL8 test) true 400 ⟨8, [.cd (mkFn Try.f8).body], argT 0 [.loose ⟨0, 4, al, 0⟩ nl], [[], [(0, (false, .cols ml [.str tl, .int .i64 vl, .int .i64 gl, .int .i64 wl]))]], 1⟩ (proj 1 [] Kst Kret) =
  Te8 test Kst Kret al nl ml tl vl gl wl := by kernel_rfl
noncomputable abbrev J8 (al nl ml : Nat) (tl : Nat → ByteArray) (vl : NI) (gl : NI) (wl : NI) : Rt8 → Heap := fun r => [newL (1 + 1) ((N8 al nl ml tl vl gl wl) r) ++ [(0, (false, .cols ml [.str tl, .int .i64 vl, .int .i64 gl, .int .i64 wl]))]]
attribute [local irreducible] Int.subNatNat in
theorem be8 (al nl ml : Nat) (tl : Nat → ByteArray) (vl gl wl : NI) (Kst : KS) (Kret : KR) (x : St8 ⊕ Rt8) (hS : HS 1 400 ((I8 al nl ml tl vl gl wl)) Kst x) (hR : HR 1 400 ((V8 al nl ml tl vl gl wl)) (J8 al nl ml tl vl gl wl) Kret x) (h : p8 al nl ml tl vl gl wl = some x) : Te8 cond Kst Kret al nl ml tl vl gl wl := by
  unfold Te8
  unfold p8 at h
  exact cond_yes rfl (cond_yes rfl (bif_split h (fun c0 h => bif_split h (fun c1 h => bif_split h (fun c2 h => bif_split h (fun c3 h => cond_yes c0 (bif_split h (fun c4 h => bif_split h (fun c5 h => bif_split h (fun c6 h => ret_at hR _ h (fun n => n) rfl rfl rfl (rn_bool_tf rfl) rfl (entl_bor (use_lo rfl) rfl rfl entl_nil)) (fun c6 h => ret_at hR _ h (fun n => n) rfl rfl rfl (rn_bool_tf rfl) rfl (entl_bor (use_lo rfl) rfl rfl entl_nil))) (fun c5 h => ret_at hR _ h (fun n => n) rfl rfl rfl (rn_bool_tf rfl) rfl (entl_bor (use_lo rfl) rfl rfl entl_nil))) (fun c4 h => no_some h))) (fun c3 h => no_some h)) (fun c2 h => no_some h)) (fun c1 h => cond_yes rfl (cond_yes rfl (ret_at hR _ h (fun n => n) rfl rfl rfl (rn_bool_tf rfl) rfl (entl_bor (use_lo rfl) rfl rfl entl_nil))))) (fun c0 h => no_some h)))
theorem a8 (al nl ml : Nat) (tl : Nat → ByteArray) (vl gl wl : NI) {r : Rt8} (h : Goes ((q8 al nl ml tl vl gl wl)) ((p8 al nl ml tl vl gl wl)) r) : CallR Try.prog 8 [.loose ⟨0, 4, al, 0⟩ nl] [[(0, (false, .cols ml [.str tl, .int .i64 vl, .int .i64 gl, .int .i64 wl]))]] 1 ((V8 al nl ml tl vl gl wl) r) ((J8 al nl ml tl vl gl wl) r) 400 ∧ ∃ F, Try.prog.funcs[8]? = some F ∧ F.body.isSome = true ∧ (F.name == "runtime.NumGoroutine") = false := by
  refine dec_calls (sy := true) (f := 8) (lo := 1) (hi := 400) (H := [[(0, (false, .cols ml [.str tl, .int .i64 vl, .int .i64 gl, .int .i64 wl]))]]) (args := [.loose ⟨0, 4, al, 0⟩ nl]) Try.envOk Try.mixed xL8_ok ((I8 al nl ml tl vl gl wl)) ((V8 al nl ml tl vl gl wl)) (J8 al nl ml tl vl gl wl) (fn := mkFn Try.f8) (ts := []) (n := 400) rfl (by decide) (by simp) (names_of rfl) ?_ ?_ ?_ h
  · intro s; exact s.elim
  · intro Kst Kret x hS hR h
    exact Holds.eq (te8 cond Kst Kret al nl ml tl vl gl wl) (be8 al nl ml tl vl gl wl Kst Kret x hS hR h)
  · intro Kst Kret x hS hR s h; exact s.elim
noncomputable abbrev w8 {α : Type} (g : Nat → Nat → Nat → (Nat → ByteArray) → (Nat → Int) → (Nat → Int) → (Nat → Int) → α) (x : (Nat × Nat × Nat × (Nat → ByteArray) × (Nat → Int) × (Nat → Int) × (Nat → Int) × Unit) × Unit) : α := g x.1.1 x.1.2.1 x.1.2.2.1 x.1.2.2.2.1 x.1.2.2.2.2.1 x.1.2.2.2.2.2.1 x.1.2.2.2.2.2.2.1
noncomputable def k8  : Con := ⟨8, [.one (.list [.str, .int .i64, .int .i64, .int .i64])], w8 (fun al nl ml tl vl gl wl => decide (al + nl ≤ ml)), w8 (fun al nl ml tl vl gl wl => (V8 al nl ml tl vl gl wl) (true)), w8 (fun al nl ml tl vl gl wl => (N8 al nl ml tl vl gl wl) (true)), fun _ _ => .dead⟩
theorem s8 (al nl ml : Nat) (tl : Nat → ByteArray) (vl gl wl : Nat → Int) (hp : al + nl ≤ ml) : Goes ((q8 al nl ml tl vl gl wl)) ((p8 al nl ml tl vl gl wl)) (true) := by
  have hl : (S.oS (S.tskS nl (fun j => tl (j + al)) (fun j => vl (j + al)) (fun j => gl (j + al)) (fun j => wl (j + al))) (S.ordL (fun x => wl (x.toNat + al)) nl) (S.misT nl (fun j => vl ((S.at' (S.ordL (fun x => wl (x.toNat + al)) nl) j).toNat + al)) (fun j => gl ((S.at' (S.ordL (fun x => wl (x.toNat + al)) nl) j).toNat + al)) (fun j => wl ((S.at' (S.ordL (fun x => wl (x.toNat + al)) nl) j).toNat + al)))).2.length ≤ nl := by
    have := oS_len (e := S.tskS nl (fun j => tl (j + al)) (fun j => vl (j + al)) (fun j => gl (j + al)) (fun j => wl (j + al))) (m := (S.misT nl (fun j => vl ((S.at' (S.ordL (fun x => wl (x.toNat + al)) nl) j).toNat + al)) (fun j => gl ((S.at' (S.ordL (fun x => wl (x.toNat + al)) nl) j).toNat + al)) (fun j => wl ((S.at' (S.ordL (fun x => wl (x.toNat + al)) nl) j).toNat + al)))) (o := (S.ordL (fun x => wl (x.toNat + al)) nl))
    rw [ordL_len] at this
    exact this
  unfold p8
  generalize S.oS (S.tskS nl (fun j => tl (j + al)) (fun j => vl (j + al)) (fun j => gl (j + al)) (fun j => wl (j + al))) (S.ordL (fun x => wl (x.toNat + al)) nl) (S.misT nl (fun j => vl ((S.at' (S.ordL (fun x => wl (x.toNat + al)) nl) j).toNat + al)) (fun j => gl ((S.at' (S.ordL (fun x => wl (x.toNat + al)) nl) j).toNat + al)) (fun j => wl ((S.at' (S.ordL (fun x => wl (x.toNat + al)) nl) j).toNat + al))) = r at *
  refine goes_ok (decide_eq_true hp) ?_
  cases hF : S.fewT nl fun j => tl (j + al)
  · exact goes_no rfl rfl
  · refine goes_ok rfl ?_
    have h12 : nl ≤ 12 := (of_decide_eq_true hF).1
    refine goes_ok (decide_eq_true ⟨hp, by omega⟩) ?_
    refine goes_ok (decide_eq_true (by omega)) ?_
    refine goes_ok (decide_eq_true ⟨by omega, by omega, by omega, by omega⟩) ?_
    refine goes_ok (decide_eq_true rfl) ?_
    exact goes_ok (beq_self_eq_true _) (goes_inr.mpr rfl)
theorem k8_ok  : k8.ok Try.prog := by
  intro x hx
  obtain ⟨⟨al, nl, ml, tl, vl, gl, wl, _⟩, _⟩ := x
  obtain ⟨h1, h2⟩ := a8 al nl ml tl vl gl wl (s8 al nl ml tl vl gl wl (of_dec hx rfl))
  exact ⟨⟨400, (by decide : 1 + 1 + 0 ≤ 400), h1⟩, h2⟩
end Go.Ev
