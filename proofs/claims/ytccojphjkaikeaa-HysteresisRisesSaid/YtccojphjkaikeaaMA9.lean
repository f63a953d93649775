/-
  apply.
-/
import Derived.Test.YtccojphjkaikeaaMA4
namespace Go.Ev
open Go.Proofs
set_option linter.unusedVariables false
set_option linter.unusedSimpArgs false
set_option maxRecDepth 100000
inductive St44 where
  | h0 (x0 : Int) (x1 : List Bool)
abbrev Rt44 := List Bool
noncomputable def V44 (ar nr mr : Nat) (tr : Nat → Int) (vr : Nat → Int) (gr : Nat → Int) (no mo : Nat) (to : Nat → Bool) (v : Int) (r : Rt44) : PV := PV.tup []
noncomputable def N44 (ar nr mr : Nat) (tr : Nat → Int) (vr : Nat → Int) (gr : Nat → Int) (no mo : Nat) (to : Nat → Bool) (v : Int) (r : Rt44) : List Blk := []
noncomputable def W44 (ar nr mr : Nat) (tr : Nat → Int) (vr : Nat → Int) (gr : Nat → Int) (no mo : Nat) (to : Nat → Bool) (v : Int) (r : Rt44) : Nat → Blk := fun n => bif Nat.beq n 1 then Blk.cols (List.length r) [Col.bool fun (j : Nat) => S.at' r j] else .dead
noncomputable def I44 (ar nr mr : Nat) (tr : Nat → Int) (vr : Nat → Int) (gr : Nat → Int) (no mo : Nat) (to : Nat → Bool) (v : Int) : St44 → Hd
  | .h0 x0 x1 => ⟨hd Try.f44 0, [PV.int IntKind.i64 v, PV.ptr (PA.mk (2) (0) (0) (0)),
 PV.loose (PA.mk (0) (3) ar (0)) nr, PV.int IntKind.i64 (↑nr : Int),
 PV.int IntKind.i64 x0], [[(2, (true, Blk.cells
 [PV.loose (PA.mk (0) (3) ar (0)) nr,
 PV.own (1) (1) (List.length x1)]))], [(0, (false, .cols mr [.int .i64 tr, .int .i64 vr, .int .i64 gr])), (1, (true, Blk.cols (List.length x1) [Col.bool fun (j : Nat) => S.at' x1 j]))]], 3⟩
noncomputable def q44 (ar nr mr : Nat) (tr : Nat → Int) (vr : Nat → Int) (gr : Nat → Int) (no mo : Nat) (to : Nat → Bool) (v : Int) : St44 → Option (St44 ⊕ Rt44)
  | .h0 x0 x1 => bif (decide (x0 < (↑nr : Int)))
 then (bif (decide ((0 : Int) ≤ x0 ∧ x0 < (↑nr : Int)))
 then (bif (decide (Int.toNat x0 + ar < mr))
 then (bif (decide (v ≥ tr (Int.toNat x0 + ar)))
 then (bif (decide ((0 : Int) ≤ x0 ∧ x0 < (↑(List.length x1) : Int)))
 then (bif (decide (Int.toNat x0 < List.length x1))
 then (bif (lim IntKind.i64 (x0 + (1 : Int)))
 then (some (.inl (.h0 (x0 + (1 : Int)) (S.mkl (List.length x1) fun (j : Nat) => bif Nat.beq j (Int.toNat x0) then true else S.at' x1 j))))
 else (none))
 else (none))
 else (none))
 else (bif (decide (v ≤ vr (Int.toNat x0 + ar)))
 then (bif (decide ((0 : Int) ≤ x0 ∧ x0 < (↑(List.length x1) : Int)))
 then (bif (decide (Int.toNat x0 < List.length x1))
 then (bif (lim IntKind.i64 (x0 + (1 : Int)))
 then (some (.inl (.h0 (x0 + (1 : Int)) (S.mkl (List.length x1) fun (j : Nat) => bif Nat.beq j (Int.toNat x0) then false else S.at' x1 j))))
 else (none))
 else (none))
 else (none))
 else (bif (lim IntKind.i64 (x0 + (1 : Int)))
 then (some (.inl (.h0 (x0 + (1 : Int)) (x1))))
 else (none))))
 else (none))
 else (none))
 else (some (.inr (x1)))
noncomputable def p44 (ar nr mr : Nat) (tr : Nat → Int) (vr : Nat → Int) (gr : Nat → Int) (no mo : Nat) (to : Nat → Bool) (v : Int) : Option (St44 ⊕ Rt44) := some (.inl (.h0 ((0 : Int)) (S.mkl no fun (j : Nat) => to j)))
noncomputable def Te44 (test : Bool → Prop → Prop → Prop) (Kst : KS) (Kret : KR) (ar nr mr : Nat) (tr : Nat → Int) (vr : Nat → Int) (gr : Nat → Int) (no mo : Nat) (to : Nat → Bool) (v : Int) : Prop :=
  Kst (hd Try.f44 0) ([PV.int IntKind.i64 v, PV.ptr (PA.mk (2) (0) (0) (0)),
 PV.loose (PA.mk (0) (3) ar (0)) nr, PV.int IntKind.i64 (↑nr : Int),
 PV.int IntKind.i64 (0 : Int)]) ([[(1, true, Blk.cols no [Col.bool to]),
 (0, false,
 Blk.cols mr
 [Col.int IntKind.i64 tr, Col.int IntKind.i64 vr, Col.int IntKind.i64 gr]),
 (2, true,
 Blk.cells
 [PV.loose (PA.mk (0) (3) ar (0)) nr,
 PV.own (1) (1) no])]]) (3)
set_option maxRecDepth 100000 in
theorem te44 (test : Bool → Prop → Prop → Prop) (Kst : KS) (Kret : KR) (ar nr mr : Nat) (tr : Nat → Int) (vr : Nat → Int) (gr : Nat → Int) (no mo : Nat) (to : Nat → Bool) (v : Int) : run test Try.env true noX true 400 ⟨44, [.cd (mkFn Try.f44).body], argT 0 [.agg [.loose ⟨0, 3, ar, 0⟩ nr, .own 1 1 no], .int .i64 v], [[], [(0, (false, .cols mr [.int .i64 tr, .int .i64 vr, .int .i64 gr])), (1, (true, .cols no [.bool to]))]], 2⟩ (proj 2 [1, 2, 7, 8, 9] Kst Kret) =
  Te44 test Kst Kret ar nr mr tr vr gr no mo to v := by kernel_rfl
noncomputable def T44_0 (test : Bool → Prop → Prop → Prop) (Kst : KS) (Kret : KR) (ar nr mr : Nat) (tr : Nat → Int) (vr : Nat → Int) (gr : Nat → Int) (no mo : Nat) (to : Nat → Bool) (v : Int) (x0 : Int) (x1 : List Bool) : Prop :=
  test (decide (x0 < (↑nr : Int)))
 (test (decide ((0 : Int) ≤ x0 ∧ x0 < (↑nr : Int)))
 (test (decide (Int.toNat x0 + ar < mr))
 (test (decide (Int.toNat x0 + ar < mr))
 (test (decide (Int.toNat x0 + ar < mr))
 (test (decide (v ≥ tr (Int.toNat x0 + ar)))
 (test (decide (v ≥ tr (Int.toNat x0 + ar)))
 (test (decide ((0 : Int) ≤ x0 ∧ x0 < (↑(List.length x1) : Int)))
 (test (decide (Int.toNat x0 < List.length x1))
 (test (lim IntKind.i64 (x0 + (1 : Int)))
 (Kst (hd Try.f44 0) ([PV.int IntKind.i64 v, PV.ptr (PA.mk (2) (0) (0) (0)),
 PV.loose (PA.mk (0) (3) ar (0)) nr, PV.int IntKind.i64 (↑nr : Int),
 PV.int IntKind.i64 (x0 + (1 : Int))]) ([[(1, true,
 Blk.cols (List.length x1)
 [Col.bool fun (j : Nat) => bif Nat.beq j (Int.toNat x0) then true else S.at' x1 j]),
 (0, false,
 Blk.cols mr
 [Col.int IntKind.i64 tr, Col.int IntKind.i64 vr, Col.int IntKind.i64 gr]),
 (2, true,
 Blk.cells
 [PV.loose (PA.mk (0) (3) ar (0)) nr,
 PV.own (1) (1) (List.length x1)])]]) (5))
 (False))
 (False))
 (False))
 (test (decide ((0 : Int) ≤ x0 ∧ x0 < (↑(List.length x1) : Int)))
 (test (decide (Int.toNat x0 < List.length x1))
 (test (lim IntKind.i64 (x0 + (1 : Int)))
 (Kst (hd Try.f44 0) ([PV.int IntKind.i64 v, PV.ptr (PA.mk (2) (0) (0) (0)),
 PV.loose (PA.mk (0) (3) ar (0)) nr, PV.int IntKind.i64 (↑nr : Int),
 PV.int IntKind.i64 (x0 + (1 : Int))]) ([[(1, true,
 Blk.cols (List.length x1)
 [Col.bool fun (j : Nat) => bif Nat.beq j (Int.toNat x0) then false else S.at' x1 j]),
 (0, false,
 Blk.cols mr
 [Col.int IntKind.i64 tr, Col.int IntKind.i64 vr, Col.int IntKind.i64 gr]),
 (2, true,
 Blk.cells
 [PV.loose (PA.mk (0) (3) ar (0)) nr,
 PV.own (1) (1) (List.length x1)])]]) (5))
 (False))
 (False))
 (False)))
 (test (decide (v ≤ vr (Int.toNat x0 + ar)))
 (test (decide (v ≥ tr (Int.toNat x0 + ar)))
 (test (decide ((0 : Int) ≤ x0 ∧ x0 < (↑(List.length x1) : Int)))
 (test (decide (Int.toNat x0 < List.length x1))
 (test (lim IntKind.i64 (x0 + (1 : Int)))
 (Kst (hd Try.f44 0) ([PV.int IntKind.i64 v, PV.ptr (PA.mk (2) (0) (0) (0)),
 PV.loose (PA.mk (0) (3) ar (0)) nr, PV.int IntKind.i64 (↑nr : Int),
 PV.int IntKind.i64 (x0 + (1 : Int))]) ([[(1, true,
 Blk.cols (List.length x1)
 [Col.bool fun (j : Nat) => bif Nat.beq j (Int.toNat x0) then true else S.at' x1 j]),
 (0, false,
 Blk.cols mr
 [Col.int IntKind.i64 tr, Col.int IntKind.i64 vr, Col.int IntKind.i64 gr]),
 (2, true,
 Blk.cells
 [PV.loose (PA.mk (0) (3) ar (0)) nr,
 PV.own (1) (1) (List.length x1)])]]) (5))
 (False))
 (False))
 (False))
 (test (decide ((0 : Int) ≤ x0 ∧ x0 < (↑(List.length x1) : Int)))
 (test (decide (Int.toNat x0 < List.length x1))
 (test (lim IntKind.i64 (x0 + (1 : Int)))
 (Kst (hd Try.f44 0) ([PV.int IntKind.i64 v, PV.ptr (PA.mk (2) (0) (0) (0)),
 PV.loose (PA.mk (0) (3) ar (0)) nr, PV.int IntKind.i64 (↑nr : Int),
 PV.int IntKind.i64 (x0 + (1 : Int))]) ([[(1, true,
 Blk.cols (List.length x1)
 [Col.bool fun (j : Nat) => bif Nat.beq j (Int.toNat x0) then false else S.at' x1 j]),
 (0, false,
 Blk.cols mr
 [Col.int IntKind.i64 tr, Col.int IntKind.i64 vr, Col.int IntKind.i64 gr]),
 (2, true,
 Blk.cells
 [PV.loose (PA.mk (0) (3) ar (0)) nr,
 PV.own (1) (1) (List.length x1)])]]) (5))
 (False))
 (False))
 (False)))
 (test (lim IntKind.i64 (x0 + (1 : Int)))
 (Kst (hd Try.f44 0) ([PV.int IntKind.i64 v, PV.ptr (PA.mk (2) (0) (0) (0)),
 PV.loose (PA.mk (0) (3) ar (0)) nr, PV.int IntKind.i64 (↑nr : Int),
 PV.int IntKind.i64 (x0 + (1 : Int))]) ([[(1, true, Blk.cols (List.length x1) [Col.bool fun (j : Nat) => S.at' x1 j]),
 (0, false,
 Blk.cols mr
 [Col.int IntKind.i64 tr, Col.int IntKind.i64 vr, Col.int IntKind.i64 gr]),
 (2, true,
 Blk.cells
 [PV.loose (PA.mk (0) (3) ar (0)) nr,
 PV.own (1) (1) (List.length x1)])]]) (5))
 (False))))
 (False))
 (False))
 (False))
 (False))
 (Kret (PV.tup []) ([[(1, true, Blk.cols (List.length x1) [Col.bool fun (j : Nat) => S.at' x1 j]),
 (0, false,
 Blk.cols mr
 [Col.int IntKind.i64 tr, Col.int IntKind.i64 vr, Col.int IntKind.i64 gr])]]) (3))
set_option maxRecDepth 100000 in
theorem t44_0 (test : Bool → Prop → Prop → Prop) (Kst : KS) (Kret : KR) (ar nr mr : Nat) (tr : Nat → Int) (vr : Nat → Int) (gr : Nat → Int) (no mo : Nat) (to : Nat → Bool) (v : Int) (x0 : Int) (x1 : List Bool) : run test Try.env true noX true 400 ⟨44, hd Try.f44 0, zipT [1, 2, 7, 8, 9] [PV.int IntKind.i64 v, PV.ptr (PA.mk (2) (0) (0) (0)),
 PV.loose (PA.mk (0) (3) ar (0)) nr, PV.int IntKind.i64 (↑nr : Int),
 PV.int IntKind.i64 x0], [[(2, (true, Blk.cells
 [PV.loose (PA.mk (0) (3) ar (0)) nr,
 PV.own (1) (1) (List.length x1)]))], [(0, (false, .cols mr [.int .i64 tr, .int .i64 vr, .int .i64 gr])), (1, (true, Blk.cols (List.length x1) [Col.bool fun (j : Nat) => S.at' x1 j]))]], 3⟩ (proj 2 [1, 2, 7, 8, 9] Kst Kret) =
  T44_0 test Kst Kret ar nr mr tr vr gr no mo to v x0 x1 := by kernel_rfl
set_option maxRecDepth 100000 in
theorem be44 (ar nr mr : Nat) (tr : Nat → Int) (vr : Nat → Int) (gr : Nat → Int) (no mo : Nat) (to : Nat → Bool) (v : Int) (Kst : KS) (Kret : KR) (x : St44 ⊕ Rt44) (hS : HS 2 400 ((I44 ar nr mr tr vr gr no mo to v)) Kst x) (hR : HR 2 400 ((V44 ar nr mr tr vr gr no mo to v)) (fun r => [newL (2 + 1) ((N44 ar nr mr tr vr gr no mo to v) r) ++ [(0, (false, .cols mr [.int .i64 tr, .int .i64 vr, .int .i64 gr])), (1, (true, ((W44 ar nr mr tr vr gr no mo to v) r 1)))]]) Kret x) (h : (some (.inl (.h0 ((0 : Int)) (S.mkl no fun (j : Nat) => to j))) : Option (St44 ⊕ Rt44)) = some x) : Te44 cond Kst Kret ar nr mr tr vr gr no mo to v := by
  unfold Te44
  exact stop_at hS _ h (fun n => bif Nat.beq n 2 then 2 else n) rfl rfl rfl ⟨(rn_int rfl), ⟨(rn_ptr (use_own rfl) rfl rfl), ⟨(rn_loose (use_lo rfl) rfl rfl rfl), ⟨(rn_int rfl), ⟨(rn_int rfl), trivial⟩⟩⟩⟩⟩ rfl (entl_b (use_own rfl) rfl (by simp) (rb_cells ⟨(rn_loose (use_lo rfl) rfl rfl rfl), (rn_own (use_lo rfl) rfl mkl_len), trivial⟩) (entl_bor (use_lo rfl) rfl rfl (entl_new (use_lo rfl) rfl (Nat.le_of_eq mkl_len) (rcs_bool (fun _ hj => col_mkl (fun (t : Bool) => t) hj) rcs_nil) entl_nil)))
set_option maxRecDepth 100000 in
theorem b44_0 (ar nr mr : Nat) (tr : Nat → Int) (vr : Nat → Int) (gr : Nat → Int) (no mo : Nat) (to : Nat → Bool) (v : Int) (Kst : KS) (Kret : KR) (x : St44 ⊕ Rt44) (hS : HS 2 400 ((I44 ar nr mr tr vr gr no mo to v)) Kst x) (hR : HR 2 400 ((V44 ar nr mr tr vr gr no mo to v)) (fun r => [newL (2 + 1) ((N44 ar nr mr tr vr gr no mo to v) r) ++ [(0, (false, .cols mr [.int .i64 tr, .int .i64 vr, .int .i64 gr])), (1, (true, ((W44 ar nr mr tr vr gr no mo to v) r 1)))]]) Kret x) (x0 : Int) (x1 : List Bool) (h : (bif (decide (x0 < (↑nr : Int)))
 then (bif (decide ((0 : Int) ≤ x0 ∧ x0 < (↑nr : Int)))
 then (bif (decide (Int.toNat x0 + ar < mr))
 then (bif (decide (v ≥ tr (Int.toNat x0 + ar)))
 then (bif (decide ((0 : Int) ≤ x0 ∧ x0 < (↑(List.length x1) : Int)))
 then (bif (decide (Int.toNat x0 < List.length x1))
 then (bif (lim IntKind.i64 (x0 + (1 : Int)))
 then (some (.inl (.h0 (x0 + (1 : Int)) (S.mkl (List.length x1) fun (j : Nat) => bif Nat.beq j (Int.toNat x0) then true else S.at' x1 j))))
 else (none))
 else (none))
 else (none))
 else (bif (decide (v ≤ vr (Int.toNat x0 + ar)))
 then (bif (decide ((0 : Int) ≤ x0 ∧ x0 < (↑(List.length x1) : Int)))
 then (bif (decide (Int.toNat x0 < List.length x1))
 then (bif (lim IntKind.i64 (x0 + (1 : Int)))
 then (some (.inl (.h0 (x0 + (1 : Int)) (S.mkl (List.length x1) fun (j : Nat) => bif Nat.beq j (Int.toNat x0) then false else S.at' x1 j))))
 else (none))
 else (none))
 else (none))
 else (bif (lim IntKind.i64 (x0 + (1 : Int)))
 then (some (.inl (.h0 (x0 + (1 : Int)) (x1))))
 else (none))))
 else (none))
 else (none))
 else (some (.inr (x1))) : Option (St44 ⊕ Rt44)) = some x) : T44_0 cond Kst Kret ar nr mr tr vr gr no mo to v x0 x1 := by
  unfold T44_0
  exact bif_split h
   (fun c0 h => bif_split h
   (fun c1 h => bif_split h
   (fun c2 h => cond_yes c2 (cond_yes c2 (bif_split h
   (fun c3 h => cond_yes c3 (bif_split h
   (fun c4 h => bif_split h
   (fun c5 h => bif_split h
   (fun c6 h => stop_at hS _ h (fun n => bif Nat.beq n 2 then 2 else n) rfl rfl rfl ⟨(rn_int rfl), ⟨(rn_ptr (use_own rfl) rfl rfl), ⟨(rn_loose (use_lo rfl) rfl rfl rfl), ⟨(rn_int rfl), ⟨(rn_int rfl), trivial⟩⟩⟩⟩⟩ rfl (entl_b (use_own rfl) rfl (by simp) (rb_cells ⟨(rn_loose (use_lo rfl) rfl rfl rfl), (rn_own (use_lo rfl) rfl mkl_len), trivial⟩) (entl_bor (use_lo rfl) rfl rfl (entl_new (use_lo rfl) rfl (Nat.le_of_eq mkl_len) (rcs_bool (fun _ hj => col_mkl (fun (t : Bool) => t) hj) rcs_nil) entl_nil))))
   (fun c6 h => no_some h))
   (fun c5 h => no_some h))
   (fun c4 h => no_some h)))
   (fun c3 h => bif_split h
   (fun c4 h => cond_no c3 (bif_split h
   (fun c5 h => bif_split h
   (fun c6 h => bif_split h
   (fun c7 h => stop_at hS _ h (fun n => bif Nat.beq n 2 then 2 else n) rfl rfl rfl ⟨(rn_int rfl), ⟨(rn_ptr (use_own rfl) rfl rfl), ⟨(rn_loose (use_lo rfl) rfl rfl rfl), ⟨(rn_int rfl), ⟨(rn_int rfl), trivial⟩⟩⟩⟩⟩ rfl (entl_b (use_own rfl) rfl (by simp) (rb_cells ⟨(rn_loose (use_lo rfl) rfl rfl rfl), (rn_own (use_lo rfl) rfl mkl_len), trivial⟩) (entl_bor (use_lo rfl) rfl rfl (entl_new (use_lo rfl) rfl (Nat.le_of_eq mkl_len) (rcs_bool (fun _ hj => col_mkl (fun (t : Bool) => t) hj) rcs_nil) entl_nil))))
   (fun c7 h => no_some h))
   (fun c6 h => no_some h))
   (fun c5 h => no_some h)))
   (fun c4 h => bif_split h
   (fun c5 h => stop_at hS _ h (fun n => bif Nat.beq n 2 then 2 else n) rfl rfl rfl ⟨(rn_int rfl), ⟨(rn_ptr (use_own rfl) rfl rfl), ⟨(rn_loose (use_lo rfl) rfl rfl rfl), ⟨(rn_int rfl), ⟨(rn_int rfl), trivial⟩⟩⟩⟩⟩ rfl (entl_b (use_own rfl) rfl (by simp) (rb_cells ⟨(rn_loose (use_lo rfl) rfl rfl rfl), (rn_own (use_lo rfl) rfl rfl), trivial⟩) (entl_bor (use_lo rfl) rfl rfl (entl_new (use_lo rfl) rfl (Nat.le_of_eq rfl) (rcs_bool (fun _ _ => rfl) rcs_nil) entl_nil))))
   (fun c5 h => no_some h))))))
   (fun c2 h => no_some h))
   (fun c1 h => no_some h))
   (fun c0 h => ret_at hR _ h (fun n => n) rfl rfl rfl (rn_tup trivial) rfl (entl_bor (use_lo rfl) rfl rfl (entl_new (use_lo rfl) rfl (Nat.le_of_eq rfl) (rcs_bool (fun _ _ => rfl) rcs_nil) entl_nil)))
theorem a44 (ar nr mr : Nat) (tr : Nat → Int) (vr : Nat → Int) (gr : Nat → Int) (no mo : Nat) (to : Nat → Bool) (v : Int) {r : Rt44} (h : Goes ((q44 ar nr mr tr vr gr no mo to v)) ((p44 ar nr mr tr vr gr no mo to v)) r) : CallR Try.prog 44 [.agg [.loose ⟨0, 3, ar, 0⟩ nr, .own 1 1 no], .int .i64 v] [[(0, (false, .cols mr [.int .i64 tr, .int .i64 vr, .int .i64 gr])), (1, (true, .cols no [.bool to]))]] 2 ((V44 ar nr mr tr vr gr no mo to v) r) ((fun r => [newL (2 + 1) ((N44 ar nr mr tr vr gr no mo to v) r) ++ [(0, (false, .cols mr [.int .i64 tr, .int .i64 vr, .int .i64 gr])), (1, (true, ((W44 ar nr mr tr vr gr no mo to v) r 1)))]]) r) 400 ∧ ∃ F, Try.prog.funcs[44]? = some F ∧ F.body.isSome = true ∧ (F.name == "runtime.NumGoroutine") = false := by
  refine dec_calls (f := 44) (lo := 2) (hi := 400) (H := [[(0, (false, .cols mr [.int .i64 tr, .int .i64 vr, .int .i64 gr])), (1, (true, .cols no [.bool to]))]]) (args := [.agg [.loose ⟨0, 3, ar, 0⟩ nr, .own 1 1 no], .int .i64 v]) Try.envOk Try.mixed noX_ok ((I44 ar nr mr tr vr gr no mo to v)) ((V44 ar nr mr tr vr gr no mo to v)) (fun r => [newL (2 + 1) ((N44 ar nr mr tr vr gr no mo to v) r) ++ [(0, (false, .cols mr [.int .i64 tr, .int .i64 vr, .int .i64 gr])), (1, (true, ((W44 ar nr mr tr vr gr no mo to v) r 1)))]]) (fn := mkFn Try.f44) (ts := [1, 2, 7, 8, 9]) (n := 400) rfl (by decide) (by simp) (names_of rfl) ?_ ?_ ?_ h
  · intro s; cases s <;> exact ⟨hd_ok _ _, by simp [I44], names_of rfl, Nat.le_of_ble_eq_true rfl⟩
  · intro Kst Kret x hS hR h
    exact Holds.eq (te44 cond Kst Kret ar nr mr tr vr gr no mo to v) (be44 ar nr mr tr vr gr no mo to v Kst Kret x hS hR h)
  · intro Kst Kret x hS hR s h
    cases s with
    | h0 x0 x1 => exact Holds.eq (t44_0 cond Kst Kret ar nr mr tr vr gr no mo to v x0 x1) (b44_0 ar nr mr tr vr gr no mo to v Kst Kret x hS hR x0 x1 h)
noncomputable def k44 : Con := ⟨44, [.agg [.list [.int .i64, .int .i64, .int .i64], .own [.bool]], .one (.plain (.int .i64))], fun (x : ((Nat × Nat × Nat × (Nat → Int) × (Nat → Int) × (Nat → Int) × Unit) × (Nat × Nat × (Nat → Bool) × Unit) × Unit) × Int × Unit) => (fun (ar nr mr : Nat) (tr : Nat → Int) (vr : Nat → Int) (gr : Nat → Int) (no mo : Nat) (to : Nat → Bool) (v : Int) => decide (ar + nr ≤ mr ∧ nr ≤ 1000000 ∧ no = nr)) x.1.1.1 x.1.1.2.1 x.1.1.2.2.1 x.1.1.2.2.2.1 x.1.1.2.2.2.2.1 x.1.1.2.2.2.2.2.1 x.1.2.1.1 x.1.2.1.2.1 x.1.2.1.2.2.1 x.2.1, fun (x : ((Nat × Nat × Nat × (Nat → Int) × (Nat → Int) × (Nat → Int) × Unit) × (Nat × Nat × (Nat → Bool) × Unit) × Unit) × Int × Unit) => (fun (ar nr mr : Nat) (tr : Nat → Int) (vr : Nat → Int) (gr : Nat → Int) (no mo : Nat) (to : Nat → Bool) (v : Int) => (V44 ar nr mr tr vr gr no mo to v) (S.mkl no fun j => S.aft (tr (j + ar)) (vr (j + ar)) (to j) v)) x.1.1.1 x.1.1.2.1 x.1.1.2.2.1 x.1.1.2.2.2.1 x.1.1.2.2.2.2.1 x.1.1.2.2.2.2.2.1 x.1.2.1.1 x.1.2.1.2.1 x.1.2.1.2.2.1 x.2.1, fun (x : ((Nat × Nat × Nat × (Nat → Int) × (Nat → Int) × (Nat → Int) × Unit) × (Nat × Nat × (Nat → Bool) × Unit) × Unit) × Int × Unit) => (fun (ar nr mr : Nat) (tr : Nat → Int) (vr : Nat → Int) (gr : Nat → Int) (no mo : Nat) (to : Nat → Bool) (v : Int) => (N44 ar nr mr tr vr gr no mo to v) (S.mkl no fun j => S.aft (tr (j + ar)) (vr (j + ar)) (to j) v)) x.1.1.1 x.1.1.2.1 x.1.1.2.2.1 x.1.1.2.2.2.1 x.1.1.2.2.2.2.1 x.1.1.2.2.2.2.2.1 x.1.2.1.1 x.1.2.1.2.1 x.1.2.1.2.2.1 x.2.1, fun (x : ((Nat × Nat × Nat × (Nat → Int) × (Nat → Int) × (Nat → Int) × Unit) × (Nat × Nat × (Nat → Bool) × Unit) × Unit) × Int × Unit) => (fun (ar nr mr : Nat) (tr : Nat → Int) (vr : Nat → Int) (gr : Nat → Int) (no mo : Nat) (to : Nat → Bool) (v : Int) => (W44 ar nr mr tr vr gr no mo to v) (S.mkl no fun j => S.aft (tr (j + ar)) (vr (j + ar)) (to j) v)) x.1.1.1 x.1.1.2.1 x.1.1.2.2.1 x.1.1.2.2.2.1 x.1.1.2.2.2.2.1 x.1.1.2.2.2.2.2.1 x.1.2.1.1 x.1.2.1.2.1 x.1.2.1.2.2.1 x.2.1⟩
theorem s44' (ar nr mr : Nat) (tr : Nat → Int) (vr : Nat → Int) (gr : Nat → Int) (no mo : Nat) (to : Nat → Bool) (v : Int) (hp : ar + nr ≤ mr ∧ nr ≤ 1000000 ∧ no = nr) : ∀ (k i : Nat) (l : List Bool), i + k = nr → Holds (l = (S.mkl no fun j => if j < i then S.aft (tr (j + ar)) (vr (j + ar)) (to j) v else to j)) → Comes (q44 ar nr mr tr vr gr no mo to v) (.h0 (i : Int) l) (S.mkl no fun j => S.aft (tr (j + ar)) (vr (j + ar)) (to j) v) := by
  obtain ⟨hp1, hp2, hp3⟩ := hp
  intro k
  induction k with
  | zero =>
    intro i l hi el
    have hl : l.length = no := by rw [el.get]; exact mkl_len
    apply Comes.of
    show Goes _ _ _
    unfold q44
    repeat' first
      | with_reducible refine goes_if (fun h => ?_) (fun h => ?_) <;> (try simp only [lim64, decide_eq_true_eq, decide_eq_false_iff_not, Int.toNat_natCast, toNat_pred, toNat_succ, Option.getD_some, Option.getD_none, Bool.not_eq_true', Bool.not_eq_false', Bool.and_eq_true, Bool.or_eq_true, Bool.and_eq_false_iff, Bool.or_eq_false_iff, bne_iff_ne, beq_iff_eq, bne_eq_false_iff_eq, beq_eq_false_iff_ne, ne_eq, not_and, Int.not_le, Int.not_lt, ge_iff_le, gt_iff_lt, Nat.not_lt, Nat.not_le, Bool.not_eq_true, Bool.not_eq_false, Bool.true_eq_false, Bool.false_eq_true, not_false_eq_true, not_true_eq_false] at h)
      | exact goes_none.mpr (by omega)
    all_goals first | (exfalso; omega) | (obtain rfl : nr = i := (by omega);  refine goes_inr.mpr ?_; rw [el.get]; exact mkl_congr fun j hj => if_pos (by omega))
  | succ k ih =>
    intro i l hi el
    have hl : l.length = no := by rw [el.get]; exact mkl_len
    apply Comes.of
    show Goes _ _ _
    unfold q44
    repeat' first
      | with_reducible refine goes_if (fun h => ?_) (fun h => ?_) <;> (try simp only [lim64, decide_eq_true_eq, decide_eq_false_iff_not, Int.toNat_natCast, toNat_pred, toNat_succ, Option.getD_some, Option.getD_none, Bool.not_eq_true', Bool.not_eq_false', Bool.and_eq_true, Bool.or_eq_true, Bool.and_eq_false_iff, Bool.or_eq_false_iff, bne_iff_ne, beq_iff_eq, bne_eq_false_iff_eq, beq_eq_false_iff_ne, ne_eq, not_and, Int.not_le, Int.not_lt, ge_iff_le, gt_iff_lt, Nat.not_lt, Nat.not_le, Bool.not_eq_true, Bool.not_eq_false, Bool.true_eq_false, Bool.false_eq_true, not_false_eq_true, not_true_eq_false] at h)
      | exact goes_none.mpr (by omega)
    all_goals first
      | (exfalso; omega)
      | (refine ih (i + 1) _ (by omega) ⟨?_⟩; rw [hl, el.get]; exact upd_step (by unfold S.aft; simp only [Bool.cond_eq_ite, decide_eq_true_eq, Int.toNat_natCast]; (repeat' split) <;> first | rfl | omega)) | (refine ih (i + 1) _ (by omega) ⟨?_⟩; rw [el.get]; exact same_step (by unfold S.aft; simp only [Bool.cond_eq_ite, decide_eq_true_eq, Int.toNat_natCast]; (repeat' split) <;> first | rfl | omega))
      | (refine ih (i + 1) _ (by omega) ⟨?_⟩ <;> (simp only [Bool.cond_eq_ite, decide_eq_true_eq, ← el.get]; (repeat' split) <;> first | rfl | omega | (exfalso; omega) | (exfalso; simp_all; done) | (exfalso; simp_all; omega) | simp_all))
theorem s44 (ar nr mr : Nat) (tr : Nat → Int) (vr : Nat → Int) (gr : Nat → Int) (no mo : Nat) (to : Nat → Bool) (v : Int) (hp : ar + nr ≤ mr ∧ nr ≤ 1000000 ∧ no = nr) : Goes ((q44 ar nr mr tr vr gr no mo to v)) ((p44 ar nr mr tr vr gr no mo to v)) (S.mkl no fun j => S.aft (tr (j + ar)) (vr (j + ar)) (to j) v) := by
  have hm := s44' ar nr mr tr vr gr no mo to v hp nr 0 (S.mkl no fun j => to j) (by omega) ⟨upd_none⟩
  show Goes _ _ _
  unfold p44
  repeat' first
    | with_reducible refine goes_if (fun h => ?_) (fun h => ?_) <;> (try simp only [lim64, decide_eq_true_eq, decide_eq_false_iff_not, Int.toNat_natCast, toNat_pred, toNat_succ, Option.getD_some, Option.getD_none, Bool.not_eq_true', Bool.not_eq_false', Bool.and_eq_true, Bool.or_eq_true, Bool.and_eq_false_iff, Bool.or_eq_false_iff, bne_iff_ne, beq_iff_eq, bne_eq_false_iff_eq, beq_eq_false_iff_ne, ne_eq, not_and, Int.not_le, Int.not_lt, ge_iff_le, gt_iff_lt, Nat.not_lt, Nat.not_le, Bool.not_eq_true, Bool.not_eq_false, Bool.true_eq_false, Bool.false_eq_true, not_false_eq_true, not_true_eq_false] at h)
    | exact goes_none.mpr (by omega)
  all_goals first | (exfalso; omega) | exact hm

theorem k44_ok : k44.ok Try.prog := by
  intro x hx
  obtain ⟨⟨⟨ar, nr, mr, tr, vr, gr, _⟩, ⟨no, mo, to, _⟩, _⟩, v, _⟩ := x
  obtain ⟨h1, h2⟩ := a44 ar nr mr tr vr gr no mo to v (s44 ar nr mr tr vr gr no mo to v (of_decide_eq_true hx))
  exact ⟨⟨400, (by decide : 2 + 1 + 0 ≤ 400), h1⟩, h2⟩


end Go.Ev
