/-
  Field, in the program and in the reference.
-/
import Derived.Test.YtccojphjkaikeaaMA4
namespace Go.Ev
open Go.Proofs
set_option linter.unusedVariables false
set_option linter.unusedSimpArgs false
set_option maxRecDepth 100000
noncomputable def yA5 (test : Bool → Prop → Prop → Prop) : Ext := consX test [k21, k22]
theorem yA5_ok : ExtOk Try.prog (yA5 cond) := consX_ok (l := [k21, k22]) ⟨k21_ok, k22_ok, trivial⟩
inductive St17 where
  | h0 (x0 : Int) (x1 : Int)
abbrev Rt17 := Int × Int
noncomputable def V17 (ar nr mr : Nat) (tr : Nat → Int) (vr : Nat → Int) (gr : Nat → Int) (ao no mo : Nat) (to : Nat → Bool) (r : Rt17) : PV := PV.tup [PV.int IntKind.i64 r.1, PV.int IntKind.i64 r.2]
noncomputable def N17 (ar nr mr : Nat) (tr : Nat → Int) (vr : Nat → Int) (gr : Nat → Int) (ao no mo : Nat) (to : Nat → Bool) (r : Rt17) : List Blk := []
noncomputable def I17 (ar nr mr : Nat) (tr : Nat → Int) (vr : Nat → Int) (gr : Nat → Int) (ao no mo : Nat) (to : Nat → Bool) : St17 → Hd
  | .h0 x0 x1 => ⟨hd Try.f17 0, [PV.ptr (PA.mk (2) (0) (0) (0)), PV.int IntKind.i64 x0,
 PV.loose (PA.mk (0) (3) ar (0)) nr, PV.int IntKind.i64 (↑nr : Int),
 PV.int IntKind.i64 x1], [[(2, (true, Blk.cells
 [PV.loose (PA.mk (0) (3) ar (0)) nr,
 PV.loose (PA.mk (1) (1) ao (0)) no]))], [(0, (false, .cols mr [.int .i64 tr, .int .i64 vr, .int .i64 gr])), (1, (false, .cols mo [.bool to]))]], 3⟩
noncomputable def q17 (ar nr mr : Nat) (tr : Nat → Int) (vr : Nat → Int) (gr : Nat → Int) (ao no mo : Nat) (to : Nat → Bool) : St17 → Option (St17 ⊕ Rt17)
  | .h0 x0 x1 => bif (decide (x1 < (↑nr : Int)))
 then (bif (decide ((0 : Int) ≤ x1 ∧ x1 < (↑nr : Int)))
 then (bif (decide (Int.toNat x1 + ar < mr))
 then (bif (decide ((0 : Int) ≤ x1 ∧ x1 < (↑no : Int)))
 then (bif (decide (Int.toNat x1 + ao < mo))
 then (bif (to (Int.toNat x1 + ao))
 then (bif (lim IntKind.i64 (x0 + gr (Int.toNat x1 + ar)))
 then (bif (lim IntKind.i64 (x1 + (1 : Int)))
 then (some (.inl (.h0 (x0 + gr (Int.toNat x1 + ar)) (x1 + (1 : Int)))))
 else (none))
 else (none))
 else (bif (lim IntKind.i64 (x1 + (1 : Int)))
 then (some (.inl (.h0 (x0) (x1 + (1 : Int)))))
 else (none)))
 else (none))
 else (none))
 else (none))
 else (none))
 else (some (.inr (x0, (0 : Int))))
noncomputable def p17 (ar nr mr : Nat) (tr : Nat → Int) (vr : Nat → Int) (gr : Nat → Int) (ao no mo : Nat) (to : Nat → Bool) : Option (St17 ⊕ Rt17) := bif (decide (ar + nr ≤ mr ∧ nr ≤ 1000000))
 then (bif (S.magE nr (fun (j : Nat) => tr (j + ar)) (fun (j : Nat) => vr (j + ar)) (fun (j : Nat) => gr (j + ar)) no !=
 (0 : Int))
 then (some (.inr ((0 : Int), S.magE nr (fun (j : Nat) => tr (j + ar)) (fun (j : Nat) => vr (j + ar)) (fun (j : Nat) => gr (j + ar)) no)))
 else (some (.inl (.h0 ((0 : Int)) ((0 : Int))))))
 else (none)
noncomputable def Te17 (test : Bool → Prop → Prop → Prop) (Kst : KS) (Kret : KR) (ar nr mr : Nat) (tr : Nat → Int) (vr : Nat → Int) (gr : Nat → Int) (ao no mo : Nat) (to : Nat → Bool) : Prop :=
  test (decide (ar + nr ≤ mr ∧ nr ≤ 1000000))
 (test (S.magE nr (fun (j : Nat) => tr (j + ar)) (fun (j : Nat) => vr (j + ar)) (fun (j : Nat) => gr (j + ar)) no !=
 (0 : Int))
 (Kret (PV.tup
 [PV.int IntKind.i64 (0 : Int),
 PV.int IntKind.i64
 (S.magE nr (fun (j : Nat) => tr (j + ar)) (fun (j : Nat) => vr (j + ar)) (fun (j : Nat) => gr (j + ar)) no)]) ([[(1, false, Blk.cols mo [Col.bool to]),
 (0, false,
 Blk.cols mr
 [Col.int IntKind.i64 tr, Col.int IntKind.i64 vr, Col.int IntKind.i64 gr])]]) (4))
 (Kst (hd Try.f17 0) ([PV.ptr (PA.mk (2) (0) (0) (0)), PV.int IntKind.i64 (0 : Int),
 PV.loose (PA.mk (0) (3) ar (0)) nr, PV.int IntKind.i64 (↑nr : Int),
 PV.int IntKind.i64 (0 : Int)]) ([[(1, false, Blk.cols mo [Col.bool to]),
 (0, false,
 Blk.cols mr
 [Col.int IntKind.i64 tr, Col.int IntKind.i64 vr, Col.int IntKind.i64 gr]),
 (2, true,
 Blk.cells
 [PV.loose (PA.mk (0) (3) ar (0)) nr,
 PV.loose (PA.mk (1) (1) ao (0)) no])]]) (4)))
 (False)
set_option maxRecDepth 100000 in
theorem te17 (test : Bool → Prop → Prop → Prop) (Kst : KS) (Kret : KR) (ar nr mr : Nat) (tr : Nat → Int) (vr : Nat → Int) (gr : Nat → Int) (ao no mo : Nat) (to : Nat → Bool) : run test Try.env true (yA5 test) true 400 ⟨17, [.cd (mkFn Try.f17).body], argT 0 [.agg [.loose ⟨0, 3, ar, 0⟩ nr, .loose ⟨1, 1, ao, 0⟩ no]], [[], [(0, (false, .cols mr [.int .i64 tr, .int .i64 vr, .int .i64 gr])), (1, (false, .cols mo [.bool to]))]], 2⟩ (proj 2 [1, 5, 14, 15, 16] Kst Kret) =
  Te17 test Kst Kret ar nr mr tr vr gr ao no mo to := by kernel_rfl
noncomputable def T17_0 (test : Bool → Prop → Prop → Prop) (Kst : KS) (Kret : KR) (ar nr mr : Nat) (tr : Nat → Int) (vr : Nat → Int) (gr : Nat → Int) (ao no mo : Nat) (to : Nat → Bool) (x0 : Int) (x1 : Int) : Prop :=
  test (decide (x1 < (↑nr : Int)))
 (test (decide ((0 : Int) ≤ x1 ∧ x1 < (↑nr : Int)))
 (test (decide (Int.toNat x1 + ar < mr))
 (test (decide (Int.toNat x1 + ar < mr))
 (test (decide (Int.toNat x1 + ar < mr))
 (test (decide ((0 : Int) ≤ x1 ∧ x1 < (↑no : Int)))
 (test (decide (Int.toNat x1 + ao < mo))
 (test (to (Int.toNat x1 + ao))
 (test (lim IntKind.i64 (x0 + gr (Int.toNat x1 + ar)))
 (test (lim IntKind.i64 (x1 + (1 : Int)))
 (Kst (hd Try.f17 0) ([PV.ptr (PA.mk (2) (0) (0) (0)),
 PV.int IntKind.i64 (x0 + gr (Int.toNat x1 + ar)),
 PV.loose (PA.mk (0) (3) ar (0)) nr, PV.int IntKind.i64 (↑nr : Int),
 PV.int IntKind.i64 (x1 + (1 : Int))]) ([[(1, false, Blk.cols mo [Col.bool to]),
 (0, false,
 Blk.cols mr
 [Col.int IntKind.i64 tr, Col.int IntKind.i64 vr, Col.int IntKind.i64 gr]),
 (2, true,
 Blk.cells
 [PV.loose (PA.mk (0) (3) ar (0)) nr,
 PV.loose (PA.mk (1) (1) ao (0)) no])]]) (4))
 (False))
 (False))
 (test (lim IntKind.i64 (x1 + (1 : Int)))
 (Kst (hd Try.f17 0) ([PV.ptr (PA.mk (2) (0) (0) (0)), PV.int IntKind.i64 x0,
 PV.loose (PA.mk (0) (3) ar (0)) nr, PV.int IntKind.i64 (↑nr : Int),
 PV.int IntKind.i64 (x1 + (1 : Int))]) ([[(1, false, Blk.cols mo [Col.bool to]),
 (0, false,
 Blk.cols mr
 [Col.int IntKind.i64 tr, Col.int IntKind.i64 vr, Col.int IntKind.i64 gr]),
 (2, true,
 Blk.cells
 [PV.loose (PA.mk (0) (3) ar (0)) nr,
 PV.loose (PA.mk (1) (1) ao (0)) no])]]) (4))
 (False)))
 (False))
 (False))
 (False))
 (False))
 (False))
 (False))
 (Kret (PV.tup [PV.int IntKind.i64 x0, PV.int IntKind.i64 (0 : Int)]) ([[(1, false, Blk.cols mo [Col.bool to]),
 (0, false,
 Blk.cols mr
 [Col.int IntKind.i64 tr, Col.int IntKind.i64 vr, Col.int IntKind.i64 gr])]]) (3))
set_option maxRecDepth 100000 in
theorem t17_0 (test : Bool → Prop → Prop → Prop) (Kst : KS) (Kret : KR) (ar nr mr : Nat) (tr : Nat → Int) (vr : Nat → Int) (gr : Nat → Int) (ao no mo : Nat) (to : Nat → Bool) (x0 : Int) (x1 : Int) : run test Try.env true (yA5 test) true 400 ⟨17, hd Try.f17 0, zipT [1, 5, 14, 15, 16] [PV.ptr (PA.mk (2) (0) (0) (0)), PV.int IntKind.i64 x0,
 PV.loose (PA.mk (0) (3) ar (0)) nr, PV.int IntKind.i64 (↑nr : Int),
 PV.int IntKind.i64 x1], [[(2, (true, Blk.cells
 [PV.loose (PA.mk (0) (3) ar (0)) nr,
 PV.loose (PA.mk (1) (1) ao (0)) no]))], [(0, (false, .cols mr [.int .i64 tr, .int .i64 vr, .int .i64 gr])), (1, (false, .cols mo [.bool to]))]], 3⟩ (proj 2 [1, 5, 14, 15, 16] Kst Kret) =
  T17_0 test Kst Kret ar nr mr tr vr gr ao no mo to x0 x1 := by kernel_rfl
set_option maxRecDepth 100000 in
theorem be17 (ar nr mr : Nat) (tr : Nat → Int) (vr : Nat → Int) (gr : Nat → Int) (ao no mo : Nat) (to : Nat → Bool) (Kst : KS) (Kret : KR) (x : St17 ⊕ Rt17) (hS : HS 2 400 ((I17 ar nr mr tr vr gr ao no mo to)) Kst x) (hR : HR 2 400 ((V17 ar nr mr tr vr gr ao no mo to)) (fun r => [newL (2 + 1) ((N17 ar nr mr tr vr gr ao no mo to) r) ++ [(0, (false, .cols mr [.int .i64 tr, .int .i64 vr, .int .i64 gr])), (1, (false, .cols mo [.bool to]))]]) Kret x) (h : (bif (decide (ar + nr ≤ mr ∧ nr ≤ 1000000))
 then (bif (S.magE nr (fun (j : Nat) => tr (j + ar)) (fun (j : Nat) => vr (j + ar)) (fun (j : Nat) => gr (j + ar)) no !=
 (0 : Int))
 then (some (.inr ((0 : Int), S.magE nr (fun (j : Nat) => tr (j + ar)) (fun (j : Nat) => vr (j + ar)) (fun (j : Nat) => gr (j + ar)) no)))
 else (some (.inl (.h0 ((0 : Int)) ((0 : Int))))))
 else (none) : Option (St17 ⊕ Rt17)) = some x) : Te17 cond Kst Kret ar nr mr tr vr gr ao no mo to := by
  unfold Te17
  exact bif_split h
   (fun c0 h => bif_split h
   (fun c1 h => ret_at hR _ h (fun n => n) rfl rfl rfl (rn_tup ⟨(rn_int rfl), (rn_int rfl), trivial⟩) rfl (entl_bor (use_lo rfl) rfl rfl (entl_bor (use_lo rfl) rfl rfl entl_nil)))
   (fun c1 h => stop_at hS _ h (fun n => bif Nat.beq n 2 then 2 else n) rfl rfl rfl ⟨(rn_ptr (use_own rfl) rfl rfl), ⟨(rn_int rfl), ⟨(rn_loose (use_lo rfl) rfl rfl rfl), ⟨(rn_int rfl), ⟨(rn_int rfl), trivial⟩⟩⟩⟩⟩ rfl (entl_b (use_own rfl) rfl (by simp) (rb_cells ⟨(rn_loose (use_lo rfl) rfl rfl rfl), (rn_loose (use_lo rfl) rfl rfl rfl), trivial⟩) (entl_bor (use_lo rfl) rfl rfl (entl_bor (use_lo rfl) rfl rfl entl_nil)))))
   (fun c0 h => no_some h)
set_option maxRecDepth 100000 in
theorem b17_0 (ar nr mr : Nat) (tr : Nat → Int) (vr : Nat → Int) (gr : Nat → Int) (ao no mo : Nat) (to : Nat → Bool) (Kst : KS) (Kret : KR) (x : St17 ⊕ Rt17) (hS : HS 2 400 ((I17 ar nr mr tr vr gr ao no mo to)) Kst x) (hR : HR 2 400 ((V17 ar nr mr tr vr gr ao no mo to)) (fun r => [newL (2 + 1) ((N17 ar nr mr tr vr gr ao no mo to) r) ++ [(0, (false, .cols mr [.int .i64 tr, .int .i64 vr, .int .i64 gr])), (1, (false, .cols mo [.bool to]))]]) Kret x) (x0 : Int) (x1 : Int) (h : (bif (decide (x1 < (↑nr : Int)))
 then (bif (decide ((0 : Int) ≤ x1 ∧ x1 < (↑nr : Int)))
 then (bif (decide (Int.toNat x1 + ar < mr))
 then (bif (decide ((0 : Int) ≤ x1 ∧ x1 < (↑no : Int)))
 then (bif (decide (Int.toNat x1 + ao < mo))
 then (bif (to (Int.toNat x1 + ao))
 then (bif (lim IntKind.i64 (x0 + gr (Int.toNat x1 + ar)))
 then (bif (lim IntKind.i64 (x1 + (1 : Int)))
 then (some (.inl (.h0 (x0 + gr (Int.toNat x1 + ar)) (x1 + (1 : Int)))))
 else (none))
 else (none))
 else (bif (lim IntKind.i64 (x1 + (1 : Int)))
 then (some (.inl (.h0 (x0) (x1 + (1 : Int)))))
 else (none)))
 else (none))
 else (none))
 else (none))
 else (none))
 else (some (.inr (x0, (0 : Int)))) : Option (St17 ⊕ Rt17)) = some x) : T17_0 cond Kst Kret ar nr mr tr vr gr ao no mo to x0 x1 := by
  unfold T17_0
  exact bif_split h
   (fun c0 h => bif_split h
   (fun c1 h => bif_split h
   (fun c2 h => cond_yes c2 (cond_yes c2 (bif_split h
   (fun c3 h => bif_split h
   (fun c4 h => bif_split h
   (fun c5 h => bif_split h
   (fun c6 h => bif_split h
   (fun c7 h => stop_at hS _ h (fun n => bif Nat.beq n 2 then 2 else n) rfl rfl rfl ⟨(rn_ptr (use_own rfl) rfl rfl), ⟨(rn_int rfl), ⟨(rn_loose (use_lo rfl) rfl rfl rfl), ⟨(rn_int rfl), ⟨(rn_int rfl), trivial⟩⟩⟩⟩⟩ rfl (entl_b (use_own rfl) rfl (by simp) (rb_cells ⟨(rn_loose (use_lo rfl) rfl rfl rfl), (rn_loose (use_lo rfl) rfl rfl rfl), trivial⟩) (entl_bor (use_lo rfl) rfl rfl (entl_bor (use_lo rfl) rfl rfl entl_nil))))
   (fun c7 h => no_some h))
   (fun c6 h => no_some h))
   (fun c5 h => bif_split h
   (fun c6 h => stop_at hS _ h (fun n => bif Nat.beq n 2 then 2 else n) rfl rfl rfl ⟨(rn_ptr (use_own rfl) rfl rfl), ⟨(rn_int rfl), ⟨(rn_loose (use_lo rfl) rfl rfl rfl), ⟨(rn_int rfl), ⟨(rn_int rfl), trivial⟩⟩⟩⟩⟩ rfl (entl_b (use_own rfl) rfl (by simp) (rb_cells ⟨(rn_loose (use_lo rfl) rfl rfl rfl), (rn_loose (use_lo rfl) rfl rfl rfl), trivial⟩) (entl_bor (use_lo rfl) rfl rfl (entl_bor (use_lo rfl) rfl rfl entl_nil))))
   (fun c6 h => no_some h)))
   (fun c4 h => no_some h))
   (fun c3 h => no_some h))))
   (fun c2 h => no_some h))
   (fun c1 h => no_some h))
   (fun c0 h => ret_at hR _ h (fun n => n) rfl rfl rfl (rn_tup ⟨(rn_int rfl), (rn_int rfl), trivial⟩) rfl (entl_bor (use_lo rfl) rfl rfl (entl_bor (use_lo rfl) rfl rfl entl_nil)))
theorem a17 (ar nr mr : Nat) (tr : Nat → Int) (vr : Nat → Int) (gr : Nat → Int) (ao no mo : Nat) (to : Nat → Bool) {r : Rt17} (h : Goes ((q17 ar nr mr tr vr gr ao no mo to)) ((p17 ar nr mr tr vr gr ao no mo to)) r) : CallR Try.prog 17 [.agg [.loose ⟨0, 3, ar, 0⟩ nr, .loose ⟨1, 1, ao, 0⟩ no]] [[(0, (false, .cols mr [.int .i64 tr, .int .i64 vr, .int .i64 gr])), (1, (false, .cols mo [.bool to]))]] 2 ((V17 ar nr mr tr vr gr ao no mo to) r) ((fun r => [newL (2 + 1) ((N17 ar nr mr tr vr gr ao no mo to) r) ++ [(0, (false, .cols mr [.int .i64 tr, .int .i64 vr, .int .i64 gr])), (1, (false, .cols mo [.bool to]))]]) r) 400 ∧ ∃ F, Try.prog.funcs[17]? = some F ∧ F.body.isSome = true ∧ (F.name == "runtime.NumGoroutine") = false := by
  refine dec_calls (f := 17) (lo := 2) (hi := 400) (H := [[(0, (false, .cols mr [.int .i64 tr, .int .i64 vr, .int .i64 gr])), (1, (false, .cols mo [.bool to]))]]) (args := [.agg [.loose ⟨0, 3, ar, 0⟩ nr, .loose ⟨1, 1, ao, 0⟩ no]]) Try.envOk Try.mixed yA5_ok ((I17 ar nr mr tr vr gr ao no mo to)) ((V17 ar nr mr tr vr gr ao no mo to)) (fun r => [newL (2 + 1) ((N17 ar nr mr tr vr gr ao no mo to) r) ++ [(0, (false, .cols mr [.int .i64 tr, .int .i64 vr, .int .i64 gr])), (1, (false, .cols mo [.bool to]))]]) (fn := mkFn Try.f17) (ts := [1, 5, 14, 15, 16]) (n := 400) rfl (by decide) (by simp) (names_of rfl) ?_ ?_ ?_ h
  · intro s; cases s <;> exact ⟨hd_ok _ _, by simp [I17], names_of rfl, Nat.le_of_ble_eq_true rfl⟩
  · intro Kst Kret x hS hR h
    exact Holds.eq (te17 cond Kst Kret ar nr mr tr vr gr ao no mo to) (be17 ar nr mr tr vr gr ao no mo to Kst Kret x hS hR h)
  · intro Kst Kret x hS hR s h
    cases s with
    | h0 x0 x1 => exact Holds.eq (t17_0 cond Kst Kret ar nr mr tr vr gr ao no mo to x0 x1) (b17_0 ar nr mr tr vr gr ao no mo to Kst Kret x hS hR x0 x1 h)
noncomputable def k17 : Con := ⟨17, [.agg [.list [.int .i64, .int .i64, .int .i64], .list [.bool]]], fun (x : ((Nat × Nat × Nat × (Nat → Int) × (Nat → Int) × (Nat → Int) × Unit) × (Nat × Nat × Nat × (Nat → Bool) × Unit) × Unit) × Unit) => (fun (ar nr mr : Nat) (tr : Nat → Int) (vr : Nat → Int) (gr : Nat → Int) (ao no mo : Nat) (to : Nat → Bool) => decide (ar + nr ≤ mr ∧ nr ≤ 1000000 ∧ ao + no ≤ mo ∧ no ≤ 1000000)) x.1.1.1 x.1.1.2.1 x.1.1.2.2.1 x.1.1.2.2.2.1 x.1.1.2.2.2.2.1 x.1.1.2.2.2.2.2.1 x.1.2.1.1 x.1.2.1.2.1 x.1.2.1.2.2.1 x.1.2.1.2.2.2.1, fun (x : ((Nat × Nat × Nat × (Nat → Int) × (Nat → Int) × (Nat → Int) × Unit) × (Nat × Nat × Nat × (Nat → Bool) × Unit) × Unit) × Unit) => (fun (ar nr mr : Nat) (tr : Nat → Int) (vr : Nat → Int) (gr : Nat → Int) (ao no mo : Nat) (to : Nat → Bool) => (V17 ar nr mr tr vr gr ao no mo to) (S.fieldS nr (fun j => tr (j + ar)) (fun j => vr (j + ar)) (fun j => gr (j + ar)) no (fun j => to (j + ao)))) x.1.1.1 x.1.1.2.1 x.1.1.2.2.1 x.1.1.2.2.2.1 x.1.1.2.2.2.2.1 x.1.1.2.2.2.2.2.1 x.1.2.1.1 x.1.2.1.2.1 x.1.2.1.2.2.1 x.1.2.1.2.2.2.1, fun (x : ((Nat × Nat × Nat × (Nat → Int) × (Nat → Int) × (Nat → Int) × Unit) × (Nat × Nat × Nat × (Nat → Bool) × Unit) × Unit) × Unit) => (fun (ar nr mr : Nat) (tr : Nat → Int) (vr : Nat → Int) (gr : Nat → Int) (ao no mo : Nat) (to : Nat → Bool) => (N17 ar nr mr tr vr gr ao no mo to) (S.fieldS nr (fun j => tr (j + ar)) (fun j => vr (j + ar)) (fun j => gr (j + ar)) no (fun j => to (j + ao)))) x.1.1.1 x.1.1.2.1 x.1.1.2.2.1 x.1.1.2.2.2.1 x.1.1.2.2.2.2.1 x.1.1.2.2.2.2.2.1 x.1.2.1.1 x.1.2.1.2.1 x.1.2.1.2.2.1 x.1.2.1.2.2.2.1, fun _ _ => .dead⟩
theorem s17' (ar nr mr : Nat) (tr : Nat → Int) (vr : Nat → Int) (gr : Nat → Int) (ao no mo : Nat) (to : Nat → Bool) (hp : ar + nr ≤ mr ∧ nr ≤ 1000000 ∧ ao + no ≤ mo ∧ no ≤ 1000000) (hv : S.magE nr (fun j => tr (j + ar)) (fun j => vr (j + ar)) (fun j => gr (j + ar)) no = 0) : ∀ k i : Nat, i + k = nr → Comes (q17 ar nr mr tr vr gr ao no mo to) (.h0 (S.fldN (fun j => gr (j + ar)) (fun j => to (j + ao)) i) (i : Int)) ((S.fldN (fun j => gr (j + ar)) (fun j => to (j + ao)) nr, 0)) := by
  obtain ⟨hp1, hp2, hp3, hp4⟩ := hp
  intro k
  induction k with
  | zero =>
    intro i hi
    obtain ⟨v1, v2, v3, v4⟩ := mag_ok hv
    have g := fld_ge (w := (fun j => gr (j + ar))) (o := (fun j => to (j + ao))) (n := nr) (fun j hj => by have := v4 j hj; omega) i (by omega)
    have w : i < nr → _ := fun h => v4 i h
    apply Comes.of
    show Goes _ _ _
    unfold q17
    repeat' first
      | with_reducible refine goes_if (fun h => ?_) (fun h => ?_) <;> (try simp only [lim64, decide_eq_true_eq, decide_eq_false_iff_not, Int.toNat_natCast, toNat_pred, toNat_succ, Option.getD_some, Option.getD_none, Bool.not_eq_true', Bool.not_eq_false', Bool.and_eq_true, Bool.or_eq_true, Bool.and_eq_false_iff, Bool.or_eq_false_iff, bne_iff_ne, beq_iff_eq, bne_eq_false_iff_eq, beq_eq_false_iff_ne, ne_eq, not_and, Int.not_le, Int.not_lt, ge_iff_le, gt_iff_lt, Nat.not_lt, Nat.not_le, Bool.not_eq_true, Bool.not_eq_false, Bool.true_eq_false, Bool.false_eq_true, not_false_eq_true, not_true_eq_false] at h)
      | exact goes_none.mpr (by omega)
    all_goals first | (exfalso; omega) | (obtain rfl : nr = i := (by omega); rfl)
  | succ k ih =>
    intro i hi
    have ih := ih (i + 1) (by omega)
    obtain ⟨v1, v2, v3, v4⟩ := mag_ok hv
    have g := fld_ge (w := (fun j => gr (j + ar))) (o := (fun j => to (j + ao))) (n := nr) (fun j hj => by have := v4 j hj; omega) i (by omega)
    have w : i < nr → _ := fun h => v4 i h
    apply Comes.of
    show Goes _ _ _
    unfold q17
    repeat' first
      | with_reducible refine goes_if (fun h => ?_) (fun h => ?_) <;> (try simp only [lim64, decide_eq_true_eq, decide_eq_false_iff_not, Int.toNat_natCast, toNat_pred, toNat_succ, Option.getD_some, Option.getD_none, Bool.not_eq_true', Bool.not_eq_false', Bool.and_eq_true, Bool.or_eq_true, Bool.and_eq_false_iff, Bool.or_eq_false_iff, bne_iff_ne, beq_iff_eq, bne_eq_false_iff_eq, beq_eq_false_iff_ne, ne_eq, not_and, Int.not_le, Int.not_lt, ge_iff_le, gt_iff_lt, Nat.not_lt, Nat.not_le, Bool.not_eq_true, Bool.not_eq_false, Bool.true_eq_false, Bool.false_eq_true, not_false_eq_true, not_true_eq_false] at h)
      | exact goes_none.mpr (by omega)
    all_goals first | (exfalso; omega) | (refine Eq.mpr (congrArg (fun s => Comes _ s _) ?_) ih; simp only [S.fldN, *, cond_true, cond_false]; rfl)
theorem s17 (ar nr mr : Nat) (tr : Nat → Int) (vr : Nat → Int) (gr : Nat → Int) (ao no mo : Nat) (to : Nat → Bool) (hp : ar + nr ≤ mr ∧ nr ≤ 1000000 ∧ ao + no ≤ mo ∧ no ≤ 1000000) : Goes ((q17 ar nr mr tr vr gr ao no mo to)) ((p17 ar nr mr tr vr gr ao no mo to)) (S.fieldS nr (fun j => tr (j + ar)) (fun j => vr (j + ar)) (fun j => gr (j + ar)) no (fun j => to (j + ao))) := by
  by_cases hv : S.magE nr (fun j => tr (j + ar)) (fun j => vr (j + ar)) (fun j => gr (j + ar)) no = 0
  · have hm := s17' ar nr mr tr vr gr ao no mo to hp hv nr 0 (by omega)
    obtain ⟨v1, v2, v3, v4⟩ := mag_ok hv
    obtain ⟨hp1, hp2, hp3, hp4⟩ := hp
    unfold S.fieldS
    rw [if_pos hv]
    show Goes _ _ _
    unfold p17
    repeat' first
      | with_reducible refine goes_if (fun h => ?_) (fun h => ?_) <;> (try simp only [lim64, decide_eq_true_eq, decide_eq_false_iff_not, Int.toNat_natCast, toNat_pred, toNat_succ, Option.getD_some, Option.getD_none, Bool.not_eq_true', Bool.not_eq_false', Bool.and_eq_true, Bool.or_eq_true, Bool.and_eq_false_iff, Bool.or_eq_false_iff, bne_iff_ne, beq_iff_eq, bne_eq_false_iff_eq, beq_eq_false_iff_ne, ne_eq, not_and, Int.not_le, Int.not_lt, ge_iff_le, gt_iff_lt, Nat.not_lt, Nat.not_le, Bool.not_eq_true, Bool.not_eq_false, Bool.true_eq_false, Bool.false_eq_true, not_false_eq_true, not_true_eq_false] at h)
      | exact goes_none.mpr (by omega)
    all_goals first | (exfalso; omega) | (exfalso; exact absurd hv (by assumption)) | exact hm | rfl
  · obtain ⟨hp1, hp2, hp3, hp4⟩ := hp
    unfold S.fieldS
    rw [if_neg hv]
    show Goes _ _ _
    unfold p17
    repeat' first
      | with_reducible refine goes_if (fun h => ?_) (fun h => ?_) <;> (try simp only [lim64, decide_eq_true_eq, decide_eq_false_iff_not, Int.toNat_natCast, toNat_pred, toNat_succ, Option.getD_some, Option.getD_none, Bool.not_eq_true', Bool.not_eq_false', Bool.and_eq_true, Bool.or_eq_true, Bool.and_eq_false_iff, Bool.or_eq_false_iff, bne_iff_ne, beq_iff_eq, bne_eq_false_iff_eq, beq_eq_false_iff_ne, ne_eq, not_and, Int.not_le, Int.not_lt, ge_iff_le, gt_iff_lt, Nat.not_lt, Nat.not_le, Bool.not_eq_true, Bool.not_eq_false, Bool.true_eq_false, Bool.false_eq_true, not_false_eq_true, not_true_eq_false] at h)
      | exact goes_none.mpr (by omega)
    all_goals first | (exfalso; omega) | (exfalso; exact hv (by assumption)) | rfl

theorem k17_ok : k17.ok Try.prog := by
  intro x hx
  obtain ⟨⟨⟨ar, nr, mr, tr, vr, gr, _⟩, ⟨ao, no, mo, to, _⟩, _⟩, _⟩ := x
  obtain ⟨h1, h2⟩ := a17 ar nr mr tr vr gr ao no mo to (s17 ar nr mr tr vr gr ao no mo to (of_decide_eq_true hx))
  exact ⟨⟨400, (by decide : 2 + 1 + 0 ≤ 400), h1⟩, h2⟩
inductive St18 where
  | h0 (x0 : Int) (x1 : Int)
abbrev Rt18 := Int × Int
noncomputable def V18 (ar nr mr : Nat) (tr : Nat → Int) (vr : Nat → Int) (gr : Nat → Int) (ao no mo : Nat) (to : Nat → Bool) (r : Rt18) : PV := PV.tup [PV.int IntKind.i64 r.1, PV.int IntKind.i64 r.2]
noncomputable def N18 (ar nr mr : Nat) (tr : Nat → Int) (vr : Nat → Int) (gr : Nat → Int) (ao no mo : Nat) (to : Nat → Bool) (r : Rt18) : List Blk := []
noncomputable def I18 (ar nr mr : Nat) (tr : Nat → Int) (vr : Nat → Int) (gr : Nat → Int) (ao no mo : Nat) (to : Nat → Bool) : St18 → Hd
  | .h0 x0 x1 => ⟨hd Try.f18 0, [PV.ptr (PA.mk (2) (0) (0) (0)), PV.int IntKind.i64 x0,
 PV.int IntKind.i64 x1], [[(2, (true, Blk.cells
 [PV.loose (PA.mk (0) (3) ar (0)) nr,
 PV.loose (PA.mk (1) (1) ao (0)) no]))], [(0, (false, .cols mr [.int .i64 tr, .int .i64 vr, .int .i64 gr])), (1, (false, .cols mo [.bool to]))]], 3⟩
noncomputable def q18 (ar nr mr : Nat) (tr : Nat → Int) (vr : Nat → Int) (gr : Nat → Int) (ao no mo : Nat) (to : Nat → Bool) : St18 → Option (St18 ⊕ Rt18)
  | .h0 x0 x1 => bif (decide (x1 < (↑nr : Int)))
 then (bif (decide ((0 : Int) ≤ x1 ∧ x1 < (↑no : Int)))
 then (bif (decide (Int.toNat x1 + ao < mo))
 then (bif (to (Int.toNat x1 + ao))
 then (bif (decide ((0 : Int) ≤ x1 ∧ x1 < (↑nr : Int)))
 then (bif (decide (Int.toNat x1 + ar < mr))
 then (bif (lim IntKind.i64 (x0 + gr (Int.toNat x1 + ar)))
 then (bif (lim IntKind.i64 (x1 + (1 : Int)))
 then (some (.inl (.h0 (x0 + gr (Int.toNat x1 + ar)) (x1 + (1 : Int)))))
 else (none))
 else (none))
 else (none))
 else (none))
 else (bif (lim IntKind.i64 (x1 + (1 : Int)))
 then (some (.inl (.h0 (x0) (x1 + (1 : Int)))))
 else (none)))
 else (none))
 else (none))
 else (some (.inr (x0, (0 : Int))))
noncomputable def p18 (ar nr mr : Nat) (tr : Nat → Int) (vr : Nat → Int) (gr : Nat → Int) (ao no mo : Nat) (to : Nat → Bool) : Option (St18 ⊕ Rt18) := bif (decide (ar + nr ≤ mr ∧ nr ≤ 1000000))
 then (bif (S.magE nr (fun (j : Nat) => tr (j + ar)) (fun (j : Nat) => vr (j + ar)) (fun (j : Nat) => gr (j + ar)) no !=
 (0 : Int))
 then (some (.inr ((0 : Int), S.magE nr (fun (j : Nat) => tr (j + ar)) (fun (j : Nat) => vr (j + ar)) (fun (j : Nat) => gr (j + ar)) no)))
 else (some (.inl (.h0 ((0 : Int)) ((0 : Int))))))
 else (none)
noncomputable def Te18 (test : Bool → Prop → Prop → Prop) (Kst : KS) (Kret : KR) (ar nr mr : Nat) (tr : Nat → Int) (vr : Nat → Int) (gr : Nat → Int) (ao no mo : Nat) (to : Nat → Bool) : Prop :=
  test (decide (ar + nr ≤ mr ∧ nr ≤ 1000000))
 (test (S.magE nr (fun (j : Nat) => tr (j + ar)) (fun (j : Nat) => vr (j + ar)) (fun (j : Nat) => gr (j + ar)) no !=
 (0 : Int))
 (Kret (PV.tup
 [PV.int IntKind.i64 (0 : Int),
 PV.int IntKind.i64
 (S.magE nr (fun (j : Nat) => tr (j + ar)) (fun (j : Nat) => vr (j + ar)) (fun (j : Nat) => gr (j + ar)) no)]) ([[(1, false, Blk.cols mo [Col.bool to]),
 (0, false,
 Blk.cols mr
 [Col.int IntKind.i64 tr, Col.int IntKind.i64 vr, Col.int IntKind.i64 gr])]]) (4))
 (Kst (hd Try.f18 0) ([PV.ptr (PA.mk (2) (0) (0) (0)), PV.int IntKind.i64 (0 : Int),
 PV.int IntKind.i64 (0 : Int)]) ([[(1, false, Blk.cols mo [Col.bool to]),
 (0, false,
 Blk.cols mr
 [Col.int IntKind.i64 tr, Col.int IntKind.i64 vr, Col.int IntKind.i64 gr]),
 (2, true,
 Blk.cells
 [PV.loose (PA.mk (0) (3) ar (0)) nr,
 PV.loose (PA.mk (1) (1) ao (0)) no])]]) (4)))
 (False)
set_option maxRecDepth 100000 in
theorem te18 (test : Bool → Prop → Prop → Prop) (Kst : KS) (Kret : KR) (ar nr mr : Nat) (tr : Nat → Int) (vr : Nat → Int) (gr : Nat → Int) (ao no mo : Nat) (to : Nat → Bool) : run test Try.env true (yA5 test) true 400 ⟨18, [.cd (mkFn Try.f18).body], argT 0 [.agg [.loose ⟨0, 3, ar, 0⟩ nr, .loose ⟨1, 1, ao, 0⟩ no]], [[], [(0, (false, .cols mr [.int .i64 tr, .int .i64 vr, .int .i64 gr])), (1, (false, .cols mo [.bool to]))]], 2⟩ (proj 2 [1, 5, 6] Kst Kret) =
  Te18 test Kst Kret ar nr mr tr vr gr ao no mo to := by kernel_rfl
noncomputable def T18_0 (test : Bool → Prop → Prop → Prop) (Kst : KS) (Kret : KR) (ar nr mr : Nat) (tr : Nat → Int) (vr : Nat → Int) (gr : Nat → Int) (ao no mo : Nat) (to : Nat → Bool) (x0 : Int) (x1 : Int) : Prop :=
  test (decide (x1 < (↑nr : Int)))
 (test (decide ((0 : Int) ≤ x1 ∧ x1 < (↑no : Int)))
 (test (decide (Int.toNat x1 + ao < mo))
 (test (to (Int.toNat x1 + ao))
 (test (decide ((0 : Int) ≤ x1 ∧ x1 < (↑nr : Int)))
 (test (decide (Int.toNat x1 + ar < mr))
 (test (lim IntKind.i64 (x0 + gr (Int.toNat x1 + ar)))
 (test (lim IntKind.i64 (x1 + (1 : Int)))
 (Kst (hd Try.f18 0) ([PV.ptr (PA.mk (2) (0) (0) (0)),
 PV.int IntKind.i64 (x0 + gr (Int.toNat x1 + ar)), PV.int IntKind.i64 (x1 + (1 : Int))]) ([[(1, false, Blk.cols mo [Col.bool to]),
 (0, false,
 Blk.cols mr
 [Col.int IntKind.i64 tr, Col.int IntKind.i64 vr, Col.int IntKind.i64 gr]),
 (2, true,
 Blk.cells
 [PV.loose (PA.mk (0) (3) ar (0)) nr,
 PV.loose (PA.mk (1) (1) ao (0)) no])]]) (3))
 (False))
 (False))
 (False))
 (False))
 (test (lim IntKind.i64 (x1 + (1 : Int)))
 (Kst (hd Try.f18 0) ([PV.ptr (PA.mk (2) (0) (0) (0)), PV.int IntKind.i64 x0,
 PV.int IntKind.i64 (x1 + (1 : Int))]) ([[(1, false, Blk.cols mo [Col.bool to]),
 (0, false,
 Blk.cols mr
 [Col.int IntKind.i64 tr, Col.int IntKind.i64 vr, Col.int IntKind.i64 gr]),
 (2, true,
 Blk.cells
 [PV.loose (PA.mk (0) (3) ar (0)) nr,
 PV.loose (PA.mk (1) (1) ao (0)) no])]]) (3))
 (False)))
 (False))
 (False))
 (Kret (PV.tup [PV.int IntKind.i64 x0, PV.int IntKind.i64 (0 : Int)]) ([[(1, false, Blk.cols mo [Col.bool to]),
 (0, false,
 Blk.cols mr
 [Col.int IntKind.i64 tr, Col.int IntKind.i64 vr, Col.int IntKind.i64 gr])]]) (3))
set_option maxRecDepth 100000 in
theorem t18_0 (test : Bool → Prop → Prop → Prop) (Kst : KS) (Kret : KR) (ar nr mr : Nat) (tr : Nat → Int) (vr : Nat → Int) (gr : Nat → Int) (ao no mo : Nat) (to : Nat → Bool) (x0 : Int) (x1 : Int) : run test Try.env true (yA5 test) true 400 ⟨18, hd Try.f18 0, zipT [1, 5, 6] [PV.ptr (PA.mk (2) (0) (0) (0)), PV.int IntKind.i64 x0,
 PV.int IntKind.i64 x1], [[(2, (true, Blk.cells
 [PV.loose (PA.mk (0) (3) ar (0)) nr,
 PV.loose (PA.mk (1) (1) ao (0)) no]))], [(0, (false, .cols mr [.int .i64 tr, .int .i64 vr, .int .i64 gr])), (1, (false, .cols mo [.bool to]))]], 3⟩ (proj 2 [1, 5, 6] Kst Kret) =
  T18_0 test Kst Kret ar nr mr tr vr gr ao no mo to x0 x1 := by kernel_rfl
set_option maxRecDepth 100000 in
theorem be18 (ar nr mr : Nat) (tr : Nat → Int) (vr : Nat → Int) (gr : Nat → Int) (ao no mo : Nat) (to : Nat → Bool) (Kst : KS) (Kret : KR) (x : St18 ⊕ Rt18) (hS : HS 2 400 ((I18 ar nr mr tr vr gr ao no mo to)) Kst x) (hR : HR 2 400 ((V18 ar nr mr tr vr gr ao no mo to)) (fun r => [newL (2 + 1) ((N18 ar nr mr tr vr gr ao no mo to) r) ++ [(0, (false, .cols mr [.int .i64 tr, .int .i64 vr, .int .i64 gr])), (1, (false, .cols mo [.bool to]))]]) Kret x) (h : (bif (decide (ar + nr ≤ mr ∧ nr ≤ 1000000))
 then (bif (S.magE nr (fun (j : Nat) => tr (j + ar)) (fun (j : Nat) => vr (j + ar)) (fun (j : Nat) => gr (j + ar)) no !=
 (0 : Int))
 then (some (.inr ((0 : Int), S.magE nr (fun (j : Nat) => tr (j + ar)) (fun (j : Nat) => vr (j + ar)) (fun (j : Nat) => gr (j + ar)) no)))
 else (some (.inl (.h0 ((0 : Int)) ((0 : Int))))))
 else (none) : Option (St18 ⊕ Rt18)) = some x) : Te18 cond Kst Kret ar nr mr tr vr gr ao no mo to := by
  unfold Te18
  exact bif_split h
   (fun c0 h => bif_split h
   (fun c1 h => ret_at hR _ h (fun n => n) rfl rfl rfl (rn_tup ⟨(rn_int rfl), (rn_int rfl), trivial⟩) rfl (entl_bor (use_lo rfl) rfl rfl (entl_bor (use_lo rfl) rfl rfl entl_nil)))
   (fun c1 h => stop_at hS _ h (fun n => bif Nat.beq n 2 then 2 else n) rfl rfl rfl ⟨(rn_ptr (use_own rfl) rfl rfl), ⟨(rn_int rfl), ⟨(rn_int rfl), trivial⟩⟩⟩ rfl (entl_b (use_own rfl) rfl (by simp) (rb_cells ⟨(rn_loose (use_lo rfl) rfl rfl rfl), (rn_loose (use_lo rfl) rfl rfl rfl), trivial⟩) (entl_bor (use_lo rfl) rfl rfl (entl_bor (use_lo rfl) rfl rfl entl_nil)))))
   (fun c0 h => no_some h)
set_option maxRecDepth 100000 in
theorem b18_0 (ar nr mr : Nat) (tr : Nat → Int) (vr : Nat → Int) (gr : Nat → Int) (ao no mo : Nat) (to : Nat → Bool) (Kst : KS) (Kret : KR) (x : St18 ⊕ Rt18) (hS : HS 2 400 ((I18 ar nr mr tr vr gr ao no mo to)) Kst x) (hR : HR 2 400 ((V18 ar nr mr tr vr gr ao no mo to)) (fun r => [newL (2 + 1) ((N18 ar nr mr tr vr gr ao no mo to) r) ++ [(0, (false, .cols mr [.int .i64 tr, .int .i64 vr, .int .i64 gr])), (1, (false, .cols mo [.bool to]))]]) Kret x) (x0 : Int) (x1 : Int) (h : (bif (decide (x1 < (↑nr : Int)))
 then (bif (decide ((0 : Int) ≤ x1 ∧ x1 < (↑no : Int)))
 then (bif (decide (Int.toNat x1 + ao < mo))
 then (bif (to (Int.toNat x1 + ao))
 then (bif (decide ((0 : Int) ≤ x1 ∧ x1 < (↑nr : Int)))
 then (bif (decide (Int.toNat x1 + ar < mr))
 then (bif (lim IntKind.i64 (x0 + gr (Int.toNat x1 + ar)))
 then (bif (lim IntKind.i64 (x1 + (1 : Int)))
 then (some (.inl (.h0 (x0 + gr (Int.toNat x1 + ar)) (x1 + (1 : Int)))))
 else (none))
 else (none))
 else (none))
 else (none))
 else (bif (lim IntKind.i64 (x1 + (1 : Int)))
 then (some (.inl (.h0 (x0) (x1 + (1 : Int)))))
 else (none)))
 else (none))
 else (none))
 else (some (.inr (x0, (0 : Int)))) : Option (St18 ⊕ Rt18)) = some x) : T18_0 cond Kst Kret ar nr mr tr vr gr ao no mo to x0 x1 := by
  unfold T18_0
  exact bif_split h
   (fun c0 h => bif_split h
   (fun c1 h => bif_split h
   (fun c2 h => bif_split h
   (fun c3 h => bif_split h
   (fun c4 h => bif_split h
   (fun c5 h => bif_split h
   (fun c6 h => bif_split h
   (fun c7 h => stop_at hS _ h (fun n => bif Nat.beq n 2 then 2 else n) rfl rfl rfl ⟨(rn_ptr (use_own rfl) rfl rfl), ⟨(rn_int rfl), ⟨(rn_int rfl), trivial⟩⟩⟩ rfl (entl_b (use_own rfl) rfl (by simp) (rb_cells ⟨(rn_loose (use_lo rfl) rfl rfl rfl), (rn_loose (use_lo rfl) rfl rfl rfl), trivial⟩) (entl_bor (use_lo rfl) rfl rfl (entl_bor (use_lo rfl) rfl rfl entl_nil))))
   (fun c7 h => no_some h))
   (fun c6 h => no_some h))
   (fun c5 h => no_some h))
   (fun c4 h => no_some h))
   (fun c3 h => bif_split h
   (fun c4 h => stop_at hS _ h (fun n => bif Nat.beq n 2 then 2 else n) rfl rfl rfl ⟨(rn_ptr (use_own rfl) rfl rfl), ⟨(rn_int rfl), ⟨(rn_int rfl), trivial⟩⟩⟩ rfl (entl_b (use_own rfl) rfl (by simp) (rb_cells ⟨(rn_loose (use_lo rfl) rfl rfl rfl), (rn_loose (use_lo rfl) rfl rfl rfl), trivial⟩) (entl_bor (use_lo rfl) rfl rfl (entl_bor (use_lo rfl) rfl rfl entl_nil))))
   (fun c4 h => no_some h)))
   (fun c2 h => no_some h))
   (fun c1 h => no_some h))
   (fun c0 h => ret_at hR _ h (fun n => n) rfl rfl rfl (rn_tup ⟨(rn_int rfl), (rn_int rfl), trivial⟩) rfl (entl_bor (use_lo rfl) rfl rfl (entl_bor (use_lo rfl) rfl rfl entl_nil)))
theorem a18 (ar nr mr : Nat) (tr : Nat → Int) (vr : Nat → Int) (gr : Nat → Int) (ao no mo : Nat) (to : Nat → Bool) {r : Rt18} (h : Goes ((q18 ar nr mr tr vr gr ao no mo to)) ((p18 ar nr mr tr vr gr ao no mo to)) r) : CallR Try.prog 18 [.agg [.loose ⟨0, 3, ar, 0⟩ nr, .loose ⟨1, 1, ao, 0⟩ no]] [[(0, (false, .cols mr [.int .i64 tr, .int .i64 vr, .int .i64 gr])), (1, (false, .cols mo [.bool to]))]] 2 ((V18 ar nr mr tr vr gr ao no mo to) r) ((fun r => [newL (2 + 1) ((N18 ar nr mr tr vr gr ao no mo to) r) ++ [(0, (false, .cols mr [.int .i64 tr, .int .i64 vr, .int .i64 gr])), (1, (false, .cols mo [.bool to]))]]) r) 400 ∧ ∃ F, Try.prog.funcs[18]? = some F ∧ F.body.isSome = true ∧ (F.name == "runtime.NumGoroutine") = false := by
  refine dec_calls (f := 18) (lo := 2) (hi := 400) (H := [[(0, (false, .cols mr [.int .i64 tr, .int .i64 vr, .int .i64 gr])), (1, (false, .cols mo [.bool to]))]]) (args := [.agg [.loose ⟨0, 3, ar, 0⟩ nr, .loose ⟨1, 1, ao, 0⟩ no]]) Try.envOk Try.mixed yA5_ok ((I18 ar nr mr tr vr gr ao no mo to)) ((V18 ar nr mr tr vr gr ao no mo to)) (fun r => [newL (2 + 1) ((N18 ar nr mr tr vr gr ao no mo to) r) ++ [(0, (false, .cols mr [.int .i64 tr, .int .i64 vr, .int .i64 gr])), (1, (false, .cols mo [.bool to]))]]) (fn := mkFn Try.f18) (ts := [1, 5, 6]) (n := 400) rfl (by decide) (by simp) (names_of rfl) ?_ ?_ ?_ h
  · intro s; cases s <;> exact ⟨hd_ok _ _, by simp [I18], names_of rfl, Nat.le_of_ble_eq_true rfl⟩
  · intro Kst Kret x hS hR h
    exact Holds.eq (te18 cond Kst Kret ar nr mr tr vr gr ao no mo to) (be18 ar nr mr tr vr gr ao no mo to Kst Kret x hS hR h)
  · intro Kst Kret x hS hR s h
    cases s with
    | h0 x0 x1 => exact Holds.eq (t18_0 cond Kst Kret ar nr mr tr vr gr ao no mo to x0 x1) (b18_0 ar nr mr tr vr gr ao no mo to Kst Kret x hS hR x0 x1 h)
noncomputable def k18 : Con := ⟨18, [.agg [.list [.int .i64, .int .i64, .int .i64], .list [.bool]]], fun (x : ((Nat × Nat × Nat × (Nat → Int) × (Nat → Int) × (Nat → Int) × Unit) × (Nat × Nat × Nat × (Nat → Bool) × Unit) × Unit) × Unit) => (fun (ar nr mr : Nat) (tr : Nat → Int) (vr : Nat → Int) (gr : Nat → Int) (ao no mo : Nat) (to : Nat → Bool) => decide (ar + nr ≤ mr ∧ nr ≤ 1000000 ∧ ao + no ≤ mo ∧ no ≤ 1000000)) x.1.1.1 x.1.1.2.1 x.1.1.2.2.1 x.1.1.2.2.2.1 x.1.1.2.2.2.2.1 x.1.1.2.2.2.2.2.1 x.1.2.1.1 x.1.2.1.2.1 x.1.2.1.2.2.1 x.1.2.1.2.2.2.1, fun (x : ((Nat × Nat × Nat × (Nat → Int) × (Nat → Int) × (Nat → Int) × Unit) × (Nat × Nat × Nat × (Nat → Bool) × Unit) × Unit) × Unit) => (fun (ar nr mr : Nat) (tr : Nat → Int) (vr : Nat → Int) (gr : Nat → Int) (ao no mo : Nat) (to : Nat → Bool) => (V18 ar nr mr tr vr gr ao no mo to) (S.fieldS nr (fun j => tr (j + ar)) (fun j => vr (j + ar)) (fun j => gr (j + ar)) no (fun j => to (j + ao)))) x.1.1.1 x.1.1.2.1 x.1.1.2.2.1 x.1.1.2.2.2.1 x.1.1.2.2.2.2.1 x.1.1.2.2.2.2.2.1 x.1.2.1.1 x.1.2.1.2.1 x.1.2.1.2.2.1 x.1.2.1.2.2.2.1, fun (x : ((Nat × Nat × Nat × (Nat → Int) × (Nat → Int) × (Nat → Int) × Unit) × (Nat × Nat × Nat × (Nat → Bool) × Unit) × Unit) × Unit) => (fun (ar nr mr : Nat) (tr : Nat → Int) (vr : Nat → Int) (gr : Nat → Int) (ao no mo : Nat) (to : Nat → Bool) => (N18 ar nr mr tr vr gr ao no mo to) (S.fieldS nr (fun j => tr (j + ar)) (fun j => vr (j + ar)) (fun j => gr (j + ar)) no (fun j => to (j + ao)))) x.1.1.1 x.1.1.2.1 x.1.1.2.2.1 x.1.1.2.2.2.1 x.1.1.2.2.2.2.1 x.1.1.2.2.2.2.2.1 x.1.2.1.1 x.1.2.1.2.1 x.1.2.1.2.2.1 x.1.2.1.2.2.2.1, fun _ _ => .dead⟩
theorem s18' (ar nr mr : Nat) (tr : Nat → Int) (vr : Nat → Int) (gr : Nat → Int) (ao no mo : Nat) (to : Nat → Bool) (hp : ar + nr ≤ mr ∧ nr ≤ 1000000 ∧ ao + no ≤ mo ∧ no ≤ 1000000) (hv : S.magE nr (fun j => tr (j + ar)) (fun j => vr (j + ar)) (fun j => gr (j + ar)) no = 0) : ∀ k i : Nat, i + k = nr → Comes (q18 ar nr mr tr vr gr ao no mo to) (.h0 (S.fldN (fun j => gr (j + ar)) (fun j => to (j + ao)) i) (i : Int)) ((S.fldN (fun j => gr (j + ar)) (fun j => to (j + ao)) nr, 0)) := by
  obtain ⟨hp1, hp2, hp3, hp4⟩ := hp
  intro k
  induction k with
  | zero =>
    intro i hi
    obtain ⟨v1, v2, v3, v4⟩ := mag_ok hv
    have g := fld_ge (w := (fun j => gr (j + ar))) (o := (fun j => to (j + ao))) (n := nr) (fun j hj => by have := v4 j hj; omega) i (by omega)
    have w : i < nr → _ := fun h => v4 i h
    apply Comes.of
    show Goes _ _ _
    unfold q18
    repeat' first
      | with_reducible refine goes_if (fun h => ?_) (fun h => ?_) <;> (try simp only [lim64, decide_eq_true_eq, decide_eq_false_iff_not, Int.toNat_natCast, toNat_pred, toNat_succ, Option.getD_some, Option.getD_none, Bool.not_eq_true', Bool.not_eq_false', Bool.and_eq_true, Bool.or_eq_true, Bool.and_eq_false_iff, Bool.or_eq_false_iff, bne_iff_ne, beq_iff_eq, bne_eq_false_iff_eq, beq_eq_false_iff_ne, ne_eq, not_and, Int.not_le, Int.not_lt, ge_iff_le, gt_iff_lt, Nat.not_lt, Nat.not_le, Bool.not_eq_true, Bool.not_eq_false, Bool.true_eq_false, Bool.false_eq_true, not_false_eq_true, not_true_eq_false] at h)
      | exact goes_none.mpr (by omega)
    all_goals first | (exfalso; omega) | (obtain rfl : nr = i := (by omega); rfl)
  | succ k ih =>
    intro i hi
    have ih := ih (i + 1) (by omega)
    obtain ⟨v1, v2, v3, v4⟩ := mag_ok hv
    have g := fld_ge (w := (fun j => gr (j + ar))) (o := (fun j => to (j + ao))) (n := nr) (fun j hj => by have := v4 j hj; omega) i (by omega)
    have w : i < nr → _ := fun h => v4 i h
    apply Comes.of
    show Goes _ _ _
    unfold q18
    repeat' first
      | with_reducible refine goes_if (fun h => ?_) (fun h => ?_) <;> (try simp only [lim64, decide_eq_true_eq, decide_eq_false_iff_not, Int.toNat_natCast, toNat_pred, toNat_succ, Option.getD_some, Option.getD_none, Bool.not_eq_true', Bool.not_eq_false', Bool.and_eq_true, Bool.or_eq_true, Bool.and_eq_false_iff, Bool.or_eq_false_iff, bne_iff_ne, beq_iff_eq, bne_eq_false_iff_eq, beq_eq_false_iff_ne, ne_eq, not_and, Int.not_le, Int.not_lt, ge_iff_le, gt_iff_lt, Nat.not_lt, Nat.not_le, Bool.not_eq_true, Bool.not_eq_false, Bool.true_eq_false, Bool.false_eq_true, not_false_eq_true, not_true_eq_false] at h)
      | exact goes_none.mpr (by omega)
    all_goals first | (exfalso; omega) | (refine Eq.mpr (congrArg (fun s => Comes _ s _) ?_) ih; simp only [S.fldN, *, cond_true, cond_false]; rfl)
theorem s18 (ar nr mr : Nat) (tr : Nat → Int) (vr : Nat → Int) (gr : Nat → Int) (ao no mo : Nat) (to : Nat → Bool) (hp : ar + nr ≤ mr ∧ nr ≤ 1000000 ∧ ao + no ≤ mo ∧ no ≤ 1000000) : Goes ((q18 ar nr mr tr vr gr ao no mo to)) ((p18 ar nr mr tr vr gr ao no mo to)) (S.fieldS nr (fun j => tr (j + ar)) (fun j => vr (j + ar)) (fun j => gr (j + ar)) no (fun j => to (j + ao))) := by
  by_cases hv : S.magE nr (fun j => tr (j + ar)) (fun j => vr (j + ar)) (fun j => gr (j + ar)) no = 0
  · have hm := s18' ar nr mr tr vr gr ao no mo to hp hv nr 0 (by omega)
    obtain ⟨v1, v2, v3, v4⟩ := mag_ok hv
    obtain ⟨hp1, hp2, hp3, hp4⟩ := hp
    unfold S.fieldS
    rw [if_pos hv]
    show Goes _ _ _
    unfold p18
    repeat' first
      | with_reducible refine goes_if (fun h => ?_) (fun h => ?_) <;> (try simp only [lim64, decide_eq_true_eq, decide_eq_false_iff_not, Int.toNat_natCast, toNat_pred, toNat_succ, Option.getD_some, Option.getD_none, Bool.not_eq_true', Bool.not_eq_false', Bool.and_eq_true, Bool.or_eq_true, Bool.and_eq_false_iff, Bool.or_eq_false_iff, bne_iff_ne, beq_iff_eq, bne_eq_false_iff_eq, beq_eq_false_iff_ne, ne_eq, not_and, Int.not_le, Int.not_lt, ge_iff_le, gt_iff_lt, Nat.not_lt, Nat.not_le, Bool.not_eq_true, Bool.not_eq_false, Bool.true_eq_false, Bool.false_eq_true, not_false_eq_true, not_true_eq_false] at h)
      | exact goes_none.mpr (by omega)
    all_goals first | (exfalso; omega) | (exfalso; exact absurd hv (by assumption)) | exact hm | rfl
  · obtain ⟨hp1, hp2, hp3, hp4⟩ := hp
    unfold S.fieldS
    rw [if_neg hv]
    show Goes _ _ _
    unfold p18
    repeat' first
      | with_reducible refine goes_if (fun h => ?_) (fun h => ?_) <;> (try simp only [lim64, decide_eq_true_eq, decide_eq_false_iff_not, Int.toNat_natCast, toNat_pred, toNat_succ, Option.getD_some, Option.getD_none, Bool.not_eq_true', Bool.not_eq_false', Bool.and_eq_true, Bool.or_eq_true, Bool.and_eq_false_iff, Bool.or_eq_false_iff, bne_iff_ne, beq_iff_eq, bne_eq_false_iff_eq, beq_eq_false_iff_ne, ne_eq, not_and, Int.not_le, Int.not_lt, ge_iff_le, gt_iff_lt, Nat.not_lt, Nat.not_le, Bool.not_eq_true, Bool.not_eq_false, Bool.true_eq_false, Bool.false_eq_true, not_false_eq_true, not_true_eq_false] at h)
      | exact goes_none.mpr (by omega)
    all_goals first | (exfalso; omega) | (exfalso; exact hv (by assumption)) | rfl

theorem k18_ok : k18.ok Try.prog := by
  intro x hx
  obtain ⟨⟨⟨ar, nr, mr, tr, vr, gr, _⟩, ⟨ao, no, mo, to, _⟩, _⟩, _⟩ := x
  obtain ⟨h1, h2⟩ := a18 ar nr mr tr vr gr ao no mo to (s18 ar nr mr tr vr gr ao no mo to (of_decide_eq_true hx))
  exact ⟨⟨400, (by decide : 2 + 1 + 0 ≤ 400), h1⟩, h2⟩


end Go.Ev
