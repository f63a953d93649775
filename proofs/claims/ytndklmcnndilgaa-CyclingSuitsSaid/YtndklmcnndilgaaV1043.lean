/-
  The parts that the statement needs, 3 of 3.
-/
import Derived.Test.YtndklmcnndilgaaV1042
namespace Go.Ev
open Go.Proofs
open Go.IntWalk
set_option linter.unusedVariables false
set_option linter.unusedSimpArgs false
set_option maxRecDepth 100000
noncomputable def T24_0 (test : Bool → Prop → Prop → Prop) (Kst : KS) (Kret : KR) (ar nr mr : Nat) (tr : Nat → Int) (vr : Nat → Int) (gr : Nat → Int) (ao no mo : Nat) (to : Nat → Bool) (al nl ml : Nat) (tl : Nat → Int) (x0 : Int) (x1 : List (Int × Int × Int)) (x2 : List Bool) : Prop :=
  test (decide (x0 < (↑nl : Int)))
 (test (decide ((0 : Int) ≤ x0 ∧ x0 < (↑nl : Int)))
 (test (decide (Int.toNat x0 + al < ml))
 (test (decide (List.length x2 ≤ List.length x2))
 (test (decide
 (0 + List.length x1 ≤ List.length x1 ∧ List.length x1 ≤ 1000000 ∧ List.length x2 = List.length x1))
 (test (lim IntKind.i64 (x0 + (1 : Int)))
 (Kst (hd Try.f50 0) ([PV.ptr (PA.mk (3) (0) (0) (0)),
 PV.ptr (PA.mk (4) (0) (0) (0)),
 PV.loose (PA.mk (2) (1) al (0)) nl, PV.int IntKind.i64 (↑nl : Int),
 PV.int IntKind.i64 (x0 + (1 : Int))]) ([[(2, false, Blk.cols ml [Col.int IntKind.i64 tl]),
 (1, false, Blk.cols mo [Col.bool to]),
 (0, false,
 Blk.cols mr
 [Col.int IntKind.i64 tr, Col.int IntKind.i64 vr, Col.int IntKind.i64 gr]),
 (4, true,
 Blk.cells
 [PV.own (5) (3) (List.length x1), PV.own (6) (1) (List.length x2)]),
 (3, true, Blk.cells [PV.nils, PV.nils]),
 (6, true,
 Blk.cols
 (List.length
 (S.mkl (List.length x2) fun (j : Nat) =>
 S.aft ((S.at' x1 j).1) ((S.at' x1 j).2.1) (S.at' x2 j)
 (tl (Int.toNat x0 + al))))
 [Col.bool fun (j : Nat) =>
 S.at'
 (S.mkl (List.length x2) fun (j : Nat) =>
 S.aft ((S.at' x1 j).1) ((S.at' x1 j).2.1) (S.at' x2 j)
 (tl (Int.toNat x0 + al)))
 j]),
 (5, true,
 Blk.cols (List.length x1)
 [Col.int IntKind.i64 fun (j : Nat) => (S.at' x1 j).1,
 Col.int IntKind.i64 fun (j : Nat) => (S.at' x1 j).2.1,
 Col.int IntKind.i64 fun (j : Nat) => (S.at' x1 j).2.2])]]) (8))
 (False))
 (False))
 (False))
 (False))
 (False))
 (Kret (PV.tup
 [PV.agg
 [PV.own (5) (3) (List.length x1), PV.own (6) (1) (List.length x2)],
 PV.int IntKind.i64 (0 : Int)]) ([[(2, false, Blk.cols ml [Col.int IntKind.i64 tl]),
 (1, false, Blk.cols mo [Col.bool to]),
 (0, false,
 Blk.cols mr
 [Col.int IntKind.i64 tr, Col.int IntKind.i64 vr, Col.int IntKind.i64 gr]),
 (6, true, Blk.cols (List.length x2) [Col.bool fun (j : Nat) => S.at' x2 j]),
 (5, true,
 Blk.cols (List.length x1)
 [Col.int IntKind.i64 fun (j : Nat) => (S.at' x1 j).1,
 Col.int IntKind.i64 fun (j : Nat) => (S.at' x1 j).2.1,
 Col.int IntKind.i64 fun (j : Nat) => (S.at' x1 j).2.2])]]) (7))
set_option maxRecDepth 100000 in
theorem t24_0 (test : Bool → Prop → Prop → Prop) (Kst : KS) (Kret : KR) (ar nr mr : Nat) (tr : Nat → Int) (vr : Nat → Int) (gr : Nat → Int) (ao no mo : Nat) (to : Nat → Bool) (al nl ml : Nat) (tl : Nat → Int) (x0 : Int) (x1 : List (Int × Int × Int)) (x2 : List Bool) : run test Try.env true (xC test) true 400 ⟨50, hd Try.f50 0, zipT [4, 7, 19, 20, 21] [PV.ptr (PA.mk (3) (0) (0) (0)),
 PV.ptr (PA.mk (4) (0) (0) (0)),
 PV.loose (PA.mk (2) (1) al (0)) nl, PV.int IntKind.i64 (↑nl : Int),
 PV.int IntKind.i64 x0], [[(3, (true, Blk.cells [PV.nils, PV.nils])), (4, (true, Blk.cells
 [PV.own (5) (3) (List.length x1), PV.own (6) (1) (List.length x2)])), (5, (true, Blk.cols (List.length x1)
 [Col.int IntKind.i64 fun (j : Nat) => (S.at' x1 j).1,
 Col.int IntKind.i64 fun (j : Nat) => (S.at' x1 j).2.1,
 Col.int IntKind.i64 fun (j : Nat) => (S.at' x1 j).2.2])), (6, (true, Blk.cols (List.length x2) [Col.bool fun (j : Nat) => S.at' x2 j]))], [(0, (false, .cols mr [.int .i64 tr, .int .i64 vr, .int .i64 gr])), (1, (false, .cols mo [.bool to])), (2, (false, .cols ml [.int .i64 tl]))]], 7⟩ (proj 3 [4, 7, 19, 20, 21] Kst Kret) =
  T24_0 test Kst Kret ar nr mr tr vr gr ao no mo to al nl ml tl x0 x1 x2 := by kernel_rfl
set_option maxRecDepth 100000 in
theorem be24 (ar nr mr : Nat) (tr : Nat → Int) (vr : Nat → Int) (gr : Nat → Int) (ao no mo : Nat) (to : Nat → Bool) (al nl ml : Nat) (tl : Nat → Int) (Kst : KS) (Kret : KR) (x : St24 ⊕ Rt24) (hS : HS 3 400 ((I24 ar nr mr tr vr gr ao no mo to al nl ml tl)) Kst x) (hR : HR 3 400 ((V24 ar nr mr tr vr gr ao no mo to al nl ml tl)) (fun r => [newL (3 + 1) ((N24 ar nr mr tr vr gr ao no mo to al nl ml tl) r) ++ [(0, (false, .cols mr [.int .i64 tr, .int .i64 vr, .int .i64 gr])), (1, (false, .cols mo [.bool to])), (2, (false, .cols ml [.int .i64 tl]))]]) Kret x) (h : (bif (decide (ar + nr ≤ mr ∧ nr ≤ 1000000 ∧ al + nl ≤ ml ∧ nl ≤ 1000000))
 then (bif ((S.histE nr (fun (j : Nat) => tr (j + ar)) (fun (j : Nat) => vr (j + ar)) (fun (j : Nat) => gr (j + ar)) no nl
 fun (j : Nat) => tl (j + al)) !=
 (0 : Int))
 then (some (.inr (S.histE nr (fun (j : Nat) => tr (j + ar)) (fun (j : Nat) => vr (j + ar)) (fun (j : Nat) => gr (j + ar)) no nl
 fun (j : Nat) => tl (j + al), [], [])))
 else (bif (decide (ar + nr ≤ mr ∧ nr ≤ 1000000))
 then (bif (decide (ao + no ≤ mo ∧ no ≤ 1000000))
 then (some (.inl (.h0 ((0 : Int)) (S.mkl nr fun (j : Nat) => (tr (j + ar), vr (j + ar), gr (j + ar))) (S.mkl no fun (j : Nat) => to (j + ao)))))
 else (none))
 else (none)))
 else (none) : Option (St24 ⊕ Rt24)) = some x) : Te24 cond Kst Kret ar nr mr tr vr gr ao no mo to al nl ml tl := by
  unfold Te24
  exact bif_split h
   (fun c0 h => bif_split h
   (fun c1 h => ret_at hR _ h (fun n => bif Nat.beq n 4 then 399 else bif Nat.beq n 5 then 398 else n) rfl rfl rfl (rn_tup ⟨(rn_agg ⟨(rn_own_nils rfl), (rn_own_nils rfl), trivial⟩), (rn_int rfl), trivial⟩) rfl (entl_fresh (use_own rfl) (fresh_ok rfl) (entl_fresh (use_own rfl) (fresh_ok rfl) (entl_bor (use_lo rfl) rfl rfl (entl_bor (use_lo rfl) rfl rfl (entl_bor (use_lo rfl) rfl rfl entl_nil))))))
   (fun c1 h => bif_split h
   (fun c2 h => bif_split h
   (fun c3 h => stop_at hS _ h (fun n => bif Nat.beq n 3 then 4 else bif Nat.beq n 4 then 12 else bif Nat.beq n 5 then 9 else bif Nat.beq n 6 then 11 else n) rfl rfl rfl ⟨(rn_ptr (use_own rfl) rfl rfl), ⟨(rn_ptr (use_own rfl) rfl rfl), ⟨(rn_loose (use_lo rfl) rfl rfl rfl), ⟨(rn_int rfl), ⟨(rn_int rfl), trivial⟩⟩⟩⟩⟩ rfl (entl_b (use_own rfl) rfl (by simp) (rb_cells ⟨rn_nils, rn_nils, trivial⟩) (entl_b (use_own rfl) rfl (by simp) (rb_cells ⟨(rn_own (use_own rfl) rfl mkl_len), (rn_own (use_own rfl) rfl mkl_len), trivial⟩) (entl_new (use_own rfl) rfl (Nat.le_of_eq mkl_len) (rcs_int (fun _ hj => col_mkl (fun (t : Int × Int × Int) => t.1) hj) (rcs_int (fun _ hj => col_mkl (fun (t : Int × Int × Int) => t.2.1) hj) (rcs_int (fun _ hj => col_mkl (fun (t : Int × Int × Int) => t.2.2) hj) rcs_nil))) (entl_new (use_own rfl) rfl (Nat.le_of_eq mkl_len) (rcs_bool (fun _ hj => col_mkl (fun (t : Bool) => t) hj) rcs_nil) (entl_bor (use_lo rfl) rfl rfl (entl_bor (use_lo rfl) rfl rfl (entl_bor (use_lo rfl) rfl rfl entl_nil))))))))
   (fun c3 h => no_some h))
   (fun c2 h => no_some h)))
   (fun c0 h => no_some h)
set_option maxRecDepth 100000 in
theorem b24_0 (ar nr mr : Nat) (tr : Nat → Int) (vr : Nat → Int) (gr : Nat → Int) (ao no mo : Nat) (to : Nat → Bool) (al nl ml : Nat) (tl : Nat → Int) (Kst : KS) (Kret : KR) (x : St24 ⊕ Rt24) (hS : HS 3 400 ((I24 ar nr mr tr vr gr ao no mo to al nl ml tl)) Kst x) (hR : HR 3 400 ((V24 ar nr mr tr vr gr ao no mo to al nl ml tl)) (fun r => [newL (3 + 1) ((N24 ar nr mr tr vr gr ao no mo to al nl ml tl) r) ++ [(0, (false, .cols mr [.int .i64 tr, .int .i64 vr, .int .i64 gr])), (1, (false, .cols mo [.bool to])), (2, (false, .cols ml [.int .i64 tl]))]]) Kret x) (x0 : Int) (x1 : List (Int × Int × Int)) (x2 : List Bool) (h : (bif (decide (x0 < (↑nl : Int)))
 then (bif (decide ((0 : Int) ≤ x0 ∧ x0 < (↑nl : Int)))
 then (bif (decide (Int.toNat x0 + al < ml))
 then (bif (decide (List.length x2 ≤ List.length x2))
 then (bif (decide
 (0 + List.length x1 ≤ List.length x1 ∧ List.length x1 ≤ 1000000 ∧ List.length x2 = List.length x1))
 then (bif (lim IntKind.i64 (x0 + (1 : Int)))
 then (some (.inl (.h0 (x0 + (1 : Int)) (x1) (S.mkl (List.length x2) fun (j : Nat) =>
 S.at'
 (S.mkl (List.length x2) fun (j : Nat) =>
 S.aft ((S.at' x1 j).1) ((S.at' x1 j).2.1) (S.at' x2 j)
 (tl (Int.toNat x0 + al)))
 j))))
 else (none))
 else (none))
 else (none))
 else (none))
 else (none))
 else (some (.inr ((0 : Int), x1, x2))) : Option (St24 ⊕ Rt24)) = some x) : T24_0 cond Kst Kret ar nr mr tr vr gr ao no mo to al nl ml tl x0 x1 x2 := by
  unfold T24_0
  exact bif_split h
   (fun c0 h => bif_split h
   (fun c1 h => bif_split h
   (fun c2 h => bif_split h
   (fun c3 h => bif_split h
   (fun c4 h => bif_split h
   (fun c5 h => stop_at hS _ h (fun n => bif Nat.beq n 3 then 3 else bif Nat.beq n 4 then 4 else bif Nat.beq n 5 then 5 else bif Nat.beq n 6 then 6 else n) rfl rfl rfl ⟨(rn_ptr (use_own rfl) rfl rfl), ⟨(rn_ptr (use_own rfl) rfl rfl), ⟨(rn_loose (use_lo rfl) rfl rfl rfl), ⟨(rn_int rfl), ⟨(rn_int rfl), trivial⟩⟩⟩⟩⟩ rfl (entl_b (use_own rfl) rfl (by simp) (rb_cells ⟨rn_nils, rn_nils, trivial⟩) (entl_b (use_own rfl) rfl (by simp) (rb_cells ⟨(rn_own (use_own rfl) rfl rfl), (rn_own (use_own rfl) rfl mkl_len), trivial⟩) (entl_new (use_own rfl) rfl (Nat.le_of_eq rfl) (rcs_int (fun _ _ => rfl) (rcs_int (fun _ _ => rfl) (rcs_int (fun _ _ => rfl) rcs_nil))) (entl_new (use_own rfl) rfl (by first | exact Nat.le_of_eq mkl_len | (simp only [mkl_len, snoc_len]; omega)) (rcs_bool (fun _ hj => col_mkl (fun (t : Bool) => t) hj) rcs_nil) (entl_bor (use_lo rfl) rfl rfl (entl_bor (use_lo rfl) rfl rfl (entl_bor (use_lo rfl) rfl rfl entl_nil))))))))
   (fun c5 h => no_some h))
   (fun c4 h => no_some h))
   (fun c3 h => no_some h))
   (fun c2 h => no_some h))
   (fun c1 h => no_some h))
   (fun c0 h => ret_at hR _ h (fun n => bif Nat.beq n 4 then 5 else bif Nat.beq n 5 then 6 else n) rfl rfl rfl (rn_tup ⟨(rn_agg ⟨(rn_own (use_own rfl) rfl rfl), (rn_own (use_own rfl) rfl rfl), trivial⟩), (rn_int rfl), trivial⟩) rfl (entl_new (use_own rfl) rfl (Nat.le_of_eq rfl) (rcs_int (fun _ _ => rfl) (rcs_int (fun _ _ => rfl) (rcs_int (fun _ _ => rfl) rcs_nil))) (entl_new (use_own rfl) rfl (Nat.le_of_eq rfl) (rcs_bool (fun _ _ => rfl) rcs_nil) (entl_bor (use_lo rfl) rfl rfl (entl_bor (use_lo rfl) rfl rfl (entl_bor (use_lo rfl) rfl rfl entl_nil))))))
theorem a24 (ar nr mr : Nat) (tr : Nat → Int) (vr : Nat → Int) (gr : Nat → Int) (ao no mo : Nat) (to : Nat → Bool) (al nl ml : Nat) (tl : Nat → Int) {r : Rt24} (h : Goes ((q24 ar nr mr tr vr gr ao no mo to al nl ml tl)) ((p24 ar nr mr tr vr gr ao no mo to al nl ml tl)) r) : CallR Try.prog 50 [.agg [.loose ⟨0, 3, ar, 0⟩ nr, .loose ⟨1, 1, ao, 0⟩ no], .loose ⟨2, 1, al, 0⟩ nl] [[(0, (false, .cols mr [.int .i64 tr, .int .i64 vr, .int .i64 gr])), (1, (false, .cols mo [.bool to])), (2, (false, .cols ml [.int .i64 tl]))]] 3 ((V24 ar nr mr tr vr gr ao no mo to al nl ml tl) r) ((fun r => [newL (3 + 1) ((N24 ar nr mr tr vr gr ao no mo to al nl ml tl) r) ++ [(0, (false, .cols mr [.int .i64 tr, .int .i64 vr, .int .i64 gr])), (1, (false, .cols mo [.bool to])), (2, (false, .cols ml [.int .i64 tl]))]]) r) 400 ∧ ∃ F, Try.prog.funcs[50]? = some F ∧ F.body.isSome = true ∧ (F.name == "runtime.NumGoroutine") = false := by
  refine dec_calls (f := 50) (lo := 3) (hi := 400) (H := [[(0, (false, .cols mr [.int .i64 tr, .int .i64 vr, .int .i64 gr])), (1, (false, .cols mo [.bool to])), (2, (false, .cols ml [.int .i64 tl]))]]) (args := [.agg [.loose ⟨0, 3, ar, 0⟩ nr, .loose ⟨1, 1, ao, 0⟩ no], .loose ⟨2, 1, al, 0⟩ nl]) Try.envOk Try.mixed xC_ok ((I24 ar nr mr tr vr gr ao no mo to al nl ml tl)) ((V24 ar nr mr tr vr gr ao no mo to al nl ml tl)) (fun r => [newL (3 + 1) ((N24 ar nr mr tr vr gr ao no mo to al nl ml tl) r) ++ [(0, (false, .cols mr [.int .i64 tr, .int .i64 vr, .int .i64 gr])), (1, (false, .cols mo [.bool to])), (2, (false, .cols ml [.int .i64 tl]))]]) (fn := mkFn Try.f50) (ts := [4, 7, 19, 20, 21]) (n := 400) rfl (by decide) (by simp) (names_of rfl) ?_ ?_ ?_ h
  · intro s; cases s <;> exact ⟨hd_ok _ _, by simp [I24], names_of rfl, Nat.le_of_ble_eq_true rfl⟩
  · intro Kst Kret x hS hR h
    exact Holds.eq (te24 cond Kst Kret ar nr mr tr vr gr ao no mo to al nl ml tl) (be24 ar nr mr tr vr gr ao no mo to al nl ml tl Kst Kret x hS hR h)
  · intro Kst Kret x hS hR s h
    cases s with
    | h0 x0 x1 x2 => exact Holds.eq (t24_0 cond Kst Kret ar nr mr tr vr gr ao no mo to al nl ml tl x0 x1 x2) (b24_0 ar nr mr tr vr gr ao no mo to al nl ml tl Kst Kret x hS hR x0 x1 x2 h)
noncomputable def k24 : Con := ⟨50, [.agg [.list [.int .i64, .int .i64, .int .i64], .list [.bool]], .one (.list [.int .i64])], fun (x : ((Nat × Nat × Nat × (Nat → Int) × (Nat → Int) × (Nat → Int) × Unit) × (Nat × Nat × Nat × (Nat → Bool) × Unit) × Unit) × (Nat × Nat × Nat × (Nat → Int) × Unit) × Unit) => (fun (ar nr mr : Nat) (tr : Nat → Int) (vr : Nat → Int) (gr : Nat → Int) (ao no mo : Nat) (to : Nat → Bool) (al nl ml : Nat) (tl : Nat → Int) => decide (ar + nr ≤ mr ∧ nr ≤ 1000000 ∧ ao + no ≤ mo ∧ no ≤ 1000000 ∧ al + nl ≤ ml ∧ nl ≤ 1000000)) x.1.1.1 x.1.1.2.1 x.1.1.2.2.1 x.1.1.2.2.2.1 x.1.1.2.2.2.2.1 x.1.1.2.2.2.2.2.1 x.1.2.1.1 x.1.2.1.2.1 x.1.2.1.2.2.1 x.1.2.1.2.2.2.1 x.2.1.1 x.2.1.2.1 x.2.1.2.2.1 x.2.1.2.2.2.1, fun (x : ((Nat × Nat × Nat × (Nat → Int) × (Nat → Int) × (Nat → Int) × Unit) × (Nat × Nat × Nat × (Nat → Bool) × Unit) × Unit) × (Nat × Nat × Nat × (Nat → Int) × Unit) × Unit) => (fun (ar nr mr : Nat) (tr : Nat → Int) (vr : Nat → Int) (gr : Nat → Int) (ao no mo : Nat) (to : Nat → Bool) (al nl ml : Nat) (tl : Nat → Int) => (V24 ar nr mr tr vr gr ao no mo to al nl ml tl) (S.histS nr (fun j => tr (j + ar)) (fun j => vr (j + ar)) (fun j => gr (j + ar)) no (fun j => to (j + ao)) nl (fun j => tl (j + al)))) x.1.1.1 x.1.1.2.1 x.1.1.2.2.1 x.1.1.2.2.2.1 x.1.1.2.2.2.2.1 x.1.1.2.2.2.2.2.1 x.1.2.1.1 x.1.2.1.2.1 x.1.2.1.2.2.1 x.1.2.1.2.2.2.1 x.2.1.1 x.2.1.2.1 x.2.1.2.2.1 x.2.1.2.2.2.1, fun (x : ((Nat × Nat × Nat × (Nat → Int) × (Nat → Int) × (Nat → Int) × Unit) × (Nat × Nat × Nat × (Nat → Bool) × Unit) × Unit) × (Nat × Nat × Nat × (Nat → Int) × Unit) × Unit) => (fun (ar nr mr : Nat) (tr : Nat → Int) (vr : Nat → Int) (gr : Nat → Int) (ao no mo : Nat) (to : Nat → Bool) (al nl ml : Nat) (tl : Nat → Int) => (N24 ar nr mr tr vr gr ao no mo to al nl ml tl) (S.histS nr (fun j => tr (j + ar)) (fun j => vr (j + ar)) (fun j => gr (j + ar)) no (fun j => to (j + ao)) nl (fun j => tl (j + al)))) x.1.1.1 x.1.1.2.1 x.1.1.2.2.1 x.1.1.2.2.2.1 x.1.1.2.2.2.2.1 x.1.1.2.2.2.2.2.1 x.1.2.1.1 x.1.2.1.2.1 x.1.2.1.2.2.1 x.1.2.1.2.2.2.1 x.2.1.1 x.2.1.2.1 x.2.1.2.2.1 x.2.1.2.2.2.1, fun _ _ => .dead⟩
theorem s24' (ar nr mr : Nat) (tr : Nat → Int) (vr : Nat → Int) (gr : Nat → Int) (ao no mo : Nat) (to : Nat → Bool) (al nl ml : Nat) (tl : Nat → Int) (hp : ar + nr ≤ mr ∧ nr ≤ 1000000 ∧ ao + no ≤ mo ∧ no ≤ 1000000 ∧ al + nl ≤ ml ∧ nl ≤ 1000000) (hv : S.histE nr (fun j => tr (j + ar)) (fun j => vr (j + ar)) (fun j => gr (j + ar)) no nl (fun j => tl (j + al)) = 0) : ∀ (k i : Nat) (lr : List (Int × Int × Int)) (lo : List Bool), i + k = nl → Holds (lr = S.mkl nr fun j => (tr (j + ar), vr (j + ar), gr (j + ar))) → Holds (lo = S.mkl no fun j => S.aftN (tr (j + ar)) (vr (j + ar)) (fun j => tl (j + al)) (to (j + ao)) i) → Comes (q24 ar nr mr tr vr gr ao no mo to al nl ml tl) (.h0 (i : Int) lr lo) ((0, S.mkl nr fun j => (tr (j + ar), vr (j + ar), gr (j + ar)), S.mkl no fun j => S.aftN (tr (j + ar)) (vr (j + ar)) (fun j => tl (j + al)) (to (j + ao)) nl)) := by
  obtain ⟨hp1, hp2, hp3, hp4, hp5, hp6⟩ := hp
  obtain ⟨hm, hl1, hl2⟩ := hist_ok hv
  obtain ⟨v1, v2, v3, v4⟩ := mag_ok hm
  intro k
  induction k with
  | zero =>
    intro i lr lo hi elr elo
    have hlr : lr.length = nr := by rw [elr.get]; exact mkl_len
    have hlo : lo.length = no := by rw [elo.get]; exact mkl_len
    apply Comes.of
    show Goes _ _ _
    (first | rw [q24] | unfold q24)
    repeat' first
      | with_reducible refine goes_if (fun h => ?_) (fun h => ?_) <;> (try simp only [lim64, imp_false, decide_eq_true_eq, decide_eq_false_iff_not, Int.toNat_natCast, toNat_pred, toNat_succ, Option.getD_some, Option.getD_none, Bool.not_eq_true', Bool.not_eq_false', Bool.and_eq_true, Bool.or_eq_true, Bool.and_eq_false_iff, Bool.or_eq_false_iff, bne_iff_ne, beq_iff_eq, bne_eq_false_iff_eq, beq_eq_false_iff_ne, ne_eq, not_and, Int.not_le, Int.not_lt, ge_iff_le, gt_iff_lt, Nat.not_lt, Nat.not_le, Bool.not_eq_true, Bool.not_eq_false, Bool.true_eq_false, Bool.false_eq_true, not_false_eq_true, not_true_eq_false] at h)
      | exact goes_none.mpr (by omega)
    all_goals first | (exfalso; omega) | (obtain rfl : nl = i := (by omega); rw [elr.get]; rw [elo.get]; rfl)
  | succ k ih =>
    intro i lr lo hi elr elo
    have hlr : lr.length = nr := by rw [elr.get]; exact mkl_len
    have hlo : lo.length = no := by rw [elo.get]; exact mkl_len
    apply Comes.of
    show Goes _ _ _
    (first | rw [q24] | unfold q24)
    repeat' first
      | with_reducible refine goes_if (fun h => ?_) (fun h => ?_) <;> (try simp only [lim64, imp_false, decide_eq_true_eq, decide_eq_false_iff_not, Int.toNat_natCast, toNat_pred, toNat_succ, Option.getD_some, Option.getD_none, Bool.not_eq_true', Bool.not_eq_false', Bool.and_eq_true, Bool.or_eq_true, Bool.and_eq_false_iff, Bool.or_eq_false_iff, bne_iff_ne, beq_iff_eq, bne_eq_false_iff_eq, beq_eq_false_iff_ne, ne_eq, not_and, Int.not_le, Int.not_lt, ge_iff_le, gt_iff_lt, Nat.not_lt, Nat.not_le, Bool.not_eq_true, Bool.not_eq_false, Bool.true_eq_false, Bool.false_eq_true, not_false_eq_true, not_true_eq_false] at h)
      | exact goes_none.mpr (by omega)
    all_goals first
      | (exfalso; omega)
      | (refine ih (i + 1) _ _ (by omega) ⟨elr.get⟩ ⟨?_⟩; rw [hlo, elr.get, elo.get]; refine mkl_congr fun j hj => ?_; rw [at_mkl hj, at_mkl hj, at_mkl (by omega)]; rfl)
      | (refine ih (i + 1) _ _ (by omega) ⟨?_⟩ ⟨?_⟩ <;> (skip))
theorem s24 (ar nr mr : Nat) (tr : Nat → Int) (vr : Nat → Int) (gr : Nat → Int) (ao no mo : Nat) (to : Nat → Bool) (al nl ml : Nat) (tl : Nat → Int) (hp : ar + nr ≤ mr ∧ nr ≤ 1000000 ∧ ao + no ≤ mo ∧ no ≤ 1000000 ∧ al + nl ≤ ml ∧ nl ≤ 1000000) : Goes ((q24 ar nr mr tr vr gr ao no mo to al nl ml tl)) ((p24 ar nr mr tr vr gr ao no mo to al nl ml tl)) (S.histS nr (fun j => tr (j + ar)) (fun j => vr (j + ar)) (fun j => gr (j + ar)) no (fun j => to (j + ao)) nl (fun j => tl (j + al))) := by
  unfold S.histS
  by_cases hv : S.histE nr (fun j => tr (j + ar)) (fun j => vr (j + ar)) (fun j => gr (j + ar)) no nl (fun j => tl (j + al)) = 0
  · have hm := s24' ar nr mr tr vr gr ao no mo to al nl ml tl hp hv nl 0 (S.mkl nr fun j => (tr (j + ar), vr (j + ar), gr (j + ar))) (S.mkl no fun j => to (j + ao)) (by omega) ⟨rfl⟩ ⟨rfl⟩
    obtain ⟨hp1, hp2, hp3, hp4, hp5, hp6⟩ := hp
    rw [if_pos hv]
    show Goes _ _ _
    unfold p24
    repeat' first
      | with_reducible refine goes_if (fun h => ?_) (fun h => ?_) <;> (try simp only [lim64, imp_false, decide_eq_true_eq, decide_eq_false_iff_not, Int.toNat_natCast, toNat_pred, toNat_succ, Option.getD_some, Option.getD_none, Bool.not_eq_true', Bool.not_eq_false', Bool.and_eq_true, Bool.or_eq_true, Bool.and_eq_false_iff, Bool.or_eq_false_iff, bne_iff_ne, beq_iff_eq, bne_eq_false_iff_eq, beq_eq_false_iff_ne, ne_eq, not_and, Int.not_le, Int.not_lt, ge_iff_le, gt_iff_lt, Nat.not_lt, Nat.not_le, Bool.not_eq_true, Bool.not_eq_false, Bool.true_eq_false, Bool.false_eq_true, not_false_eq_true, not_true_eq_false] at h)
      | exact goes_none.mpr (by omega)
    all_goals first | (exfalso; omega) | (exfalso; exact absurd hv (by assumption)) | exact hm
  · obtain ⟨hp1, hp2, hp3, hp4, hp5, hp6⟩ := hp
    rw [if_neg hv]
    show Goes _ _ _
    unfold p24
    repeat' first
      | with_reducible refine goes_if (fun h => ?_) (fun h => ?_) <;> (try simp only [lim64, imp_false, decide_eq_true_eq, decide_eq_false_iff_not, Int.toNat_natCast, toNat_pred, toNat_succ, Option.getD_some, Option.getD_none, Bool.not_eq_true', Bool.not_eq_false', Bool.and_eq_true, Bool.or_eq_true, Bool.and_eq_false_iff, Bool.or_eq_false_iff, bne_iff_ne, beq_iff_eq, bne_eq_false_iff_eq, beq_eq_false_iff_ne, ne_eq, not_and, Int.not_le, Int.not_lt, ge_iff_le, gt_iff_lt, Nat.not_lt, Nat.not_le, Bool.not_eq_true, Bool.not_eq_false, Bool.true_eq_false, Bool.false_eq_true, not_false_eq_true, not_true_eq_false] at h)
      | exact goes_none.mpr (by omega)
    all_goals first | (exfalso; omega) | (exfalso; exact hv (by assumption)) | rfl
theorem k24_ok : k24.ok Try.prog := by
  intro x hx
  obtain ⟨⟨⟨ar, nr, mr, tr, vr, gr, _⟩, ⟨ao, no, mo, to, _⟩, _⟩, ⟨al, nl, ml, tl, _⟩, _⟩ := x
  obtain ⟨h1, h2⟩ := a24 ar nr mr tr vr gr ao no mo to al nl ml tl (s24 ar nr mr tr vr gr ao no mo to al nl ml tl (of_dec hx rfl))
  exact ⟨⟨400, (by decide : 3 + 1 + 2 ≤ 400), h1⟩, h2⟩
namespace S
def botE (m c : Int) : Int := if m = 0 then c else m
def suiS (e : Int) (x : Bool) : Bool × Int := if e = 0 then (x, 0) else (false, e)
/-- The first number of steps, from the i-th on, behind which something holds. -/
def leaK (p : Nat → Bool) : Nat → Nat → Int × Int
  | _, 0 => (0, 10)
  | i, k + 1 => if p i = true then ((i : Int), 0) else leaK p (i + 1) k
def leaS (e : Int) (p : Nat → Bool) (n : Nat) : Int × Int := if e = 0 then leaK p 1 n else (0, e)
end S
theorem er_in {n no nl : Nat} {u d w : Nat → Int} {t : Nat → Int} (h : S.magE n u d w no = 0) (h1 : nl ≤ 1000) (h2 : ∀ j, j < nl → -1099511627776 ≤ t j ∧ t j ≤ 1099511627776) : S.erS n u d w no nl t = (S.erB u d nl t 0 n, 0) := by
  have hh : S.histE n u d w no nl t = 0 := by
    unfold S.histE
    rw [if_pos h, if_neg (by omega)]
    have : ∀ k i, i + k = nl → S.inE t i k = 0 := by
      intro k
      induction k with
      | zero => intro i _; rfl
      | succ k ih => intro i hi; simp only [S.inE]; rw [if_pos (h2 i (by omega))]; exact ih (i + 1) (by omega)
    exact this nl 0 (Nat.zero_add _)
  unfold S.erS
  rw [if_pos hh]
theorem stp_in {cn : ByteArray} {n : Nat} {t : Nat → Int} {rp fl : Int} (h : S.cyE cn n t rp fl = 0) : (S.stpL n t rp fl).length ≤ 181 ∧ 1 ≤ (S.stpL n t rp fl).length ∧ ∀ j, j < (S.stpL n t rp fl).length → -1099511627776 ≤ S.at' (S.stpL n t rp fl) j ∧ S.at' (S.stpL n t rp fl) j ≤ 1099511627776 := by
  obtain ⟨c1, c2, c3, c4, c5⟩ := cy_ok h
  have hb := mul_bd c1.2 c2.2
  refine ⟨by rw [stp_len]; omega, by rw [stp_len]; omega, fun j hj => ?_⟩
  rw [stp_len] at hj
  unfold S.stpL
  by_cases h1 : j < n * rp.toNat
  · rw [at_snoc_lt (by rw [mkl_len]; exact h1), at_mkl h1]
    exact (c5 (j % n) (Nat.mod_lt _ (by omega))).1
  · have e : j = (S.mkl (n * rp.toNat) fun j => t (j % n)).length := by rw [mkl_len]; omega
    rw [e, at_snoc_eq]; exact c3
noncomputable def xT2 (test : Bool → Prop → Prop → Prop) : Ext := consX test [k116, k117, k135, k136, k149, k21, k22, k34, k35, k24, k17, k25]
theorem xT2_ok : ExtOk Try.prog (xT2 cond) := consX_ok ⟨k116_ok, k117_ok, k135_ok, k136_ok, k149_ok, k21_ok, k22_ok, k34_ok, k35_ok, k24_ok, k17_ok, k25_ok, trivial⟩
abbrev St120 := Empty
abbrev Rt120 := Bool × Int
noncomputable def V120 (ar nr mr : Nat) (tr : Nat → Int) (vr : Nat → Int) (gr : Nat → Int) (ao no mo : Nat) (to : Nat → Bool) (cn : ByteArray) (aq nq mq : Nat) (tq : Nat → Int) (rp : Int) (fl : Int) (r : Rt120) : PV := PV.tup [PV.bool r.1, PV.int IntKind.i64 r.2]
noncomputable def N120 (ar nr mr : Nat) (tr : Nat → Int) (vr : Nat → Int) (gr : Nat → Int) (ao no mo : Nat) (to : Nat → Bool) (cn : ByteArray) (aq nq mq : Nat) (tq : Nat → Int) (rp : Int) (fl : Int) (r : Rt120) : List Blk := []
noncomputable def I120 (ar nr mr : Nat) (tr : Nat → Int) (vr : Nat → Int) (gr : Nat → Int) (ao no mo : Nat) (to : Nat → Bool) (cn : ByteArray) (aq nq mq : Nat) (tq : Nat → Int) (rp : Int) (fl : Int) : St120 → Hd := fun s => s.elim
noncomputable def q120 (ar nr mr : Nat) (tr : Nat → Int) (vr : Nat → Int) (gr : Nat → Int) (ao no mo : Nat) (to : Nat → Bool) (cn : ByteArray) (aq nq mq : Nat) (tq : Nat → Int) (rp : Int) (fl : Int) : St120 → Option (St120 ⊕ Rt120) := fun s => s.elim
noncomputable def p120 (ar nr mr : Nat) (tr : Nat → Int) (vr : Nat → Int) (gr : Nat → Int) (ao no mo : Nat) (to : Nat → Bool) (cn : ByteArray) (aq nq mq : Nat) (tq : Nat → Int) (rp : Int) (fl : Int) : Option (St120 ⊕ Rt120) := bif (decide (ar + nr ≤ mr ∧ nr ≤ 1000000))
 then (bif (S.magE nr (fun (j : Nat) => tr (j + ar)) (fun (j : Nat) => vr (j + ar)) (fun (j : Nat) => gr (j + ar)) no !=
 (0 : Int))
 then (some (.inr (false, S.magE nr (fun (j : Nat) => tr (j + ar)) (fun (j : Nat) => vr (j + ar)) (fun (j : Nat) => gr (j + ar)) no)))
 else (bif (decide (aq + nq ≤ mq ∧ nq ≤ 1000000))
 then (bif (S.cyE cn nq (fun (j : Nat) => tq (j + aq)) rp fl != (0 : Int))
 then (some (.inr (false, S.cyE cn nq (fun (j : Nat) => tq (j + aq)) rp fl)))
 else (bif (decide (aq + nq ≤ mq ∧ nq ≤ 20 ∧ (0 : Int) ≤ rp ∧ rp ≤ (9 : Int)))
 then (bif (decide
 (ar + nr ≤ mr ∧
 nr ≤ 1000000 ∧
 ao + no ≤ mo ∧
 no ≤ 1000000 ∧
 0 + List.length (S.stpL nq (fun (j : Nat) => tq (j + aq)) rp fl) ≤
 List.length (S.stpL nq (fun (j : Nat) => tq (j + aq)) rp fl) ∧
 List.length (S.stpL nq (fun (j : Nat) => tq (j + aq)) rp fl) ≤ 1000000))
 then (bif (Prod.fst
 (S.erS nr (fun (j : Nat) => tr (j + ar)) (fun (j : Nat) => vr (j + ar)) (fun (j : Nat) => gr (j + ar)) no
 (List.length (S.stpL nq (fun (j : Nat) => tq (j + aq)) rp fl)) fun (j : Nat) =>
 S.at' (S.stpL nq (fun (j : Nat) => tq (j + aq)) rp fl) j))
 then (some (.inr (true, Prod.snd
 (S.erS nr (fun (j : Nat) => tr (j + ar)) (fun (j : Nat) => vr (j + ar)) (fun (j : Nat) => gr (j + ar)) no
 (List.length (S.stpL nq (fun (j : Nat) => tq (j + aq)) rp fl)) fun (j : Nat) =>
 S.at' (S.stpL nq (fun (j : Nat) => tq (j + aq)) rp fl) j))))
 else (some (.inr (false, Prod.snd
 (S.erS nr (fun (j : Nat) => tr (j + ar)) (fun (j : Nat) => vr (j + ar)) (fun (j : Nat) => gr (j + ar)) no
 (List.length (S.stpL nq (fun (j : Nat) => tq (j + aq)) rp fl)) fun (j : Nat) =>
 S.at' (S.stpL nq (fun (j : Nat) => tq (j + aq)) rp fl) j)))))
 else (none))
 else (none)))
 else (none)))
 else (none)
noncomputable def Te120 (test : Bool → Prop → Prop → Prop) (Kst : KS) (Kret : KR) (ar nr mr : Nat) (tr : Nat → Int) (vr : Nat → Int) (gr : Nat → Int) (ao no mo : Nat) (to : Nat → Bool) (cn : ByteArray) (aq nq mq : Nat) (tq : Nat → Int) (rp : Int) (fl : Int) : Prop :=
  test (decide (ar + nr ≤ mr ∧ nr ≤ 1000000))
 (test (S.magE nr (fun (j : Nat) => tr (j + ar)) (fun (j : Nat) => vr (j + ar)) (fun (j : Nat) => gr (j + ar)) no !=
 (0 : Int))
 (test (S.magE nr (fun (j : Nat) => tr (j + ar)) (fun (j : Nat) => vr (j + ar)) (fun (j : Nat) => gr (j + ar)) no !=
 (0 : Int))
 (Kret (PV.tup
 [PV.tf false,
 PV.int IntKind.i64
 (S.magE nr (fun (j : Nat) => tr (j + ar)) (fun (j : Nat) => vr (j + ar)) (fun (j : Nat) => gr (j + ar)) no)]) ([[(2, false, Blk.cols mq [Col.int IntKind.i64 tq]),
 (1, false, Blk.cols mo [Col.bool to]),
 (0, false,
 Blk.cols mr
 [Col.int IntKind.i64 tr, Col.int IntKind.i64 vr, Col.int IntKind.i64 gr])]]) (8))
 (test (decide (aq + nq ≤ mq ∧ nq ≤ 20 ∧ (0 : Int) ≤ rp ∧ rp ≤ (9 : Int)))
 (test (decide
 (ar + nr ≤ mr ∧
 nr ≤ 1000000 ∧
 ao + no ≤ mo ∧
 no ≤ 1000000 ∧
 0 + List.length (S.stpL nq (fun (j : Nat) => tq (j + aq)) rp fl) ≤
 List.length (S.stpL nq (fun (j : Nat) => tq (j + aq)) rp fl) ∧
 List.length (S.stpL nq (fun (j : Nat) => tq (j + aq)) rp fl) ≤ 1000000))
 (test (Prod.fst
 (S.erS nr (fun (j : Nat) => tr (j + ar)) (fun (j : Nat) => vr (j + ar)) (fun (j : Nat) => gr (j + ar)) no
 (List.length (S.stpL nq (fun (j : Nat) => tq (j + aq)) rp fl)) fun (j : Nat) =>
 S.at' (S.stpL nq (fun (j : Nat) => tq (j + aq)) rp fl) j))
 (Kret (PV.tup
 [PV.tf true,
 PV.int IntKind.i64
 (Prod.snd
 (S.erS nr (fun (j : Nat) => tr (j + ar)) (fun (j : Nat) => vr (j + ar)) (fun (j : Nat) => gr (j + ar)) no
 (List.length (S.stpL nq (fun (j : Nat) => tq (j + aq)) rp fl)) fun (j : Nat) =>
 S.at' (S.stpL nq (fun (j : Nat) => tq (j + aq)) rp fl) j))]) ([[(2, false, Blk.cols mq [Col.int IntKind.i64 tq]),
 (1, false, Blk.cols mo [Col.bool to]),
 (0, false,
 Blk.cols mr
 [Col.int IntKind.i64 tr, Col.int IntKind.i64 vr, Col.int IntKind.i64 gr])]]) (11))
 (Kret (PV.tup
 [PV.tf false,
 PV.int IntKind.i64
 (Prod.snd
 (S.erS nr (fun (j : Nat) => tr (j + ar)) (fun (j : Nat) => vr (j + ar)) (fun (j : Nat) => gr (j + ar)) no
 (List.length (S.stpL nq (fun (j : Nat) => tq (j + aq)) rp fl)) fun (j : Nat) =>
 S.at' (S.stpL nq (fun (j : Nat) => tq (j + aq)) rp fl) j))]) ([[(2, false, Blk.cols mq [Col.int IntKind.i64 tq]),
 (1, false, Blk.cols mo [Col.bool to]),
 (0, false,
 Blk.cols mr
 [Col.int IntKind.i64 tr, Col.int IntKind.i64 vr, Col.int IntKind.i64 gr])]]) (11)))
 (False))
 (False)))
 (test (decide (aq + nq ≤ mq ∧ nq ≤ 1000000))
 (test (S.cyE cn nq (fun (j : Nat) => tq (j + aq)) rp fl != (0 : Int))
 (Kret (PV.tup
 [PV.tf false, PV.int IntKind.i64 (S.cyE cn nq (fun (j : Nat) => tq (j + aq)) rp fl)]) ([[(2, false, Blk.cols mq [Col.int IntKind.i64 tq]),
 (1, false, Blk.cols mo [Col.bool to]),
 (0, false,
 Blk.cols mr
 [Col.int IntKind.i64 tr, Col.int IntKind.i64 vr, Col.int IntKind.i64 gr])]]) (9))
 (test (decide (aq + nq ≤ mq ∧ nq ≤ 20 ∧ (0 : Int) ≤ rp ∧ rp ≤ (9 : Int)))
 (test (decide
 (ar + nr ≤ mr ∧
 nr ≤ 1000000 ∧
 ao + no ≤ mo ∧
 no ≤ 1000000 ∧
 0 + List.length (S.stpL nq (fun (j : Nat) => tq (j + aq)) rp fl) ≤
 List.length (S.stpL nq (fun (j : Nat) => tq (j + aq)) rp fl) ∧
 List.length (S.stpL nq (fun (j : Nat) => tq (j + aq)) rp fl) ≤ 1000000))
 (test (Prod.fst
 (S.erS nr (fun (j : Nat) => tr (j + ar)) (fun (j : Nat) => vr (j + ar)) (fun (j : Nat) => gr (j + ar)) no
 (List.length (S.stpL nq (fun (j : Nat) => tq (j + aq)) rp fl)) fun (j : Nat) =>
 S.at' (S.stpL nq (fun (j : Nat) => tq (j + aq)) rp fl) j))
 (Kret (PV.tup
 [PV.tf true,
 PV.int IntKind.i64
 (Prod.snd
 (S.erS nr (fun (j : Nat) => tr (j + ar)) (fun (j : Nat) => vr (j + ar)) (fun (j : Nat) => gr (j + ar)) no
 (List.length (S.stpL nq (fun (j : Nat) => tq (j + aq)) rp fl)) fun (j : Nat) =>
 S.at' (S.stpL nq (fun (j : Nat) => tq (j + aq)) rp fl) j))]) ([[(2, false, Blk.cols mq [Col.int IntKind.i64 tq]),
 (1, false, Blk.cols mo [Col.bool to]),
 (0, false,
 Blk.cols mr
 [Col.int IntKind.i64 tr, Col.int IntKind.i64 vr, Col.int IntKind.i64 gr])]]) (12))
 (Kret (PV.tup
 [PV.tf false,
 PV.int IntKind.i64
 (Prod.snd
 (S.erS nr (fun (j : Nat) => tr (j + ar)) (fun (j : Nat) => vr (j + ar)) (fun (j : Nat) => gr (j + ar)) no
 (List.length (S.stpL nq (fun (j : Nat) => tq (j + aq)) rp fl)) fun (j : Nat) =>
 S.at' (S.stpL nq (fun (j : Nat) => tq (j + aq)) rp fl) j))]) ([[(2, false, Blk.cols mq [Col.int IntKind.i64 tq]),
 (1, false, Blk.cols mo [Col.bool to]),
 (0, false,
 Blk.cols mr
 [Col.int IntKind.i64 tr, Col.int IntKind.i64 vr, Col.int IntKind.i64 gr])]]) (12)))
 (False))
 (False)))
 (False)))
 (False)
set_option maxRecDepth 100000 in
theorem te120 (test : Bool → Prop → Prop → Prop) (Kst : KS) (Kret : KR) (ar nr mr : Nat) (tr : Nat → Int) (vr : Nat → Int) (gr : Nat → Int) (ao no mo : Nat) (to : Nat → Bool) (cn : ByteArray) (aq nq mq : Nat) (tq : Nat → Int) (rp : Int) (fl : Int) : run test Try.env true (xT2 test) true 400 ⟨20, [.cd (mkFn Try.f20).body], argT 0 [.agg [.loose ⟨0, 3, ar, 0⟩ nr, .loose ⟨1, 1, ao, 0⟩ no], .agg [.str cn, .loose ⟨2, 1, aq, 0⟩ nq, .int .i64 rp, .int .i64 fl]], [[], [(0, (false, .cols mr [.int .i64 tr, .int .i64 vr, .int .i64 gr])), (1, (false, .cols mo [.bool to])), (2, (false, .cols mq [.int .i64 tq]))]], 3⟩ (proj 3 [] Kst Kret) =
  Te120 test Kst Kret ar nr mr tr vr gr ao no mo to cn aq nq mq tq rp fl := by kernel_rfl
set_option maxRecDepth 100000 in
theorem be120 (ar nr mr : Nat) (tr : Nat → Int) (vr : Nat → Int) (gr : Nat → Int) (ao no mo : Nat) (to : Nat → Bool) (cn : ByteArray) (aq nq mq : Nat) (tq : Nat → Int) (rp : Int) (fl : Int) (Kst : KS) (Kret : KR) (x : St120 ⊕ Rt120) (hS : HS 3 400 ((I120 ar nr mr tr vr gr ao no mo to cn aq nq mq tq rp fl)) Kst x) (hR : HR 3 400 ((V120 ar nr mr tr vr gr ao no mo to cn aq nq mq tq rp fl)) (fun r => [newL (3 + 1) ((N120 ar nr mr tr vr gr ao no mo to cn aq nq mq tq rp fl) r) ++ [(0, (false, .cols mr [.int .i64 tr, .int .i64 vr, .int .i64 gr])), (1, (false, .cols mo [.bool to])), (2, (false, .cols mq [.int .i64 tq]))]]) Kret x) (h : (bif (decide (ar + nr ≤ mr ∧ nr ≤ 1000000))
 then (bif (S.magE nr (fun (j : Nat) => tr (j + ar)) (fun (j : Nat) => vr (j + ar)) (fun (j : Nat) => gr (j + ar)) no !=
 (0 : Int))
 then (some (.inr (false, S.magE nr (fun (j : Nat) => tr (j + ar)) (fun (j : Nat) => vr (j + ar)) (fun (j : Nat) => gr (j + ar)) no)))
 else (bif (decide (aq + nq ≤ mq ∧ nq ≤ 1000000))
 then (bif (S.cyE cn nq (fun (j : Nat) => tq (j + aq)) rp fl != (0 : Int))
 then (some (.inr (false, S.cyE cn nq (fun (j : Nat) => tq (j + aq)) rp fl)))
 else (bif (decide (aq + nq ≤ mq ∧ nq ≤ 20 ∧ (0 : Int) ≤ rp ∧ rp ≤ (9 : Int)))
 then (bif (decide
 (ar + nr ≤ mr ∧
 nr ≤ 1000000 ∧
 ao + no ≤ mo ∧
 no ≤ 1000000 ∧
 0 + List.length (S.stpL nq (fun (j : Nat) => tq (j + aq)) rp fl) ≤
 List.length (S.stpL nq (fun (j : Nat) => tq (j + aq)) rp fl) ∧
 List.length (S.stpL nq (fun (j : Nat) => tq (j + aq)) rp fl) ≤ 1000000))
 then (bif (Prod.fst
 (S.erS nr (fun (j : Nat) => tr (j + ar)) (fun (j : Nat) => vr (j + ar)) (fun (j : Nat) => gr (j + ar)) no
 (List.length (S.stpL nq (fun (j : Nat) => tq (j + aq)) rp fl)) fun (j : Nat) =>
 S.at' (S.stpL nq (fun (j : Nat) => tq (j + aq)) rp fl) j))
 then (some (.inr (true, Prod.snd
 (S.erS nr (fun (j : Nat) => tr (j + ar)) (fun (j : Nat) => vr (j + ar)) (fun (j : Nat) => gr (j + ar)) no
 (List.length (S.stpL nq (fun (j : Nat) => tq (j + aq)) rp fl)) fun (j : Nat) =>
 S.at' (S.stpL nq (fun (j : Nat) => tq (j + aq)) rp fl) j))))
 else (some (.inr (false, Prod.snd
 (S.erS nr (fun (j : Nat) => tr (j + ar)) (fun (j : Nat) => vr (j + ar)) (fun (j : Nat) => gr (j + ar)) no
 (List.length (S.stpL nq (fun (j : Nat) => tq (j + aq)) rp fl)) fun (j : Nat) =>
 S.at' (S.stpL nq (fun (j : Nat) => tq (j + aq)) rp fl) j)))))
 else (none))
 else (none)))
 else (none)))
 else (none) : Option (St120 ⊕ Rt120)) = some x) : Te120 cond Kst Kret ar nr mr tr vr gr ao no mo to cn aq nq mq tq rp fl := by
  unfold Te120
  exact bif_split h
   (fun c0 h => bif_split h
   (fun c1 h => cond_yes c1 (ret_at hR _ h (fun n => n) rfl rfl rfl (rn_tup ⟨(rn_bool_tf rfl), (rn_int rfl), trivial⟩) rfl (entl_bor (use_lo rfl) rfl rfl (entl_bor (use_lo rfl) rfl rfl (entl_bor (use_lo rfl) rfl rfl entl_nil)))))
   (fun c1 h => bif_split h
   (fun c2 h => bif_split h
   (fun c3 h => ret_at hR _ h (fun n => n) rfl rfl rfl (rn_tup ⟨(rn_bool_tf rfl), (rn_int rfl), trivial⟩) rfl (entl_bor (use_lo rfl) rfl rfl (entl_bor (use_lo rfl) rfl rfl (entl_bor (use_lo rfl) rfl rfl entl_nil))))
   (fun c3 h => bif_split h
   (fun c4 h => bif_split h
   (fun c5 h => bif_split h
   (fun c6 h => ret_at hR _ h (fun n => n) rfl rfl rfl (rn_tup ⟨(rn_bool_tf rfl), (rn_int rfl), trivial⟩) rfl (entl_bor (use_lo rfl) rfl rfl (entl_bor (use_lo rfl) rfl rfl (entl_bor (use_lo rfl) rfl rfl entl_nil))))
   (fun c6 h => ret_at hR _ h (fun n => n) rfl rfl rfl (rn_tup ⟨(rn_bool_tf rfl), (rn_int rfl), trivial⟩) rfl (entl_bor (use_lo rfl) rfl rfl (entl_bor (use_lo rfl) rfl rfl (entl_bor (use_lo rfl) rfl rfl entl_nil)))))
   (fun c5 h => no_some h))
   (fun c4 h => no_some h)))
   (fun c2 h => no_some h)))
   (fun c0 h => no_some h)
theorem a120 (ar nr mr : Nat) (tr : Nat → Int) (vr : Nat → Int) (gr : Nat → Int) (ao no mo : Nat) (to : Nat → Bool) (cn : ByteArray) (aq nq mq : Nat) (tq : Nat → Int) (rp : Int) (fl : Int) {r : Rt120} (h : Goes ((q120 ar nr mr tr vr gr ao no mo to cn aq nq mq tq rp fl)) ((p120 ar nr mr tr vr gr ao no mo to cn aq nq mq tq rp fl)) r) : CallR Try.prog 20 [.agg [.loose ⟨0, 3, ar, 0⟩ nr, .loose ⟨1, 1, ao, 0⟩ no], .agg [.str cn, .loose ⟨2, 1, aq, 0⟩ nq, .int .i64 rp, .int .i64 fl]] [[(0, (false, .cols mr [.int .i64 tr, .int .i64 vr, .int .i64 gr])), (1, (false, .cols mo [.bool to])), (2, (false, .cols mq [.int .i64 tq]))]] 3 ((V120 ar nr mr tr vr gr ao no mo to cn aq nq mq tq rp fl) r) ((fun r => [newL (3 + 1) ((N120 ar nr mr tr vr gr ao no mo to cn aq nq mq tq rp fl) r) ++ [(0, (false, .cols mr [.int .i64 tr, .int .i64 vr, .int .i64 gr])), (1, (false, .cols mo [.bool to])), (2, (false, .cols mq [.int .i64 tq]))]]) r) 400 ∧ ∃ F, Try.prog.funcs[20]? = some F ∧ F.body.isSome = true ∧ (F.name == "runtime.NumGoroutine") = false := by
  refine dec_calls (f := 20) (lo := 3) (hi := 400) (H := [[(0, (false, .cols mr [.int .i64 tr, .int .i64 vr, .int .i64 gr])), (1, (false, .cols mo [.bool to])), (2, (false, .cols mq [.int .i64 tq]))]]) (args := [.agg [.loose ⟨0, 3, ar, 0⟩ nr, .loose ⟨1, 1, ao, 0⟩ no], .agg [.str cn, .loose ⟨2, 1, aq, 0⟩ nq, .int .i64 rp, .int .i64 fl]]) Try.envOk Try.mixed xT2_ok ((I120 ar nr mr tr vr gr ao no mo to cn aq nq mq tq rp fl)) ((V120 ar nr mr tr vr gr ao no mo to cn aq nq mq tq rp fl)) (fun r => [newL (3 + 1) ((N120 ar nr mr tr vr gr ao no mo to cn aq nq mq tq rp fl) r) ++ [(0, (false, .cols mr [.int .i64 tr, .int .i64 vr, .int .i64 gr])), (1, (false, .cols mo [.bool to])), (2, (false, .cols mq [.int .i64 tq]))]]) (fn := mkFn Try.f20) (ts := []) (n := 400) rfl (by decide) (by simp) (names_of rfl) ?_ ?_ ?_ h
  · intro s; exact s.elim
  · intro Kst Kret x hS hR h
    exact Holds.eq (te120 cond Kst Kret ar nr mr tr vr gr ao no mo to cn aq nq mq tq rp fl) (be120 ar nr mr tr vr gr ao no mo to cn aq nq mq tq rp fl Kst Kret x hS hR h)
  · intro Kst Kret x hS hR s h; exact s.elim
noncomputable def k120 : Con := ⟨20, [.agg [.list [.int .i64, .int .i64, .int .i64], .list [.bool]], .agg [.plain (.str), .list [.int .i64], .plain (.int .i64), .plain (.int .i64)]], fun (x : ((Nat × Nat × Nat × (Nat → Int) × (Nat → Int) × (Nat → Int) × Unit) × (Nat × Nat × Nat × (Nat → Bool) × Unit) × Unit) × (ByteArray × (Nat × Nat × Nat × (Nat → Int) × Unit) × Int × Int × Unit) × Unit) => (fun (ar nr mr : Nat) (tr : Nat → Int) (vr : Nat → Int) (gr : Nat → Int) (ao no mo : Nat) (to : Nat → Bool) (cn : ByteArray) (aq nq mq : Nat) (tq : Nat → Int) (rp : Int) (fl : Int) => decide ((ar + nr ≤ mr ∧ nr ≤ 1000000) ∧ (ao + no ≤ mo ∧ no ≤ 1000000) ∧ (aq + nq ≤ mq ∧ nq ≤ 1000000))) x.1.1.1 x.1.1.2.1 x.1.1.2.2.1 x.1.1.2.2.2.1 x.1.1.2.2.2.2.1 x.1.1.2.2.2.2.2.1 x.1.2.1.1 x.1.2.1.2.1 x.1.2.1.2.2.1 x.1.2.1.2.2.2.1 x.2.1.1 x.2.1.2.1.1 x.2.1.2.1.2.1 x.2.1.2.1.2.2.1 x.2.1.2.1.2.2.2.1 x.2.1.2.2.1 x.2.1.2.2.2.1, fun (x : ((Nat × Nat × Nat × (Nat → Int) × (Nat → Int) × (Nat → Int) × Unit) × (Nat × Nat × Nat × (Nat → Bool) × Unit) × Unit) × (ByteArray × (Nat × Nat × Nat × (Nat → Int) × Unit) × Int × Int × Unit) × Unit) => (fun (ar nr mr : Nat) (tr : Nat → Int) (vr : Nat → Int) (gr : Nat → Int) (ao no mo : Nat) (to : Nat → Bool) (cn : ByteArray) (aq nq mq : Nat) (tq : Nat → Int) (rp : Int) (fl : Int) => (V120 ar nr mr tr vr gr ao no mo to cn aq nq mq tq rp fl) (S.suiS (S.botE (S.magE nr (fun j => tr (j + ar)) (fun j => vr (j + ar)) (fun j => gr (j + ar)) no) (S.cyE cn nq (fun j => tq (j + aq)) rp fl)) (S.erB (fun j => tr (j + ar)) (fun j => vr (j + ar)) (S.stpL nq (fun j => tq (j + aq)) rp fl).length (fun j => S.at' (S.stpL nq (fun j => tq (j + aq)) rp fl) j) 0 nr))) x.1.1.1 x.1.1.2.1 x.1.1.2.2.1 x.1.1.2.2.2.1 x.1.1.2.2.2.2.1 x.1.1.2.2.2.2.2.1 x.1.2.1.1 x.1.2.1.2.1 x.1.2.1.2.2.1 x.1.2.1.2.2.2.1 x.2.1.1 x.2.1.2.1.1 x.2.1.2.1.2.1 x.2.1.2.1.2.2.1 x.2.1.2.1.2.2.2.1 x.2.1.2.2.1 x.2.1.2.2.2.1, fun (x : ((Nat × Nat × Nat × (Nat → Int) × (Nat → Int) × (Nat → Int) × Unit) × (Nat × Nat × Nat × (Nat → Bool) × Unit) × Unit) × (ByteArray × (Nat × Nat × Nat × (Nat → Int) × Unit) × Int × Int × Unit) × Unit) => (fun (ar nr mr : Nat) (tr : Nat → Int) (vr : Nat → Int) (gr : Nat → Int) (ao no mo : Nat) (to : Nat → Bool) (cn : ByteArray) (aq nq mq : Nat) (tq : Nat → Int) (rp : Int) (fl : Int) => (N120 ar nr mr tr vr gr ao no mo to cn aq nq mq tq rp fl) (S.suiS (S.botE (S.magE nr (fun j => tr (j + ar)) (fun j => vr (j + ar)) (fun j => gr (j + ar)) no) (S.cyE cn nq (fun j => tq (j + aq)) rp fl)) (S.erB (fun j => tr (j + ar)) (fun j => vr (j + ar)) (S.stpL nq (fun j => tq (j + aq)) rp fl).length (fun j => S.at' (S.stpL nq (fun j => tq (j + aq)) rp fl) j) 0 nr))) x.1.1.1 x.1.1.2.1 x.1.1.2.2.1 x.1.1.2.2.2.1 x.1.1.2.2.2.2.1 x.1.1.2.2.2.2.2.1 x.1.2.1.1 x.1.2.1.2.1 x.1.2.1.2.2.1 x.1.2.1.2.2.2.1 x.2.1.1 x.2.1.2.1.1 x.2.1.2.1.2.1 x.2.1.2.1.2.2.1 x.2.1.2.1.2.2.2.1 x.2.1.2.2.1 x.2.1.2.2.2.1, fun _ _ => .dead⟩
theorem s120 (ar nr mr : Nat) (tr : Nat → Int) (vr : Nat → Int) (gr : Nat → Int) (ao no mo : Nat) (to : Nat → Bool) (cn : ByteArray) (aq nq mq : Nat) (tq : Nat → Int) (rp : Int) (fl : Int) (hp : (ar + nr ≤ mr ∧ nr ≤ 1000000) ∧ (ao + no ≤ mo ∧ no ≤ 1000000) ∧ (aq + nq ≤ mq ∧ nq ≤ 1000000)) : Goes ((q120 ar nr mr tr vr gr ao no mo to cn aq nq mq tq rp fl)) ((p120 ar nr mr tr vr gr ao no mo to cn aq nq mq tq rp fl)) (S.suiS (S.botE (S.magE nr (fun j => tr (j + ar)) (fun j => vr (j + ar)) (fun j => gr (j + ar)) no) (S.cyE cn nq (fun j => tq (j + aq)) rp fl)) (S.erB (fun j => tr (j + ar)) (fun j => vr (j + ar)) (S.stpL nq (fun j => tq (j + aq)) rp fl).length (fun j => S.at' (S.stpL nq (fun j => tq (j + aq)) rp fl) j) 0 nr)) := by
  obtain ⟨⟨hp1, hp2⟩, ⟨hp5, hp6⟩, hp3, hp4⟩ := hp
  have hc : (S.cyE cn nq (fun j => tq (j + aq)) rp fl) = 0 → (nq ≤ 20 ∧ 0 ≤ rp ∧ rp ≤ 9) ∧ (S.stpL nq (fun j => tq (j + aq)) rp fl).length ≤ 181 := fun h => by have := cy_ok h; have := stp_in h; omega
  unfold S.suiS S.botE
  by_cases hm : (S.magE nr (fun j => tr (j + ar)) (fun j => vr (j + ar)) (fun j => gr (j + ar)) no) = 0
  · by_cases hy : (S.cyE cn nq (fun j => tq (j + aq)) rp fl) = 0
    · have hst := stp_in hy
      have he : S.erS nr (fun j => tr (j + ar)) (fun j => vr (j + ar)) (fun j => gr (j + ar)) no (S.stpL nq (fun j => tq (j + aq)) rp fl).length (fun j => S.at' (S.stpL nq (fun j => tq (j + aq)) rp fl) j) = (S.erB (fun j => tr (j + ar)) (fun j => vr (j + ar)) (S.stpL nq (fun j => tq (j + aq)) rp fl).length (fun j => S.at' (S.stpL nq (fun j => tq (j + aq)) rp fl) j) 0 nr, 0) := er_in hm (by omega) hst.2.2
      have hc := hc hy
      rw [if_pos hm, if_pos hy]
      unfold p120
      simp only [hm, hy, he]
      clear he
      generalize S.erB (fun j => tr (j + ar)) (fun j => vr (j + ar)) (S.stpL nq (fun j => tq (j + aq)) rp fl).length (fun j => S.at' (S.stpL nq (fun j => tq (j + aq)) rp fl) j) 0 nr = A at *
      generalize (S.stpL nq (fun j => tq (j + aq)) rp fl) = L at *
      cases A
      all_goals
       show Goes _ _ _
       repeat' first
        | with_reducible refine goes_if (fun h => ?_) (fun h => ?_) <;> (try simp only [lim64, imp_false, decide_eq_true_eq, decide_eq_false_iff_not, Int.toNat_natCast, toNat_pred, toNat_succ, Option.getD_some, Option.getD_none, Bool.not_eq_true', Bool.not_eq_false', Bool.and_eq_true, Bool.or_eq_true, Bool.and_eq_false_iff, Bool.or_eq_false_iff, bne_iff_ne, beq_iff_eq, bne_eq_false_iff_eq, beq_eq_false_iff_ne, ne_eq, not_and, Int.not_le, Int.not_lt, ge_iff_le, gt_iff_lt, Nat.not_lt, Nat.not_le, Bool.not_eq_true, Bool.not_eq_false, Bool.true_eq_false, Bool.false_eq_true, not_false_eq_true, not_true_eq_false] at h)
        | exact goes_none.mpr (by omega)
       all_goals first | (exfalso; omega) | exact goes_inr.mpr rfl | (exfalso; simp_all; done)
    · rw [if_pos hm, if_neg hy]
      unfold p120
      simp only [hm]
      generalize (S.cyE cn nq (fun j => tq (j + aq)) rp fl) = e at *
      show Goes _ _ _
      repeat' first
        | with_reducible refine goes_if (fun h => ?_) (fun h => ?_) <;> (try simp only [lim64, imp_false, decide_eq_true_eq, decide_eq_false_iff_not, Int.toNat_natCast, toNat_pred, toNat_succ, Option.getD_some, Option.getD_none, Bool.not_eq_true', Bool.not_eq_false', Bool.and_eq_true, Bool.or_eq_true, Bool.and_eq_false_iff, Bool.or_eq_false_iff, bne_iff_ne, beq_iff_eq, bne_eq_false_iff_eq, beq_eq_false_iff_ne, ne_eq, not_and, Int.not_le, Int.not_lt, ge_iff_le, gt_iff_lt, Nat.not_lt, Nat.not_le, Bool.not_eq_true, Bool.not_eq_false, Bool.true_eq_false, Bool.false_eq_true, not_false_eq_true, not_true_eq_false] at h)
        | exact goes_none.mpr (by omega)
      all_goals first | (exfalso; omega) | exact goes_inr.mpr rfl | (exfalso; simp_all; done)
  · rw [if_neg hm, if_neg hm]
    unfold p120
    generalize (S.magE nr (fun j => tr (j + ar)) (fun j => vr (j + ar)) (fun j => gr (j + ar)) no) = e at *
    show Goes _ _ _
    repeat' first
      | with_reducible refine goes_if (fun h => ?_) (fun h => ?_) <;> (try simp only [lim64, imp_false, decide_eq_true_eq, decide_eq_false_iff_not, Int.toNat_natCast, toNat_pred, toNat_succ, Option.getD_some, Option.getD_none, Bool.not_eq_true', Bool.not_eq_false', Bool.and_eq_true, Bool.or_eq_true, Bool.and_eq_false_iff, Bool.or_eq_false_iff, bne_iff_ne, beq_iff_eq, bne_eq_false_iff_eq, beq_eq_false_iff_ne, ne_eq, not_and, Int.not_le, Int.not_lt, ge_iff_le, gt_iff_lt, Nat.not_lt, Nat.not_le, Bool.not_eq_true, Bool.not_eq_false, Bool.true_eq_false, Bool.false_eq_true, not_false_eq_true, not_true_eq_false] at h)
      | exact goes_none.mpr (by omega)
    all_goals first | (exfalso; omega) | exact goes_inr.mpr rfl | (exfalso; simp_all; done)
theorem k120_ok : k120.ok Try.prog := by
  intro x hx
  obtain ⟨⟨⟨ar, nr, mr, tr, vr, gr, _⟩, ⟨ao, no, mo, to, _⟩, _⟩, ⟨cn, ⟨aq, nq, mq, tq, _⟩, rp, fl, _⟩, _⟩ := x
  obtain ⟨h1, h2⟩ := a120 ar nr mr tr vr gr ao no mo to cn aq nq mq tq rp fl (s120 ar nr mr tr vr gr ao no mo to cn aq nq mq tq rp fl (of_dec hx rfl))
  exact ⟨⟨400, (by decide : 3 + 1 + 0 ≤ 400), h1⟩, h2⟩
abbrev St121 := Empty
abbrev Rt121 := Bool × Int
noncomputable def V121 (ar nr mr : Nat) (tr : Nat → Int) (vr : Nat → Int) (gr : Nat → Int) (ao no mo : Nat) (to : Nat → Bool) (cn : ByteArray) (aq nq mq : Nat) (tq : Nat → Int) (rp : Int) (fl : Int) (r : Rt121) : PV := PV.tup [PV.bool r.1, PV.int IntKind.i64 r.2]
noncomputable def N121 (ar nr mr : Nat) (tr : Nat → Int) (vr : Nat → Int) (gr : Nat → Int) (ao no mo : Nat) (to : Nat → Bool) (cn : ByteArray) (aq nq mq : Nat) (tq : Nat → Int) (rp : Int) (fl : Int) (r : Rt121) : List Blk := []
noncomputable def I121 (ar nr mr : Nat) (tr : Nat → Int) (vr : Nat → Int) (gr : Nat → Int) (ao no mo : Nat) (to : Nat → Bool) (cn : ByteArray) (aq nq mq : Nat) (tq : Nat → Int) (rp : Int) (fl : Int) : St121 → Hd := fun s => s.elim
noncomputable def q121 (ar nr mr : Nat) (tr : Nat → Int) (vr : Nat → Int) (gr : Nat → Int) (ao no mo : Nat) (to : Nat → Bool) (cn : ByteArray) (aq nq mq : Nat) (tq : Nat → Int) (rp : Int) (fl : Int) : St121 → Option (St121 ⊕ Rt121) := fun s => s.elim
noncomputable def p121 (ar nr mr : Nat) (tr : Nat → Int) (vr : Nat → Int) (gr : Nat → Int) (ao no mo : Nat) (to : Nat → Bool) (cn : ByteArray) (aq nq mq : Nat) (tq : Nat → Int) (rp : Int) (fl : Int) : Option (St121 ⊕ Rt121) := bif (decide (ar + nr ≤ mr ∧ nr ≤ 1000000))
 then (bif (S.magE nr (fun (j : Nat) => tr (j + ar)) (fun (j : Nat) => vr (j + ar)) (fun (j : Nat) => gr (j + ar)) no !=
 (0 : Int))
 then (some (.inr (false, S.magE nr (fun (j : Nat) => tr (j + ar)) (fun (j : Nat) => vr (j + ar)) (fun (j : Nat) => gr (j + ar)) no)))
 else (bif (decide (aq + nq ≤ mq ∧ nq ≤ 1000000))
 then (bif (S.cyE cn nq (fun (j : Nat) => tq (j + aq)) rp fl != (0 : Int))
 then (some (.inr (false, S.cyE cn nq (fun (j : Nat) => tq (j + aq)) rp fl)))
 else (bif (decide (aq + nq ≤ mq ∧ nq ≤ 20 ∧ (0 : Int) ≤ rp ∧ rp ≤ (9 : Int)))
 then (bif (decide
 (ar + nr ≤ mr ∧
 nr ≤ 1000000 ∧
 ao + no ≤ mo ∧
 no ≤ 1000000 ∧
 0 + List.length (S.stpL nq (fun (j : Nat) => tq (j + aq)) rp fl) ≤
 List.length (S.stpL nq (fun (j : Nat) => tq (j + aq)) rp fl) ∧
 List.length (S.stpL nq (fun (j : Nat) => tq (j + aq)) rp fl) ≤ 1000000))
 then (bif (Prod.fst
 (S.erS nr (fun (j : Nat) => tr (j + ar)) (fun (j : Nat) => vr (j + ar)) (fun (j : Nat) => gr (j + ar)) no
 (List.length (S.stpL nq (fun (j : Nat) => tq (j + aq)) rp fl)) fun (j : Nat) =>
 S.at' (S.stpL nq (fun (j : Nat) => tq (j + aq)) rp fl) j))
 then (some (.inr (true, Prod.snd
 (S.erS nr (fun (j : Nat) => tr (j + ar)) (fun (j : Nat) => vr (j + ar)) (fun (j : Nat) => gr (j + ar)) no
 (List.length (S.stpL nq (fun (j : Nat) => tq (j + aq)) rp fl)) fun (j : Nat) =>
 S.at' (S.stpL nq (fun (j : Nat) => tq (j + aq)) rp fl) j))))
 else (some (.inr (false, Prod.snd
 (S.erS nr (fun (j : Nat) => tr (j + ar)) (fun (j : Nat) => vr (j + ar)) (fun (j : Nat) => gr (j + ar)) no
 (List.length (S.stpL nq (fun (j : Nat) => tq (j + aq)) rp fl)) fun (j : Nat) =>
 S.at' (S.stpL nq (fun (j : Nat) => tq (j + aq)) rp fl) j)))))
 else (none))
 else (none)))
 else (none)))
 else (none)
noncomputable def Te121 (test : Bool → Prop → Prop → Prop) (Kst : KS) (Kret : KR) (ar nr mr : Nat) (tr : Nat → Int) (vr : Nat → Int) (gr : Nat → Int) (ao no mo : Nat) (to : Nat → Bool) (cn : ByteArray) (aq nq mq : Nat) (tq : Nat → Int) (rp : Int) (fl : Int) : Prop :=
  test (decide (ar + nr ≤ mr ∧ nr ≤ 1000000))
 (test (S.magE nr (fun (j : Nat) => tr (j + ar)) (fun (j : Nat) => vr (j + ar)) (fun (j : Nat) => gr (j + ar)) no !=
 (0 : Int))
 (test (S.magE nr (fun (j : Nat) => tr (j + ar)) (fun (j : Nat) => vr (j + ar)) (fun (j : Nat) => gr (j + ar)) no !=
 (0 : Int))
 (Kret (PV.tup
 [PV.tf false,
 PV.int IntKind.i64
 (S.magE nr (fun (j : Nat) => tr (j + ar)) (fun (j : Nat) => vr (j + ar)) (fun (j : Nat) => gr (j + ar)) no)]) ([[(2, false, Blk.cols mq [Col.int IntKind.i64 tq]),
 (1, false, Blk.cols mo [Col.bool to]),
 (0, false,
 Blk.cols mr
 [Col.int IntKind.i64 tr, Col.int IntKind.i64 vr, Col.int IntKind.i64 gr])]]) (8))
 (test (decide (aq + nq ≤ mq ∧ nq ≤ 20 ∧ (0 : Int) ≤ rp ∧ rp ≤ (9 : Int)))
 (test (decide
 (ar + nr ≤ mr ∧
 nr ≤ 1000000 ∧
 ao + no ≤ mo ∧
 no ≤ 1000000 ∧
 0 + List.length (S.stpL nq (fun (j : Nat) => tq (j + aq)) rp fl) ≤
 List.length (S.stpL nq (fun (j : Nat) => tq (j + aq)) rp fl) ∧
 List.length (S.stpL nq (fun (j : Nat) => tq (j + aq)) rp fl) ≤ 1000000))
 (test (Prod.fst
 (S.erS nr (fun (j : Nat) => tr (j + ar)) (fun (j : Nat) => vr (j + ar)) (fun (j : Nat) => gr (j + ar)) no
 (List.length (S.stpL nq (fun (j : Nat) => tq (j + aq)) rp fl)) fun (j : Nat) =>
 S.at' (S.stpL nq (fun (j : Nat) => tq (j + aq)) rp fl) j))
 (Kret (PV.tup
 [PV.tf true,
 PV.int IntKind.i64
 (Prod.snd
 (S.erS nr (fun (j : Nat) => tr (j + ar)) (fun (j : Nat) => vr (j + ar)) (fun (j : Nat) => gr (j + ar)) no
 (List.length (S.stpL nq (fun (j : Nat) => tq (j + aq)) rp fl)) fun (j : Nat) =>
 S.at' (S.stpL nq (fun (j : Nat) => tq (j + aq)) rp fl) j))]) ([[(2, false, Blk.cols mq [Col.int IntKind.i64 tq]),
 (1, false, Blk.cols mo [Col.bool to]),
 (0, false,
 Blk.cols mr
 [Col.int IntKind.i64 tr, Col.int IntKind.i64 vr, Col.int IntKind.i64 gr])]]) (11))
 (Kret (PV.tup
 [PV.tf false,
 PV.int IntKind.i64
 (Prod.snd
 (S.erS nr (fun (j : Nat) => tr (j + ar)) (fun (j : Nat) => vr (j + ar)) (fun (j : Nat) => gr (j + ar)) no
 (List.length (S.stpL nq (fun (j : Nat) => tq (j + aq)) rp fl)) fun (j : Nat) =>
 S.at' (S.stpL nq (fun (j : Nat) => tq (j + aq)) rp fl) j))]) ([[(2, false, Blk.cols mq [Col.int IntKind.i64 tq]),
 (1, false, Blk.cols mo [Col.bool to]),
 (0, false,
 Blk.cols mr
 [Col.int IntKind.i64 tr, Col.int IntKind.i64 vr, Col.int IntKind.i64 gr])]]) (11)))
 (False))
 (False)))
 (test (decide (aq + nq ≤ mq ∧ nq ≤ 1000000))
 (test (S.cyE cn nq (fun (j : Nat) => tq (j + aq)) rp fl != (0 : Int))
 (Kret (PV.tup
 [PV.tf false, PV.int IntKind.i64 (S.cyE cn nq (fun (j : Nat) => tq (j + aq)) rp fl)]) ([[(2, false, Blk.cols mq [Col.int IntKind.i64 tq]),
 (1, false, Blk.cols mo [Col.bool to]),
 (0, false,
 Blk.cols mr
 [Col.int IntKind.i64 tr, Col.int IntKind.i64 vr, Col.int IntKind.i64 gr])]]) (9))
 (test (decide (aq + nq ≤ mq ∧ nq ≤ 20 ∧ (0 : Int) ≤ rp ∧ rp ≤ (9 : Int)))
 (test (decide
 (ar + nr ≤ mr ∧
 nr ≤ 1000000 ∧
 ao + no ≤ mo ∧
 no ≤ 1000000 ∧
 0 + List.length (S.stpL nq (fun (j : Nat) => tq (j + aq)) rp fl) ≤
 List.length (S.stpL nq (fun (j : Nat) => tq (j + aq)) rp fl) ∧
 List.length (S.stpL nq (fun (j : Nat) => tq (j + aq)) rp fl) ≤ 1000000))
 (test (Prod.fst
 (S.erS nr (fun (j : Nat) => tr (j + ar)) (fun (j : Nat) => vr (j + ar)) (fun (j : Nat) => gr (j + ar)) no
 (List.length (S.stpL nq (fun (j : Nat) => tq (j + aq)) rp fl)) fun (j : Nat) =>
 S.at' (S.stpL nq (fun (j : Nat) => tq (j + aq)) rp fl) j))
 (Kret (PV.tup
 [PV.tf true,
 PV.int IntKind.i64
 (Prod.snd
 (S.erS nr (fun (j : Nat) => tr (j + ar)) (fun (j : Nat) => vr (j + ar)) (fun (j : Nat) => gr (j + ar)) no
 (List.length (S.stpL nq (fun (j : Nat) => tq (j + aq)) rp fl)) fun (j : Nat) =>
 S.at' (S.stpL nq (fun (j : Nat) => tq (j + aq)) rp fl) j))]) ([[(2, false, Blk.cols mq [Col.int IntKind.i64 tq]),
 (1, false, Blk.cols mo [Col.bool to]),
 (0, false,
 Blk.cols mr
 [Col.int IntKind.i64 tr, Col.int IntKind.i64 vr, Col.int IntKind.i64 gr])]]) (12))
 (Kret (PV.tup
 [PV.tf false,
 PV.int IntKind.i64
 (Prod.snd
 (S.erS nr (fun (j : Nat) => tr (j + ar)) (fun (j : Nat) => vr (j + ar)) (fun (j : Nat) => gr (j + ar)) no
 (List.length (S.stpL nq (fun (j : Nat) => tq (j + aq)) rp fl)) fun (j : Nat) =>
 S.at' (S.stpL nq (fun (j : Nat) => tq (j + aq)) rp fl) j))]) ([[(2, false, Blk.cols mq [Col.int IntKind.i64 tq]),
 (1, false, Blk.cols mo [Col.bool to]),
 (0, false,
 Blk.cols mr
 [Col.int IntKind.i64 tr, Col.int IntKind.i64 vr, Col.int IntKind.i64 gr])]]) (12)))
 (False))
 (False)))
 (False)))
 (False)
set_option maxRecDepth 100000 in
theorem te121 (test : Bool → Prop → Prop → Prop) (Kst : KS) (Kret : KR) (ar nr mr : Nat) (tr : Nat → Int) (vr : Nat → Int) (gr : Nat → Int) (ao no mo : Nat) (to : Nat → Bool) (cn : ByteArray) (aq nq mq : Nat) (tq : Nat → Int) (rp : Int) (fl : Int) : run test Try.env true (xT2 test) true 400 ⟨21, [.cd (mkFn Try.f21).body], argT 0 [.agg [.loose ⟨0, 3, ar, 0⟩ nr, .loose ⟨1, 1, ao, 0⟩ no], .agg [.str cn, .loose ⟨2, 1, aq, 0⟩ nq, .int .i64 rp, .int .i64 fl]], [[], [(0, (false, .cols mr [.int .i64 tr, .int .i64 vr, .int .i64 gr])), (1, (false, .cols mo [.bool to])), (2, (false, .cols mq [.int .i64 tq]))]], 3⟩ (proj 3 [] Kst Kret) =
  Te121 test Kst Kret ar nr mr tr vr gr ao no mo to cn aq nq mq tq rp fl := by kernel_rfl
set_option maxRecDepth 100000 in
theorem be121 (ar nr mr : Nat) (tr : Nat → Int) (vr : Nat → Int) (gr : Nat → Int) (ao no mo : Nat) (to : Nat → Bool) (cn : ByteArray) (aq nq mq : Nat) (tq : Nat → Int) (rp : Int) (fl : Int) (Kst : KS) (Kret : KR) (x : St121 ⊕ Rt121) (hS : HS 3 400 ((I121 ar nr mr tr vr gr ao no mo to cn aq nq mq tq rp fl)) Kst x) (hR : HR 3 400 ((V121 ar nr mr tr vr gr ao no mo to cn aq nq mq tq rp fl)) (fun r => [newL (3 + 1) ((N121 ar nr mr tr vr gr ao no mo to cn aq nq mq tq rp fl) r) ++ [(0, (false, .cols mr [.int .i64 tr, .int .i64 vr, .int .i64 gr])), (1, (false, .cols mo [.bool to])), (2, (false, .cols mq [.int .i64 tq]))]]) Kret x) (h : (bif (decide (ar + nr ≤ mr ∧ nr ≤ 1000000))
 then (bif (S.magE nr (fun (j : Nat) => tr (j + ar)) (fun (j : Nat) => vr (j + ar)) (fun (j : Nat) => gr (j + ar)) no !=
 (0 : Int))
 then (some (.inr (false, S.magE nr (fun (j : Nat) => tr (j + ar)) (fun (j : Nat) => vr (j + ar)) (fun (j : Nat) => gr (j + ar)) no)))
 else (bif (decide (aq + nq ≤ mq ∧ nq ≤ 1000000))
 then (bif (S.cyE cn nq (fun (j : Nat) => tq (j + aq)) rp fl != (0 : Int))
 then (some (.inr (false, S.cyE cn nq (fun (j : Nat) => tq (j + aq)) rp fl)))
 else (bif (decide (aq + nq ≤ mq ∧ nq ≤ 20 ∧ (0 : Int) ≤ rp ∧ rp ≤ (9 : Int)))
 then (bif (decide
 (ar + nr ≤ mr ∧
 nr ≤ 1000000 ∧
 ao + no ≤ mo ∧
 no ≤ 1000000 ∧
 0 + List.length (S.stpL nq (fun (j : Nat) => tq (j + aq)) rp fl) ≤
 List.length (S.stpL nq (fun (j : Nat) => tq (j + aq)) rp fl) ∧
 List.length (S.stpL nq (fun (j : Nat) => tq (j + aq)) rp fl) ≤ 1000000))
 then (bif (Prod.fst
 (S.erS nr (fun (j : Nat) => tr (j + ar)) (fun (j : Nat) => vr (j + ar)) (fun (j : Nat) => gr (j + ar)) no
 (List.length (S.stpL nq (fun (j : Nat) => tq (j + aq)) rp fl)) fun (j : Nat) =>
 S.at' (S.stpL nq (fun (j : Nat) => tq (j + aq)) rp fl) j))
 then (some (.inr (true, Prod.snd
 (S.erS nr (fun (j : Nat) => tr (j + ar)) (fun (j : Nat) => vr (j + ar)) (fun (j : Nat) => gr (j + ar)) no
 (List.length (S.stpL nq (fun (j : Nat) => tq (j + aq)) rp fl)) fun (j : Nat) =>
 S.at' (S.stpL nq (fun (j : Nat) => tq (j + aq)) rp fl) j))))
 else (some (.inr (false, Prod.snd
 (S.erS nr (fun (j : Nat) => tr (j + ar)) (fun (j : Nat) => vr (j + ar)) (fun (j : Nat) => gr (j + ar)) no
 (List.length (S.stpL nq (fun (j : Nat) => tq (j + aq)) rp fl)) fun (j : Nat) =>
 S.at' (S.stpL nq (fun (j : Nat) => tq (j + aq)) rp fl) j)))))
 else (none))
 else (none)))
 else (none)))
 else (none) : Option (St121 ⊕ Rt121)) = some x) : Te121 cond Kst Kret ar nr mr tr vr gr ao no mo to cn aq nq mq tq rp fl := by
  unfold Te121
  exact bif_split h
   (fun c0 h => bif_split h
   (fun c1 h => cond_yes c1 (ret_at hR _ h (fun n => n) rfl rfl rfl (rn_tup ⟨(rn_bool_tf rfl), (rn_int rfl), trivial⟩) rfl (entl_bor (use_lo rfl) rfl rfl (entl_bor (use_lo rfl) rfl rfl (entl_bor (use_lo rfl) rfl rfl entl_nil)))))
   (fun c1 h => bif_split h
   (fun c2 h => bif_split h
   (fun c3 h => ret_at hR _ h (fun n => n) rfl rfl rfl (rn_tup ⟨(rn_bool_tf rfl), (rn_int rfl), trivial⟩) rfl (entl_bor (use_lo rfl) rfl rfl (entl_bor (use_lo rfl) rfl rfl (entl_bor (use_lo rfl) rfl rfl entl_nil))))
   (fun c3 h => bif_split h
   (fun c4 h => bif_split h
   (fun c5 h => bif_split h
   (fun c6 h => ret_at hR _ h (fun n => n) rfl rfl rfl (rn_tup ⟨(rn_bool_tf rfl), (rn_int rfl), trivial⟩) rfl (entl_bor (use_lo rfl) rfl rfl (entl_bor (use_lo rfl) rfl rfl (entl_bor (use_lo rfl) rfl rfl entl_nil))))
   (fun c6 h => ret_at hR _ h (fun n => n) rfl rfl rfl (rn_tup ⟨(rn_bool_tf rfl), (rn_int rfl), trivial⟩) rfl (entl_bor (use_lo rfl) rfl rfl (entl_bor (use_lo rfl) rfl rfl (entl_bor (use_lo rfl) rfl rfl entl_nil)))))
   (fun c5 h => no_some h))
   (fun c4 h => no_some h)))
   (fun c2 h => no_some h)))
   (fun c0 h => no_some h)
theorem a121 (ar nr mr : Nat) (tr : Nat → Int) (vr : Nat → Int) (gr : Nat → Int) (ao no mo : Nat) (to : Nat → Bool) (cn : ByteArray) (aq nq mq : Nat) (tq : Nat → Int) (rp : Int) (fl : Int) {r : Rt121} (h : Goes ((q121 ar nr mr tr vr gr ao no mo to cn aq nq mq tq rp fl)) ((p121 ar nr mr tr vr gr ao no mo to cn aq nq mq tq rp fl)) r) : CallR Try.prog 21 [.agg [.loose ⟨0, 3, ar, 0⟩ nr, .loose ⟨1, 1, ao, 0⟩ no], .agg [.str cn, .loose ⟨2, 1, aq, 0⟩ nq, .int .i64 rp, .int .i64 fl]] [[(0, (false, .cols mr [.int .i64 tr, .int .i64 vr, .int .i64 gr])), (1, (false, .cols mo [.bool to])), (2, (false, .cols mq [.int .i64 tq]))]] 3 ((V121 ar nr mr tr vr gr ao no mo to cn aq nq mq tq rp fl) r) ((fun r => [newL (3 + 1) ((N121 ar nr mr tr vr gr ao no mo to cn aq nq mq tq rp fl) r) ++ [(0, (false, .cols mr [.int .i64 tr, .int .i64 vr, .int .i64 gr])), (1, (false, .cols mo [.bool to])), (2, (false, .cols mq [.int .i64 tq]))]]) r) 400 ∧ ∃ F, Try.prog.funcs[21]? = some F ∧ F.body.isSome = true ∧ (F.name == "runtime.NumGoroutine") = false := by
  refine dec_calls (f := 21) (lo := 3) (hi := 400) (H := [[(0, (false, .cols mr [.int .i64 tr, .int .i64 vr, .int .i64 gr])), (1, (false, .cols mo [.bool to])), (2, (false, .cols mq [.int .i64 tq]))]]) (args := [.agg [.loose ⟨0, 3, ar, 0⟩ nr, .loose ⟨1, 1, ao, 0⟩ no], .agg [.str cn, .loose ⟨2, 1, aq, 0⟩ nq, .int .i64 rp, .int .i64 fl]]) Try.envOk Try.mixed xT2_ok ((I121 ar nr mr tr vr gr ao no mo to cn aq nq mq tq rp fl)) ((V121 ar nr mr tr vr gr ao no mo to cn aq nq mq tq rp fl)) (fun r => [newL (3 + 1) ((N121 ar nr mr tr vr gr ao no mo to cn aq nq mq tq rp fl) r) ++ [(0, (false, .cols mr [.int .i64 tr, .int .i64 vr, .int .i64 gr])), (1, (false, .cols mo [.bool to])), (2, (false, .cols mq [.int .i64 tq]))]]) (fn := mkFn Try.f21) (ts := []) (n := 400) rfl (by decide) (by simp) (names_of rfl) ?_ ?_ ?_ h
  · intro s; exact s.elim
  · intro Kst Kret x hS hR h
    exact Holds.eq (te121 cond Kst Kret ar nr mr tr vr gr ao no mo to cn aq nq mq tq rp fl) (be121 ar nr mr tr vr gr ao no mo to cn aq nq mq tq rp fl Kst Kret x hS hR h)
  · intro Kst Kret x hS hR s h; exact s.elim
noncomputable def k121 : Con := ⟨21, [.agg [.list [.int .i64, .int .i64, .int .i64], .list [.bool]], .agg [.plain (.str), .list [.int .i64], .plain (.int .i64), .plain (.int .i64)]], fun (x : ((Nat × Nat × Nat × (Nat → Int) × (Nat → Int) × (Nat → Int) × Unit) × (Nat × Nat × Nat × (Nat → Bool) × Unit) × Unit) × (ByteArray × (Nat × Nat × Nat × (Nat → Int) × Unit) × Int × Int × Unit) × Unit) => (fun (ar nr mr : Nat) (tr : Nat → Int) (vr : Nat → Int) (gr : Nat → Int) (ao no mo : Nat) (to : Nat → Bool) (cn : ByteArray) (aq nq mq : Nat) (tq : Nat → Int) (rp : Int) (fl : Int) => decide ((ar + nr ≤ mr ∧ nr ≤ 1000000) ∧ (ao + no ≤ mo ∧ no ≤ 1000000) ∧ (aq + nq ≤ mq ∧ nq ≤ 1000000))) x.1.1.1 x.1.1.2.1 x.1.1.2.2.1 x.1.1.2.2.2.1 x.1.1.2.2.2.2.1 x.1.1.2.2.2.2.2.1 x.1.2.1.1 x.1.2.1.2.1 x.1.2.1.2.2.1 x.1.2.1.2.2.2.1 x.2.1.1 x.2.1.2.1.1 x.2.1.2.1.2.1 x.2.1.2.1.2.2.1 x.2.1.2.1.2.2.2.1 x.2.1.2.2.1 x.2.1.2.2.2.1, fun (x : ((Nat × Nat × Nat × (Nat → Int) × (Nat → Int) × (Nat → Int) × Unit) × (Nat × Nat × Nat × (Nat → Bool) × Unit) × Unit) × (ByteArray × (Nat × Nat × Nat × (Nat → Int) × Unit) × Int × Int × Unit) × Unit) => (fun (ar nr mr : Nat) (tr : Nat → Int) (vr : Nat → Int) (gr : Nat → Int) (ao no mo : Nat) (to : Nat → Bool) (cn : ByteArray) (aq nq mq : Nat) (tq : Nat → Int) (rp : Int) (fl : Int) => (V121 ar nr mr tr vr gr ao no mo to cn aq nq mq tq rp fl) (S.suiS (S.botE (S.magE nr (fun j => tr (j + ar)) (fun j => vr (j + ar)) (fun j => gr (j + ar)) no) (S.cyE cn nq (fun j => tq (j + aq)) rp fl)) (S.erB (fun j => tr (j + ar)) (fun j => vr (j + ar)) (S.stpL nq (fun j => tq (j + aq)) rp fl).length (fun j => S.at' (S.stpL nq (fun j => tq (j + aq)) rp fl) j) 0 nr))) x.1.1.1 x.1.1.2.1 x.1.1.2.2.1 x.1.1.2.2.2.1 x.1.1.2.2.2.2.1 x.1.1.2.2.2.2.2.1 x.1.2.1.1 x.1.2.1.2.1 x.1.2.1.2.2.1 x.1.2.1.2.2.2.1 x.2.1.1 x.2.1.2.1.1 x.2.1.2.1.2.1 x.2.1.2.1.2.2.1 x.2.1.2.1.2.2.2.1 x.2.1.2.2.1 x.2.1.2.2.2.1, fun (x : ((Nat × Nat × Nat × (Nat → Int) × (Nat → Int) × (Nat → Int) × Unit) × (Nat × Nat × Nat × (Nat → Bool) × Unit) × Unit) × (ByteArray × (Nat × Nat × Nat × (Nat → Int) × Unit) × Int × Int × Unit) × Unit) => (fun (ar nr mr : Nat) (tr : Nat → Int) (vr : Nat → Int) (gr : Nat → Int) (ao no mo : Nat) (to : Nat → Bool) (cn : ByteArray) (aq nq mq : Nat) (tq : Nat → Int) (rp : Int) (fl : Int) => (N121 ar nr mr tr vr gr ao no mo to cn aq nq mq tq rp fl) (S.suiS (S.botE (S.magE nr (fun j => tr (j + ar)) (fun j => vr (j + ar)) (fun j => gr (j + ar)) no) (S.cyE cn nq (fun j => tq (j + aq)) rp fl)) (S.erB (fun j => tr (j + ar)) (fun j => vr (j + ar)) (S.stpL nq (fun j => tq (j + aq)) rp fl).length (fun j => S.at' (S.stpL nq (fun j => tq (j + aq)) rp fl) j) 0 nr))) x.1.1.1 x.1.1.2.1 x.1.1.2.2.1 x.1.1.2.2.2.1 x.1.1.2.2.2.2.1 x.1.1.2.2.2.2.2.1 x.1.2.1.1 x.1.2.1.2.1 x.1.2.1.2.2.1 x.1.2.1.2.2.2.1 x.2.1.1 x.2.1.2.1.1 x.2.1.2.1.2.1 x.2.1.2.1.2.2.1 x.2.1.2.1.2.2.2.1 x.2.1.2.2.1 x.2.1.2.2.2.1, fun _ _ => .dead⟩
theorem s121 (ar nr mr : Nat) (tr : Nat → Int) (vr : Nat → Int) (gr : Nat → Int) (ao no mo : Nat) (to : Nat → Bool) (cn : ByteArray) (aq nq mq : Nat) (tq : Nat → Int) (rp : Int) (fl : Int) (hp : (ar + nr ≤ mr ∧ nr ≤ 1000000) ∧ (ao + no ≤ mo ∧ no ≤ 1000000) ∧ (aq + nq ≤ mq ∧ nq ≤ 1000000)) : Goes ((q121 ar nr mr tr vr gr ao no mo to cn aq nq mq tq rp fl)) ((p121 ar nr mr tr vr gr ao no mo to cn aq nq mq tq rp fl)) (S.suiS (S.botE (S.magE nr (fun j => tr (j + ar)) (fun j => vr (j + ar)) (fun j => gr (j + ar)) no) (S.cyE cn nq (fun j => tq (j + aq)) rp fl)) (S.erB (fun j => tr (j + ar)) (fun j => vr (j + ar)) (S.stpL nq (fun j => tq (j + aq)) rp fl).length (fun j => S.at' (S.stpL nq (fun j => tq (j + aq)) rp fl) j) 0 nr)) := by
  obtain ⟨⟨hp1, hp2⟩, ⟨hp5, hp6⟩, hp3, hp4⟩ := hp
  have hc : (S.cyE cn nq (fun j => tq (j + aq)) rp fl) = 0 → (nq ≤ 20 ∧ 0 ≤ rp ∧ rp ≤ 9) ∧ (S.stpL nq (fun j => tq (j + aq)) rp fl).length ≤ 181 := fun h => by have := cy_ok h; have := stp_in h; omega
  unfold S.suiS S.botE
  by_cases hm : (S.magE nr (fun j => tr (j + ar)) (fun j => vr (j + ar)) (fun j => gr (j + ar)) no) = 0
  · by_cases hy : (S.cyE cn nq (fun j => tq (j + aq)) rp fl) = 0
    · have hst := stp_in hy
      have he : S.erS nr (fun j => tr (j + ar)) (fun j => vr (j + ar)) (fun j => gr (j + ar)) no (S.stpL nq (fun j => tq (j + aq)) rp fl).length (fun j => S.at' (S.stpL nq (fun j => tq (j + aq)) rp fl) j) = (S.erB (fun j => tr (j + ar)) (fun j => vr (j + ar)) (S.stpL nq (fun j => tq (j + aq)) rp fl).length (fun j => S.at' (S.stpL nq (fun j => tq (j + aq)) rp fl) j) 0 nr, 0) := er_in hm (by omega) hst.2.2
      have hc := hc hy
      rw [if_pos hm, if_pos hy]
      unfold p121
      simp only [hm, hy, he]
      clear he
      generalize S.erB (fun j => tr (j + ar)) (fun j => vr (j + ar)) (S.stpL nq (fun j => tq (j + aq)) rp fl).length (fun j => S.at' (S.stpL nq (fun j => tq (j + aq)) rp fl) j) 0 nr = A at *
      generalize (S.stpL nq (fun j => tq (j + aq)) rp fl) = L at *
      cases A
      all_goals
       show Goes _ _ _
       repeat' first
        | with_reducible refine goes_if (fun h => ?_) (fun h => ?_) <;> (try simp only [lim64, imp_false, decide_eq_true_eq, decide_eq_false_iff_not, Int.toNat_natCast, toNat_pred, toNat_succ, Option.getD_some, Option.getD_none, Bool.not_eq_true', Bool.not_eq_false', Bool.and_eq_true, Bool.or_eq_true, Bool.and_eq_false_iff, Bool.or_eq_false_iff, bne_iff_ne, beq_iff_eq, bne_eq_false_iff_eq, beq_eq_false_iff_ne, ne_eq, not_and, Int.not_le, Int.not_lt, ge_iff_le, gt_iff_lt, Nat.not_lt, Nat.not_le, Bool.not_eq_true, Bool.not_eq_false, Bool.true_eq_false, Bool.false_eq_true, not_false_eq_true, not_true_eq_false] at h)
        | exact goes_none.mpr (by omega)
       all_goals first | (exfalso; omega) | exact goes_inr.mpr rfl | (exfalso; simp_all; done)
    · rw [if_pos hm, if_neg hy]
      unfold p121
      simp only [hm]
      generalize (S.cyE cn nq (fun j => tq (j + aq)) rp fl) = e at *
      show Goes _ _ _
      repeat' first
        | with_reducible refine goes_if (fun h => ?_) (fun h => ?_) <;> (try simp only [lim64, imp_false, decide_eq_true_eq, decide_eq_false_iff_not, Int.toNat_natCast, toNat_pred, toNat_succ, Option.getD_some, Option.getD_none, Bool.not_eq_true', Bool.not_eq_false', Bool.and_eq_true, Bool.or_eq_true, Bool.and_eq_false_iff, Bool.or_eq_false_iff, bne_iff_ne, beq_iff_eq, bne_eq_false_iff_eq, beq_eq_false_iff_ne, ne_eq, not_and, Int.not_le, Int.not_lt, ge_iff_le, gt_iff_lt, Nat.not_lt, Nat.not_le, Bool.not_eq_true, Bool.not_eq_false, Bool.true_eq_false, Bool.false_eq_true, not_false_eq_true, not_true_eq_false] at h)
        | exact goes_none.mpr (by omega)
      all_goals first | (exfalso; omega) | exact goes_inr.mpr rfl | (exfalso; simp_all; done)
  · rw [if_neg hm, if_neg hm]
    unfold p121
    generalize (S.magE nr (fun j => tr (j + ar)) (fun j => vr (j + ar)) (fun j => gr (j + ar)) no) = e at *
    show Goes _ _ _
    repeat' first
      | with_reducible refine goes_if (fun h => ?_) (fun h => ?_) <;> (try simp only [lim64, imp_false, decide_eq_true_eq, decide_eq_false_iff_not, Int.toNat_natCast, toNat_pred, toNat_succ, Option.getD_some, Option.getD_none, Bool.not_eq_true', Bool.not_eq_false', Bool.and_eq_true, Bool.or_eq_true, Bool.and_eq_false_iff, Bool.or_eq_false_iff, bne_iff_ne, beq_iff_eq, bne_eq_false_iff_eq, beq_eq_false_iff_ne, ne_eq, not_and, Int.not_le, Int.not_lt, ge_iff_le, gt_iff_lt, Nat.not_lt, Nat.not_le, Bool.not_eq_true, Bool.not_eq_false, Bool.true_eq_false, Bool.false_eq_true, not_false_eq_true, not_true_eq_false] at h)
      | exact goes_none.mpr (by omega)
    all_goals first | (exfalso; omega) | exact goes_inr.mpr rfl | (exfalso; simp_all; done)
theorem k121_ok : k121.ok Try.prog := by
  intro x hx
  obtain ⟨⟨⟨ar, nr, mr, tr, vr, gr, _⟩, ⟨ao, no, mo, to, _⟩, _⟩, ⟨cn, ⟨aq, nq, mq, tq, _⟩, rp, fl, _⟩, _⟩ := x
  obtain ⟨h1, h2⟩ := a121 ar nr mr tr vr gr ao no mo to cn aq nq mq tq rp fl (s121 ar nr mr tr vr gr ao no mo to cn aq nq mq tq rp fl (of_dec hx rfl))
  exact ⟨⟨400, (by decide : 3 + 1 + 0 ≤ 400), h1⟩, h2⟩
inductive St122 where
  | h0 (x0 : Int) (x1 : List Int)
abbrev Rt122 := Int × Int
noncomputable def V122 (ar nr mr : Nat) (tr : Nat → Int) (vr : Nat → Int) (gr : Nat → Int) (ao no mo : Nat) (to : Nat → Bool) (cn : ByteArray) (aq nq mq : Nat) (tq : Nat → Int) (rp : Int) (fl : Int) (r : Rt122) : PV := PV.tup [PV.int IntKind.i64 r.1, PV.int IntKind.i64 r.2]
noncomputable def N122 (ar nr mr : Nat) (tr : Nat → Int) (vr : Nat → Int) (gr : Nat → Int) (ao no mo : Nat) (to : Nat → Bool) (cn : ByteArray) (aq nq mq : Nat) (tq : Nat → Int) (rp : Int) (fl : Int) (r : Rt122) : List Blk := []
noncomputable def I122 (ar nr mr : Nat) (tr : Nat → Int) (vr : Nat → Int) (gr : Nat → Int) (ao no mo : Nat) (to : Nat → Bool) (cn : ByteArray) (aq nq mq : Nat) (tq : Nat → Int) (rp : Int) (fl : Int) : St122 → Hd
  | .h0 x0 x1 => ⟨hd Try.f22 0, [PV.ptr (PA.mk (3) (0) (0) (0)),
 PV.own (4) (1) (List.length x1), PV.int IntKind.i64 x0], [[(3, (true, Blk.cells
 [PV.loose (PA.mk (0) (3) ar (0)) nr,
 PV.loose (PA.mk (1) (1) ao (0)) no])), (4, (true, Blk.cols (List.length x1) [Col.int IntKind.i64 fun (j : Nat) => S.at' x1 j]))], [(0, (false, .cols mr [.int .i64 tr, .int .i64 vr, .int .i64 gr])), (1, (false, .cols mo [.bool to])), (2, (false, .cols mq [.int .i64 tq]))]], 5⟩
noncomputable def q122 (ar nr mr : Nat) (tr : Nat → Int) (vr : Nat → Int) (gr : Nat → Int) (ao no mo : Nat) (to : Nat → Bool) (cn : ByteArray) (aq nq mq : Nat) (tq : Nat → Int) (rp : Int) (fl : Int) : St122 → Option (St122 ⊕ Rt122)
  | .h0 x0 x1 => bif (decide (x0 ≤ (↑(List.length x1) : Int)))
 then (bif (decide ((0 : Int) ≤ x0 ∧ x0 ≤ (↑(List.length x1) : Int)))
 then (bif (decide
 (ar + nr ≤ mr ∧
 nr ≤ 1000000 ∧
 ao + no ≤ mo ∧ no ≤ 1000000 ∧ 0 + Int.toNat x0 ≤ List.length x1 ∧ Int.toNat x0 ≤ 1000000))
 then (bif (Prod.fst
 (S.erS nr (fun (j : Nat) => tr (j + ar)) (fun (j : Nat) => vr (j + ar)) (fun (j : Nat) => gr (j + ar)) no
 (Int.toNat x0) fun (j : Nat) => S.at' x1 j))
 then (bif (Prod.snd
 (S.erS nr (fun (j : Nat) => tr (j + ar)) (fun (j : Nat) => vr (j + ar)) (fun (j : Nat) => gr (j + ar)) no
 (Int.toNat x0) fun (j : Nat) => S.at' x1 j) !=
 (0 : Int))
 then (some (.inr ((0 : Int), Prod.snd
 (S.erS nr (fun (j : Nat) => tr (j + ar)) (fun (j : Nat) => vr (j + ar)) (fun (j : Nat) => gr (j + ar)) no
 (Int.toNat x0) fun (j : Nat) => S.at' x1 j))))
 else (some (.inr (x0, (0 : Int)))))
 else (bif (Prod.snd
 (S.erS nr (fun (j : Nat) => tr (j + ar)) (fun (j : Nat) => vr (j + ar)) (fun (j : Nat) => gr (j + ar)) no
 (Int.toNat x0) fun (j : Nat) => S.at' x1 j) !=
 (0 : Int))
 then (some (.inr ((0 : Int), Prod.snd
 (S.erS nr (fun (j : Nat) => tr (j + ar)) (fun (j : Nat) => vr (j + ar)) (fun (j : Nat) => gr (j + ar)) no
 (Int.toNat x0) fun (j : Nat) => S.at' x1 j))))
 else (bif (lim IntKind.i64 (x0 + (1 : Int)))
 then (some (.inl (.h0 (x0 + (1 : Int)) (x1))))
 else (none))))
 else (none))
 else (none))
 else (some (.inr ((0 : Int), (10 : Int))))
noncomputable def p122 (ar nr mr : Nat) (tr : Nat → Int) (vr : Nat → Int) (gr : Nat → Int) (ao no mo : Nat) (to : Nat → Bool) (cn : ByteArray) (aq nq mq : Nat) (tq : Nat → Int) (rp : Int) (fl : Int) : Option (St122 ⊕ Rt122) := bif (decide (ar + nr ≤ mr ∧ nr ≤ 1000000))
 then (bif (S.magE nr (fun (j : Nat) => tr (j + ar)) (fun (j : Nat) => vr (j + ar)) (fun (j : Nat) => gr (j + ar)) no !=
 (0 : Int))
 then (some (.inr ((0 : Int), S.magE nr (fun (j : Nat) => tr (j + ar)) (fun (j : Nat) => vr (j + ar)) (fun (j : Nat) => gr (j + ar)) no)))
 else (bif (decide (aq + nq ≤ mq ∧ nq ≤ 1000000))
 then (bif (S.cyE cn nq (fun (j : Nat) => tq (j + aq)) rp fl != (0 : Int))
 then (some (.inr ((0 : Int), S.cyE cn nq (fun (j : Nat) => tq (j + aq)) rp fl)))
 else (bif (decide (aq + nq ≤ mq ∧ nq ≤ 20 ∧ (0 : Int) ≤ rp ∧ rp ≤ (9 : Int)))
 then (some (.inl (.h0 ((1 : Int)) (S.stpL nq (fun (j : Nat) => tq (j + aq)) rp fl))))
 else (none)))
 else (none)))
 else (none)
noncomputable def Te122 (test : Bool → Prop → Prop → Prop) (Kst : KS) (Kret : KR) (ar nr mr : Nat) (tr : Nat → Int) (vr : Nat → Int) (gr : Nat → Int) (ao no mo : Nat) (to : Nat → Bool) (cn : ByteArray) (aq nq mq : Nat) (tq : Nat → Int) (rp : Int) (fl : Int) : Prop :=
  test (decide (ar + nr ≤ mr ∧ nr ≤ 1000000))
 (test (S.magE nr (fun (j : Nat) => tr (j + ar)) (fun (j : Nat) => vr (j + ar)) (fun (j : Nat) => gr (j + ar)) no !=
 (0 : Int))
 (test (S.magE nr (fun (j : Nat) => tr (j + ar)) (fun (j : Nat) => vr (j + ar)) (fun (j : Nat) => gr (j + ar)) no !=
 (0 : Int))
 (Kret (PV.tup
 [PV.int IntKind.i64 (0 : Int),
 PV.int IntKind.i64
 (S.magE nr (fun (j : Nat) => tr (j + ar)) (fun (j : Nat) => vr (j + ar)) (fun (j : Nat) => gr (j + ar)) no)]) ([[(2, false, Blk.cols mq [Col.int IntKind.i64 tq]),
 (1, false, Blk.cols mo [Col.bool to]),
 (0, false,
 Blk.cols mr
 [Col.int IntKind.i64 tr, Col.int IntKind.i64 vr, Col.int IntKind.i64 gr])]]) (8))
 (test (decide (aq + nq ≤ mq ∧ nq ≤ 20 ∧ (0 : Int) ≤ rp ∧ rp ≤ (9 : Int)))
 (Kst (hd Try.f22 0) ([PV.ptr (PA.mk (3) (0) (0) (0)),
 PV.own (9) (1) (List.length (S.stpL nq (fun (j : Nat) => tq (j + aq)) rp fl)),
 PV.int IntKind.i64 (1 : Int)]) ([[(2, false, Blk.cols mq [Col.int IntKind.i64 tq]),
 (1, false, Blk.cols mo [Col.bool to]),
 (0, false,
 Blk.cols mr
 [Col.int IntKind.i64 tr, Col.int IntKind.i64 vr, Col.int IntKind.i64 gr]),
 (9, true,
 Blk.cols (List.length (S.stpL nq (fun (j : Nat) => tq (j + aq)) rp fl))
 [Col.int IntKind.i64 fun (j : Nat) =>
 S.at' (S.stpL nq (fun (j : Nat) => tq (j + aq)) rp fl) j]),
 (3, true,
 Blk.cells
 [PV.loose (PA.mk (0) (3) ar (0)) nr,
 PV.loose (PA.mk (1) (1) ao (0)) no])]]) (10))
 (False)))
 (test (decide (aq + nq ≤ mq ∧ nq ≤ 1000000))
 (test (S.cyE cn nq (fun (j : Nat) => tq (j + aq)) rp fl != (0 : Int))
 (Kret (PV.tup
 [PV.int IntKind.i64 (0 : Int),
 PV.int IntKind.i64 (S.cyE cn nq (fun (j : Nat) => tq (j + aq)) rp fl)]) ([[(2, false, Blk.cols mq [Col.int IntKind.i64 tq]),
 (1, false, Blk.cols mo [Col.bool to]),
 (0, false,
 Blk.cols mr
 [Col.int IntKind.i64 tr, Col.int IntKind.i64 vr, Col.int IntKind.i64 gr])]]) (9))
 (test (decide (aq + nq ≤ mq ∧ nq ≤ 20 ∧ (0 : Int) ≤ rp ∧ rp ≤ (9 : Int)))
 (Kst (hd Try.f22 0) ([PV.ptr (PA.mk (3) (0) (0) (0)),
 PV.own (10) (1) (List.length (S.stpL nq (fun (j : Nat) => tq (j + aq)) rp fl)),
 PV.int IntKind.i64 (1 : Int)]) ([[(2, false, Blk.cols mq [Col.int IntKind.i64 tq]),
 (1, false, Blk.cols mo [Col.bool to]),
 (0, false,
 Blk.cols mr
 [Col.int IntKind.i64 tr, Col.int IntKind.i64 vr, Col.int IntKind.i64 gr]),
 (10, true,
 Blk.cols (List.length (S.stpL nq (fun (j : Nat) => tq (j + aq)) rp fl))
 [Col.int IntKind.i64 fun (j : Nat) =>
 S.at' (S.stpL nq (fun (j : Nat) => tq (j + aq)) rp fl) j]),
 (3, true,
 Blk.cells
 [PV.loose (PA.mk (0) (3) ar (0)) nr,
 PV.loose (PA.mk (1) (1) ao (0)) no])]]) (11))
 (False)))
 (False)))
 (False)
set_option maxRecDepth 100000 in
theorem te122 (test : Bool → Prop → Prop → Prop) (Kst : KS) (Kret : KR) (ar nr mr : Nat) (tr : Nat → Int) (vr : Nat → Int) (gr : Nat → Int) (ao no mo : Nat) (to : Nat → Bool) (cn : ByteArray) (aq nq mq : Nat) (tq : Nat → Int) (rp : Int) (fl : Int) : run test Try.env true (xT2 test) true 400 ⟨22, [.cd (mkFn Try.f22).body], argT 0 [.agg [.loose ⟨0, 3, ar, 0⟩ nr, .loose ⟨1, 1, ao, 0⟩ no], .agg [.str cn, .loose ⟨2, 1, aq, 0⟩ nq, .int .i64 rp, .int .i64 fl]], [[], [(0, (false, .cols mr [.int .i64 tr, .int .i64 vr, .int .i64 gr])), (1, (false, .cols mo [.bool to])), (2, (false, .cols mq [.int .i64 tq]))]], 3⟩ (proj 3 [2, 7, 8] Kst Kret) =
  Te122 test Kst Kret ar nr mr tr vr gr ao no mo to cn aq nq mq tq rp fl := by kernel_rfl
noncomputable def T122_0 (test : Bool → Prop → Prop → Prop) (Kst : KS) (Kret : KR) (ar nr mr : Nat) (tr : Nat → Int) (vr : Nat → Int) (gr : Nat → Int) (ao no mo : Nat) (to : Nat → Bool) (cn : ByteArray) (aq nq mq : Nat) (tq : Nat → Int) (rp : Int) (fl : Int) (x0 : Int) (x1 : List Int) : Prop :=
  test (decide (x0 ≤ (↑(List.length x1) : Int)))
 (test (decide ((0 : Int) ≤ x0 ∧ x0 ≤ (↑(List.length x1) : Int)))
 (test (decide
 (ar + nr ≤ mr ∧
 nr ≤ 1000000 ∧
 ao + no ≤ mo ∧ no ≤ 1000000 ∧ 0 + Int.toNat x0 ≤ List.length x1 ∧ Int.toNat x0 ≤ 1000000))
 (test (Prod.fst
 (S.erS nr (fun (j : Nat) => tr (j + ar)) (fun (j : Nat) => vr (j + ar)) (fun (j : Nat) => gr (j + ar)) no
 (Int.toNat x0) fun (j : Nat) => S.at' x1 j))
 (test (Prod.snd
 (S.erS nr (fun (j : Nat) => tr (j + ar)) (fun (j : Nat) => vr (j + ar)) (fun (j : Nat) => gr (j + ar)) no
 (Int.toNat x0) fun (j : Nat) => S.at' x1 j) !=
 (0 : Int))
 (Kret (PV.tup
 [PV.int IntKind.i64 (0 : Int),
 PV.int IntKind.i64
 (Prod.snd
 (S.erS nr (fun (j : Nat) => tr (j + ar)) (fun (j : Nat) => vr (j + ar)) (fun (j : Nat) => gr (j + ar)) no
 (Int.toNat x0) fun (j : Nat) => S.at' x1 j))]) ([[(2, false, Blk.cols mq [Col.int IntKind.i64 tq]),
 (1, false, Blk.cols mo [Col.bool to]),
 (0, false,
 Blk.cols mr
 [Col.int IntKind.i64 tr, Col.int IntKind.i64 vr, Col.int IntKind.i64 gr])]]) (6))
 (Kret (PV.tup [PV.int IntKind.i64 x0, PV.int IntKind.i64 (0 : Int)]) ([[(2, false, Blk.cols mq [Col.int IntKind.i64 tq]),
 (1, false, Blk.cols mo [Col.bool to]),
 (0, false,
 Blk.cols mr
 [Col.int IntKind.i64 tr, Col.int IntKind.i64 vr, Col.int IntKind.i64 gr])]]) (6)))
 (test (Prod.snd
 (S.erS nr (fun (j : Nat) => tr (j + ar)) (fun (j : Nat) => vr (j + ar)) (fun (j : Nat) => gr (j + ar)) no
 (Int.toNat x0) fun (j : Nat) => S.at' x1 j) !=
 (0 : Int))
 (Kret (PV.tup
 [PV.int IntKind.i64 (0 : Int),
 PV.int IntKind.i64
 (Prod.snd
 (S.erS nr (fun (j : Nat) => tr (j + ar)) (fun (j : Nat) => vr (j + ar)) (fun (j : Nat) => gr (j + ar)) no
 (Int.toNat x0) fun (j : Nat) => S.at' x1 j))]) ([[(2, false, Blk.cols mq [Col.int IntKind.i64 tq]),
 (1, false, Blk.cols mo [Col.bool to]),
 (0, false,
 Blk.cols mr
 [Col.int IntKind.i64 tr, Col.int IntKind.i64 vr, Col.int IntKind.i64 gr])]]) (6))
 (test (lim IntKind.i64 (x0 + (1 : Int)))
 (Kst (hd Try.f22 0) ([PV.ptr (PA.mk (3) (0) (0) (0)),
 PV.own (4) (1) (List.length x1), PV.int IntKind.i64 (x0 + (1 : Int))]) ([[(2, false, Blk.cols mq [Col.int IntKind.i64 tq]),
 (1, false, Blk.cols mo [Col.bool to]),
 (0, false,
 Blk.cols mr
 [Col.int IntKind.i64 tr, Col.int IntKind.i64 vr, Col.int IntKind.i64 gr]),
 (4, true,
 Blk.cols (List.length x1) [Col.int IntKind.i64 fun (j : Nat) => S.at' x1 j]),
 (3, true,
 Blk.cells
 [PV.loose (PA.mk (0) (3) ar (0)) nr,
 PV.loose (PA.mk (1) (1) ao (0)) no])]]) (6))
 (False))))
 (False))
 (False))
 (Kret (PV.tup [PV.int IntKind.i64 (0 : Int), PV.int IntKind.i64 (10 : Int)]) ([[(2, false, Blk.cols mq [Col.int IntKind.i64 tq]),
 (1, false, Blk.cols mo [Col.bool to]),
 (0, false,
 Blk.cols mr
 [Col.int IntKind.i64 tr, Col.int IntKind.i64 vr, Col.int IntKind.i64 gr])]]) (5))
set_option maxRecDepth 100000 in
theorem t122_0 (test : Bool → Prop → Prop → Prop) (Kst : KS) (Kret : KR) (ar nr mr : Nat) (tr : Nat → Int) (vr : Nat → Int) (gr : Nat → Int) (ao no mo : Nat) (to : Nat → Bool) (cn : ByteArray) (aq nq mq : Nat) (tq : Nat → Int) (rp : Int) (fl : Int) (x0 : Int) (x1 : List Int) : run test Try.env true (xT2 test) true 400 ⟨22, hd Try.f22 0, zipT [2, 7, 8] [PV.ptr (PA.mk (3) (0) (0) (0)),
 PV.own (4) (1) (List.length x1), PV.int IntKind.i64 x0], [[(3, (true, Blk.cells
 [PV.loose (PA.mk (0) (3) ar (0)) nr,
 PV.loose (PA.mk (1) (1) ao (0)) no])), (4, (true, Blk.cols (List.length x1) [Col.int IntKind.i64 fun (j : Nat) => S.at' x1 j]))], [(0, (false, .cols mr [.int .i64 tr, .int .i64 vr, .int .i64 gr])), (1, (false, .cols mo [.bool to])), (2, (false, .cols mq [.int .i64 tq]))]], 5⟩ (proj 3 [2, 7, 8] Kst Kret) =
  T122_0 test Kst Kret ar nr mr tr vr gr ao no mo to cn aq nq mq tq rp fl x0 x1 := by kernel_rfl
set_option maxRecDepth 100000 in
theorem be122 (ar nr mr : Nat) (tr : Nat → Int) (vr : Nat → Int) (gr : Nat → Int) (ao no mo : Nat) (to : Nat → Bool) (cn : ByteArray) (aq nq mq : Nat) (tq : Nat → Int) (rp : Int) (fl : Int) (Kst : KS) (Kret : KR) (x : St122 ⊕ Rt122) (hS : HS 3 400 ((I122 ar nr mr tr vr gr ao no mo to cn aq nq mq tq rp fl)) Kst x) (hR : HR 3 400 ((V122 ar nr mr tr vr gr ao no mo to cn aq nq mq tq rp fl)) (fun r => [newL (3 + 1) ((N122 ar nr mr tr vr gr ao no mo to cn aq nq mq tq rp fl) r) ++ [(0, (false, .cols mr [.int .i64 tr, .int .i64 vr, .int .i64 gr])), (1, (false, .cols mo [.bool to])), (2, (false, .cols mq [.int .i64 tq]))]]) Kret x) (h : (bif (decide (ar + nr ≤ mr ∧ nr ≤ 1000000))
 then (bif (S.magE nr (fun (j : Nat) => tr (j + ar)) (fun (j : Nat) => vr (j + ar)) (fun (j : Nat) => gr (j + ar)) no !=
 (0 : Int))
 then (some (.inr ((0 : Int), S.magE nr (fun (j : Nat) => tr (j + ar)) (fun (j : Nat) => vr (j + ar)) (fun (j : Nat) => gr (j + ar)) no)))
 else (bif (decide (aq + nq ≤ mq ∧ nq ≤ 1000000))
 then (bif (S.cyE cn nq (fun (j : Nat) => tq (j + aq)) rp fl != (0 : Int))
 then (some (.inr ((0 : Int), S.cyE cn nq (fun (j : Nat) => tq (j + aq)) rp fl)))
 else (bif (decide (aq + nq ≤ mq ∧ nq ≤ 20 ∧ (0 : Int) ≤ rp ∧ rp ≤ (9 : Int)))
 then (some (.inl (.h0 ((1 : Int)) (S.stpL nq (fun (j : Nat) => tq (j + aq)) rp fl))))
 else (none)))
 else (none)))
 else (none) : Option (St122 ⊕ Rt122)) = some x) : Te122 cond Kst Kret ar nr mr tr vr gr ao no mo to cn aq nq mq tq rp fl := by
  unfold Te122
  exact bif_split h
   (fun c0 h => bif_split h
   (fun c1 h => cond_yes c1 (ret_at hR _ h (fun n => n) rfl rfl rfl (rn_tup ⟨(rn_int rfl), (rn_int rfl), trivial⟩) rfl (entl_bor (use_lo rfl) rfl rfl (entl_bor (use_lo rfl) rfl rfl (entl_bor (use_lo rfl) rfl rfl entl_nil)))))
   (fun c1 h => bif_split h
   (fun c2 h => bif_split h
   (fun c3 h => ret_at hR _ h (fun n => n) rfl rfl rfl (rn_tup ⟨(rn_int rfl), (rn_int rfl), trivial⟩) rfl (entl_bor (use_lo rfl) rfl rfl (entl_bor (use_lo rfl) rfl rfl (entl_bor (use_lo rfl) rfl rfl entl_nil))))
   (fun c3 h => bif_split h
   (fun c4 h => stop_at hS _ h (fun n => bif Nat.beq n 3 then 3 else bif Nat.beq n 4 then 10 else n) rfl rfl rfl ⟨(rn_ptr (use_own rfl) rfl rfl), ⟨(rn_own (use_own rfl) rfl rfl), ⟨(rn_int rfl), trivial⟩⟩⟩ rfl (entl_b (use_own rfl) rfl (by simp) (rb_cells ⟨(rn_loose (use_lo rfl) rfl rfl rfl), (rn_loose (use_lo rfl) rfl rfl rfl), trivial⟩) (entl_new (use_own rfl) rfl (Nat.le_of_eq rfl) (rcs_int (fun _ _ => rfl) rcs_nil) (entl_bor (use_lo rfl) rfl rfl (entl_bor (use_lo rfl) rfl rfl (entl_bor (use_lo rfl) rfl rfl entl_nil))))))
   (fun c4 h => no_some h)))
   (fun c2 h => no_some h)))
   (fun c0 h => no_some h)
set_option maxRecDepth 100000 in
theorem b122_0 (ar nr mr : Nat) (tr : Nat → Int) (vr : Nat → Int) (gr : Nat → Int) (ao no mo : Nat) (to : Nat → Bool) (cn : ByteArray) (aq nq mq : Nat) (tq : Nat → Int) (rp : Int) (fl : Int) (Kst : KS) (Kret : KR) (x : St122 ⊕ Rt122) (hS : HS 3 400 ((I122 ar nr mr tr vr gr ao no mo to cn aq nq mq tq rp fl)) Kst x) (hR : HR 3 400 ((V122 ar nr mr tr vr gr ao no mo to cn aq nq mq tq rp fl)) (fun r => [newL (3 + 1) ((N122 ar nr mr tr vr gr ao no mo to cn aq nq mq tq rp fl) r) ++ [(0, (false, .cols mr [.int .i64 tr, .int .i64 vr, .int .i64 gr])), (1, (false, .cols mo [.bool to])), (2, (false, .cols mq [.int .i64 tq]))]]) Kret x) (x0 : Int) (x1 : List Int) (h : (bif (decide (x0 ≤ (↑(List.length x1) : Int)))
 then (bif (decide ((0 : Int) ≤ x0 ∧ x0 ≤ (↑(List.length x1) : Int)))
 then (bif (decide
 (ar + nr ≤ mr ∧
 nr ≤ 1000000 ∧
 ao + no ≤ mo ∧ no ≤ 1000000 ∧ 0 + Int.toNat x0 ≤ List.length x1 ∧ Int.toNat x0 ≤ 1000000))
 then (bif (Prod.fst
 (S.erS nr (fun (j : Nat) => tr (j + ar)) (fun (j : Nat) => vr (j + ar)) (fun (j : Nat) => gr (j + ar)) no
 (Int.toNat x0) fun (j : Nat) => S.at' x1 j))
 then (bif (Prod.snd
 (S.erS nr (fun (j : Nat) => tr (j + ar)) (fun (j : Nat) => vr (j + ar)) (fun (j : Nat) => gr (j + ar)) no
 (Int.toNat x0) fun (j : Nat) => S.at' x1 j) !=
 (0 : Int))
 then (some (.inr ((0 : Int), Prod.snd
 (S.erS nr (fun (j : Nat) => tr (j + ar)) (fun (j : Nat) => vr (j + ar)) (fun (j : Nat) => gr (j + ar)) no
 (Int.toNat x0) fun (j : Nat) => S.at' x1 j))))
 else (some (.inr (x0, (0 : Int)))))
 else (bif (Prod.snd
 (S.erS nr (fun (j : Nat) => tr (j + ar)) (fun (j : Nat) => vr (j + ar)) (fun (j : Nat) => gr (j + ar)) no
 (Int.toNat x0) fun (j : Nat) => S.at' x1 j) !=
 (0 : Int))
 then (some (.inr ((0 : Int), Prod.snd
 (S.erS nr (fun (j : Nat) => tr (j + ar)) (fun (j : Nat) => vr (j + ar)) (fun (j : Nat) => gr (j + ar)) no
 (Int.toNat x0) fun (j : Nat) => S.at' x1 j))))
 else (bif (lim IntKind.i64 (x0 + (1 : Int)))
 then (some (.inl (.h0 (x0 + (1 : Int)) (x1))))
 else (none))))
 else (none))
 else (none))
 else (some (.inr ((0 : Int), (10 : Int)))) : Option (St122 ⊕ Rt122)) = some x) : T122_0 cond Kst Kret ar nr mr tr vr gr ao no mo to cn aq nq mq tq rp fl x0 x1 := by
  unfold T122_0
  exact bif_split h
   (fun c0 h => bif_split h
   (fun c1 h => bif_split h
   (fun c2 h => bif_split h
   (fun c3 h => bif_split h
   (fun c4 h => ret_at hR _ h (fun n => n) rfl rfl rfl (rn_tup ⟨(rn_int rfl), (rn_int rfl), trivial⟩) rfl (entl_bor (use_lo rfl) rfl rfl (entl_bor (use_lo rfl) rfl rfl (entl_bor (use_lo rfl) rfl rfl entl_nil))))
   (fun c4 h => ret_at hR _ h (fun n => n) rfl rfl rfl (rn_tup ⟨(rn_int rfl), (rn_int rfl), trivial⟩) rfl (entl_bor (use_lo rfl) rfl rfl (entl_bor (use_lo rfl) rfl rfl (entl_bor (use_lo rfl) rfl rfl entl_nil)))))
   (fun c3 h => bif_split h
   (fun c4 h => ret_at hR _ h (fun n => n) rfl rfl rfl (rn_tup ⟨(rn_int rfl), (rn_int rfl), trivial⟩) rfl (entl_bor (use_lo rfl) rfl rfl (entl_bor (use_lo rfl) rfl rfl (entl_bor (use_lo rfl) rfl rfl entl_nil))))
   (fun c4 h => bif_split h
   (fun c5 h => stop_at hS _ h (fun n => bif Nat.beq n 3 then 3 else bif Nat.beq n 4 then 4 else n) rfl rfl rfl ⟨(rn_ptr (use_own rfl) rfl rfl), ⟨(rn_own (use_own rfl) rfl rfl), ⟨(rn_int rfl), trivial⟩⟩⟩ rfl (entl_b (use_own rfl) rfl (by simp) (rb_cells ⟨(rn_loose (use_lo rfl) rfl rfl rfl), (rn_loose (use_lo rfl) rfl rfl rfl), trivial⟩) (entl_new (use_own rfl) rfl (Nat.le_of_eq rfl) (rcs_int (fun _ _ => rfl) rcs_nil) (entl_bor (use_lo rfl) rfl rfl (entl_bor (use_lo rfl) rfl rfl (entl_bor (use_lo rfl) rfl rfl entl_nil))))))
   (fun c5 h => no_some h))))
   (fun c2 h => no_some h))
   (fun c1 h => no_some h))
   (fun c0 h => ret_at hR _ h (fun n => n) rfl rfl rfl (rn_tup ⟨(rn_int rfl), (rn_int rfl), trivial⟩) rfl (entl_bor (use_lo rfl) rfl rfl (entl_bor (use_lo rfl) rfl rfl (entl_bor (use_lo rfl) rfl rfl entl_nil))))
theorem a122 (ar nr mr : Nat) (tr : Nat → Int) (vr : Nat → Int) (gr : Nat → Int) (ao no mo : Nat) (to : Nat → Bool) (cn : ByteArray) (aq nq mq : Nat) (tq : Nat → Int) (rp : Int) (fl : Int) {r : Rt122} (h : Goes ((q122 ar nr mr tr vr gr ao no mo to cn aq nq mq tq rp fl)) ((p122 ar nr mr tr vr gr ao no mo to cn aq nq mq tq rp fl)) r) : CallR Try.prog 22 [.agg [.loose ⟨0, 3, ar, 0⟩ nr, .loose ⟨1, 1, ao, 0⟩ no], .agg [.str cn, .loose ⟨2, 1, aq, 0⟩ nq, .int .i64 rp, .int .i64 fl]] [[(0, (false, .cols mr [.int .i64 tr, .int .i64 vr, .int .i64 gr])), (1, (false, .cols mo [.bool to])), (2, (false, .cols mq [.int .i64 tq]))]] 3 ((V122 ar nr mr tr vr gr ao no mo to cn aq nq mq tq rp fl) r) ((fun r => [newL (3 + 1) ((N122 ar nr mr tr vr gr ao no mo to cn aq nq mq tq rp fl) r) ++ [(0, (false, .cols mr [.int .i64 tr, .int .i64 vr, .int .i64 gr])), (1, (false, .cols mo [.bool to])), (2, (false, .cols mq [.int .i64 tq]))]]) r) 400 ∧ ∃ F, Try.prog.funcs[22]? = some F ∧ F.body.isSome = true ∧ (F.name == "runtime.NumGoroutine") = false := by
  refine dec_calls (f := 22) (lo := 3) (hi := 400) (H := [[(0, (false, .cols mr [.int .i64 tr, .int .i64 vr, .int .i64 gr])), (1, (false, .cols mo [.bool to])), (2, (false, .cols mq [.int .i64 tq]))]]) (args := [.agg [.loose ⟨0, 3, ar, 0⟩ nr, .loose ⟨1, 1, ao, 0⟩ no], .agg [.str cn, .loose ⟨2, 1, aq, 0⟩ nq, .int .i64 rp, .int .i64 fl]]) Try.envOk Try.mixed xT2_ok ((I122 ar nr mr tr vr gr ao no mo to cn aq nq mq tq rp fl)) ((V122 ar nr mr tr vr gr ao no mo to cn aq nq mq tq rp fl)) (fun r => [newL (3 + 1) ((N122 ar nr mr tr vr gr ao no mo to cn aq nq mq tq rp fl) r) ++ [(0, (false, .cols mr [.int .i64 tr, .int .i64 vr, .int .i64 gr])), (1, (false, .cols mo [.bool to])), (2, (false, .cols mq [.int .i64 tq]))]]) (fn := mkFn Try.f22) (ts := [2, 7, 8]) (n := 400) rfl (by decide) (by simp) (names_of rfl) ?_ ?_ ?_ h
  · intro s; cases s <;> exact ⟨hd_ok _ _, by simp [I122], names_of rfl, Nat.le_of_ble_eq_true rfl⟩
  · intro Kst Kret x hS hR h
    exact Holds.eq (te122 cond Kst Kret ar nr mr tr vr gr ao no mo to cn aq nq mq tq rp fl) (be122 ar nr mr tr vr gr ao no mo to cn aq nq mq tq rp fl Kst Kret x hS hR h)
  · intro Kst Kret x hS hR s h
    cases s with
    | h0 x0 x1 => exact Holds.eq (t122_0 cond Kst Kret ar nr mr tr vr gr ao no mo to cn aq nq mq tq rp fl x0 x1) (b122_0 ar nr mr tr vr gr ao no mo to cn aq nq mq tq rp fl Kst Kret x hS hR x0 x1 h)
noncomputable def k122 : Con := ⟨22, [.agg [.list [.int .i64, .int .i64, .int .i64], .list [.bool]], .agg [.plain (.str), .list [.int .i64], .plain (.int .i64), .plain (.int .i64)]], fun (x : ((Nat × Nat × Nat × (Nat → Int) × (Nat → Int) × (Nat → Int) × Unit) × (Nat × Nat × Nat × (Nat → Bool) × Unit) × Unit) × (ByteArray × (Nat × Nat × Nat × (Nat → Int) × Unit) × Int × Int × Unit) × Unit) => (fun (ar nr mr : Nat) (tr : Nat → Int) (vr : Nat → Int) (gr : Nat → Int) (ao no mo : Nat) (to : Nat → Bool) (cn : ByteArray) (aq nq mq : Nat) (tq : Nat → Int) (rp : Int) (fl : Int) => decide ((ar + nr ≤ mr ∧ nr ≤ 1000000) ∧ (ao + no ≤ mo ∧ no ≤ 1000000) ∧ (aq + nq ≤ mq ∧ nq ≤ 1000000))) x.1.1.1 x.1.1.2.1 x.1.1.2.2.1 x.1.1.2.2.2.1 x.1.1.2.2.2.2.1 x.1.1.2.2.2.2.2.1 x.1.2.1.1 x.1.2.1.2.1 x.1.2.1.2.2.1 x.1.2.1.2.2.2.1 x.2.1.1 x.2.1.2.1.1 x.2.1.2.1.2.1 x.2.1.2.1.2.2.1 x.2.1.2.1.2.2.2.1 x.2.1.2.2.1 x.2.1.2.2.2.1, fun (x : ((Nat × Nat × Nat × (Nat → Int) × (Nat → Int) × (Nat → Int) × Unit) × (Nat × Nat × Nat × (Nat → Bool) × Unit) × Unit) × (ByteArray × (Nat × Nat × Nat × (Nat → Int) × Unit) × Int × Int × Unit) × Unit) => (fun (ar nr mr : Nat) (tr : Nat → Int) (vr : Nat → Int) (gr : Nat → Int) (ao no mo : Nat) (to : Nat → Bool) (cn : ByteArray) (aq nq mq : Nat) (tq : Nat → Int) (rp : Int) (fl : Int) => (V122 ar nr mr tr vr gr ao no mo to cn aq nq mq tq rp fl) (S.leaS (S.botE (S.magE nr (fun j => tr (j + ar)) (fun j => vr (j + ar)) (fun j => gr (j + ar)) no) (S.cyE cn nq (fun j => tq (j + aq)) rp fl)) (fun i => S.erB (fun j => tr (j + ar)) (fun j => vr (j + ar)) i (fun j => S.at' (S.stpL nq (fun j => tq (j + aq)) rp fl) j) 0 nr) (S.stpL nq (fun j => tq (j + aq)) rp fl).length)) x.1.1.1 x.1.1.2.1 x.1.1.2.2.1 x.1.1.2.2.2.1 x.1.1.2.2.2.2.1 x.1.1.2.2.2.2.2.1 x.1.2.1.1 x.1.2.1.2.1 x.1.2.1.2.2.1 x.1.2.1.2.2.2.1 x.2.1.1 x.2.1.2.1.1 x.2.1.2.1.2.1 x.2.1.2.1.2.2.1 x.2.1.2.1.2.2.2.1 x.2.1.2.2.1 x.2.1.2.2.2.1, fun (x : ((Nat × Nat × Nat × (Nat → Int) × (Nat → Int) × (Nat → Int) × Unit) × (Nat × Nat × Nat × (Nat → Bool) × Unit) × Unit) × (ByteArray × (Nat × Nat × Nat × (Nat → Int) × Unit) × Int × Int × Unit) × Unit) => (fun (ar nr mr : Nat) (tr : Nat → Int) (vr : Nat → Int) (gr : Nat → Int) (ao no mo : Nat) (to : Nat → Bool) (cn : ByteArray) (aq nq mq : Nat) (tq : Nat → Int) (rp : Int) (fl : Int) => (N122 ar nr mr tr vr gr ao no mo to cn aq nq mq tq rp fl) (S.leaS (S.botE (S.magE nr (fun j => tr (j + ar)) (fun j => vr (j + ar)) (fun j => gr (j + ar)) no) (S.cyE cn nq (fun j => tq (j + aq)) rp fl)) (fun i => S.erB (fun j => tr (j + ar)) (fun j => vr (j + ar)) i (fun j => S.at' (S.stpL nq (fun j => tq (j + aq)) rp fl) j) 0 nr) (S.stpL nq (fun j => tq (j + aq)) rp fl).length)) x.1.1.1 x.1.1.2.1 x.1.1.2.2.1 x.1.1.2.2.2.1 x.1.1.2.2.2.2.1 x.1.1.2.2.2.2.2.1 x.1.2.1.1 x.1.2.1.2.1 x.1.2.1.2.2.1 x.1.2.1.2.2.2.1 x.2.1.1 x.2.1.2.1.1 x.2.1.2.1.2.1 x.2.1.2.1.2.2.1 x.2.1.2.1.2.2.2.1 x.2.1.2.2.1 x.2.1.2.2.2.1, fun _ _ => .dead⟩
theorem s122' (ar nr mr : Nat) (tr : Nat → Int) (vr : Nat → Int) (gr : Nat → Int) (ao no mo : Nat) (to : Nat → Bool) (cn : ByteArray) (aq nq mq : Nat) (tq : Nat → Int) (rp : Int) (fl : Int) (hp : (ar + nr ≤ mr ∧ nr ≤ 1000000) ∧ (ao + no ≤ mo ∧ no ≤ 1000000) ∧ (aq + nq ≤ mq ∧ nq ≤ 1000000)) (hm : (S.magE nr (fun j => tr (j + ar)) (fun j => vr (j + ar)) (fun j => gr (j + ar)) no) = 0) (L : List Int) (hl : L.length ≤ 181) (hv : ∀ j, j < L.length → -1099511627776 ≤ S.at' L j ∧ S.at' L j ≤ 1099511627776) : ∀ (k i : Nat), i + k = L.length + 1 → Comes (q122 ar nr mr tr vr gr ao no mo to cn aq nq mq tq rp fl) (.h0 (i : Int) L) (S.leaK (fun i => S.erB (fun j => tr (j + ar)) (fun j => vr (j + ar)) i (fun j => S.at' L j) 0 nr) i k) := by
  obtain ⟨⟨hp1, hp2⟩, ⟨hp5, hp6⟩, hp3, hp4⟩ := hp
  intro k
  induction k with
  | zero =>
    intro i hi
    apply Comes.of
    show Goes _ _ _
    (first | rw [q122] | unfold q122)
    repeat' first
      | with_reducible refine goes_if (fun h => ?_) (fun h => ?_) <;> (try simp only [lim64, imp_false, decide_eq_true_eq, decide_eq_false_iff_not, Int.toNat_natCast, toNat_pred, toNat_succ, Option.getD_some, Option.getD_none, Bool.not_eq_true', Bool.not_eq_false', Bool.and_eq_true, Bool.or_eq_true, Bool.and_eq_false_iff, Bool.or_eq_false_iff, bne_iff_ne, beq_iff_eq, bne_eq_false_iff_eq, beq_eq_false_iff_ne, ne_eq, not_and, Int.not_le, Int.not_lt, ge_iff_le, gt_iff_lt, Nat.not_lt, Nat.not_le, Bool.not_eq_true, Bool.not_eq_false, Bool.true_eq_false, Bool.false_eq_true, not_false_eq_true, not_true_eq_false] at h)
      | exact goes_none.mpr (by omega)
    all_goals first | (exfalso; omega) | exact goes_inr.mpr rfl
  | succ k ih =>
    intro i hi
    have ih := ih (i + 1) (by omega)
    have he : S.erS nr (fun j => tr (j + ar)) (fun j => vr (j + ar)) (fun j => gr (j + ar)) no i (fun j => S.at' L j) = (S.erB (fun j => tr (j + ar)) (fun j => vr (j + ar)) i (fun j => S.at' L j) 0 nr, 0) := er_in hm (by omega) (fun j hj => hv j (by omega))
    simp only [S.leaK]
    rcases Bool.eq_false_or_eq_true (S.erB (fun j => tr (j + ar)) (fun j => vr (j + ar)) i (fun j => S.at' L j) 0 nr) with hA | hA
    · rw [if_pos hA]
      apply Comes.of
      show Goes _ _ _
      rw [q122]
      simp only [Int.toNat_natCast, he, hA]
      clear he hA ih
      show Goes _ _ _
      repeat' first
       | with_reducible refine goes_if (fun h => ?_) (fun h => ?_) <;> (try simp only [lim64, imp_false, decide_eq_true_eq, decide_eq_false_iff_not, Int.toNat_natCast, toNat_pred, toNat_succ, Option.getD_some, Option.getD_none, Bool.not_eq_true', Bool.not_eq_false', Bool.and_eq_true, Bool.or_eq_true, Bool.and_eq_false_iff, Bool.or_eq_false_iff, bne_iff_ne, beq_iff_eq, bne_eq_false_iff_eq, beq_eq_false_iff_ne, ne_eq, not_and, Int.not_le, Int.not_lt, ge_iff_le, gt_iff_lt, Nat.not_lt, Nat.not_le, Bool.not_eq_true, Bool.not_eq_false, Bool.true_eq_false, Bool.false_eq_true, not_false_eq_true, not_true_eq_false] at h)
       | exact goes_none.mpr (by omega)
      all_goals first | (exfalso; omega) | exact goes_inr.mpr rfl | (exfalso; simp_all; done)
    · rw [if_neg (by rw [hA]; exact Bool.false_ne_true)]
      apply Comes.of
      show Goes _ _ _
      rw [q122]
      simp only [Int.toNat_natCast, he, hA]
      clear he hA
      show Goes _ _ _
      repeat' first
       | with_reducible refine goes_if (fun h => ?_) (fun h => ?_) <;> (try simp only [lim64, imp_false, decide_eq_true_eq, decide_eq_false_iff_not, Int.toNat_natCast, toNat_pred, toNat_succ, Option.getD_some, Option.getD_none, Bool.not_eq_true', Bool.not_eq_false', Bool.and_eq_true, Bool.or_eq_true, Bool.and_eq_false_iff, Bool.or_eq_false_iff, bne_iff_ne, beq_iff_eq, bne_eq_false_iff_eq, beq_eq_false_iff_ne, ne_eq, not_and, Int.not_le, Int.not_lt, ge_iff_le, gt_iff_lt, Nat.not_lt, Nat.not_le, Bool.not_eq_true, Bool.not_eq_false, Bool.true_eq_false, Bool.false_eq_true, not_false_eq_true, not_true_eq_false] at h)
       | exact goes_none.mpr (by omega)
      all_goals first | (exfalso; omega) | exact ih | (exfalso; simp_all; done)
theorem s122 (ar nr mr : Nat) (tr : Nat → Int) (vr : Nat → Int) (gr : Nat → Int) (ao no mo : Nat) (to : Nat → Bool) (cn : ByteArray) (aq nq mq : Nat) (tq : Nat → Int) (rp : Int) (fl : Int) (hp : (ar + nr ≤ mr ∧ nr ≤ 1000000) ∧ (ao + no ≤ mo ∧ no ≤ 1000000) ∧ (aq + nq ≤ mq ∧ nq ≤ 1000000)) : Goes ((q122 ar nr mr tr vr gr ao no mo to cn aq nq mq tq rp fl)) ((p122 ar nr mr tr vr gr ao no mo to cn aq nq mq tq rp fl)) (S.leaS (S.botE (S.magE nr (fun j => tr (j + ar)) (fun j => vr (j + ar)) (fun j => gr (j + ar)) no) (S.cyE cn nq (fun j => tq (j + aq)) rp fl)) (fun i => S.erB (fun j => tr (j + ar)) (fun j => vr (j + ar)) i (fun j => S.at' (S.stpL nq (fun j => tq (j + aq)) rp fl) j) 0 nr) (S.stpL nq (fun j => tq (j + aq)) rp fl).length) := by
  unfold S.leaS S.botE
  by_cases hm : (S.magE nr (fun j => tr (j + ar)) (fun j => vr (j + ar)) (fun j => gr (j + ar)) no) = 0
  · by_cases hy : (S.cyE cn nq (fun j => tq (j + aq)) rp fl) = 0
    · have hst := stp_in hy
      have hc := cy_ok hy
      have hg := s122' ar nr mr tr vr gr ao no mo to cn aq nq mq tq rp fl hp hm (S.stpL nq (fun j => tq (j + aq)) rp fl) hst.1 hst.2.2 (S.stpL nq (fun j => tq (j + aq)) rp fl).length 1 (Nat.add_comm _ _)
      obtain ⟨⟨hp1, hp2⟩, ⟨hp5, hp6⟩, hp3, hp4⟩ := hp
      rw [if_pos hm, if_pos hy]
      unfold p122
      simp only [hm, hy]
      show Goes _ _ _
      repeat' first
        | with_reducible refine goes_if (fun h => ?_) (fun h => ?_) <;> (try simp only [lim64, imp_false, decide_eq_true_eq, decide_eq_false_iff_not, Int.toNat_natCast, toNat_pred, toNat_succ, Option.getD_some, Option.getD_none, Bool.not_eq_true', Bool.not_eq_false', Bool.and_eq_true, Bool.or_eq_true, Bool.and_eq_false_iff, Bool.or_eq_false_iff, bne_iff_ne, beq_iff_eq, bne_eq_false_iff_eq, beq_eq_false_iff_ne, ne_eq, not_and, Int.not_le, Int.not_lt, ge_iff_le, gt_iff_lt, Nat.not_lt, Nat.not_le, Bool.not_eq_true, Bool.not_eq_false, Bool.true_eq_false, Bool.false_eq_true, not_false_eq_true, not_true_eq_false] at h)
        | exact goes_none.mpr (by omega)
      all_goals first | (exfalso; omega) | exact hg | (exfalso; simp_all; done)
    · obtain ⟨⟨hp1, hp2⟩, ⟨hp5, hp6⟩, hp3, hp4⟩ := hp
      rw [if_pos hm, if_neg hy]
      unfold p122
      simp only [hm]
      generalize (S.cyE cn nq (fun j => tq (j + aq)) rp fl) = e at *
      show Goes _ _ _
      repeat' first
        | with_reducible refine goes_if (fun h => ?_) (fun h => ?_) <;> (try simp only [lim64, imp_false, decide_eq_true_eq, decide_eq_false_iff_not, Int.toNat_natCast, toNat_pred, toNat_succ, Option.getD_some, Option.getD_none, Bool.not_eq_true', Bool.not_eq_false', Bool.and_eq_true, Bool.or_eq_true, Bool.and_eq_false_iff, Bool.or_eq_false_iff, bne_iff_ne, beq_iff_eq, bne_eq_false_iff_eq, beq_eq_false_iff_ne, ne_eq, not_and, Int.not_le, Int.not_lt, ge_iff_le, gt_iff_lt, Nat.not_lt, Nat.not_le, Bool.not_eq_true, Bool.not_eq_false, Bool.true_eq_false, Bool.false_eq_true, not_false_eq_true, not_true_eq_false] at h)
        | exact goes_none.mpr (by omega)
      all_goals first | (exfalso; omega) | exact goes_inr.mpr rfl | (exfalso; simp_all; done)
  · obtain ⟨⟨hp1, hp2⟩, ⟨hp5, hp6⟩, hp3, hp4⟩ := hp
    rw [if_neg hm, if_neg hm]
    unfold p122
    generalize (S.magE nr (fun j => tr (j + ar)) (fun j => vr (j + ar)) (fun j => gr (j + ar)) no) = e at *
    show Goes _ _ _
    repeat' first
      | with_reducible refine goes_if (fun h => ?_) (fun h => ?_) <;> (try simp only [lim64, imp_false, decide_eq_true_eq, decide_eq_false_iff_not, Int.toNat_natCast, toNat_pred, toNat_succ, Option.getD_some, Option.getD_none, Bool.not_eq_true', Bool.not_eq_false', Bool.and_eq_true, Bool.or_eq_true, Bool.and_eq_false_iff, Bool.or_eq_false_iff, bne_iff_ne, beq_iff_eq, bne_eq_false_iff_eq, beq_eq_false_iff_ne, ne_eq, not_and, Int.not_le, Int.not_lt, ge_iff_le, gt_iff_lt, Nat.not_lt, Nat.not_le, Bool.not_eq_true, Bool.not_eq_false, Bool.true_eq_false, Bool.false_eq_true, not_false_eq_true, not_true_eq_false] at h)
      | exact goes_none.mpr (by omega)
    all_goals first | (exfalso; omega) | exact goes_inr.mpr rfl | (exfalso; simp_all; done)
theorem k122_ok : k122.ok Try.prog := by
  intro x hx
  obtain ⟨⟨⟨ar, nr, mr, tr, vr, gr, _⟩, ⟨ao, no, mo, to, _⟩, _⟩, ⟨cn, ⟨aq, nq, mq, tq, _⟩, rp, fl, _⟩, _⟩ := x
  obtain ⟨h1, h2⟩ := a122 ar nr mr tr vr gr ao no mo to cn aq nq mq tq rp fl (s122 ar nr mr tr vr gr ao no mo to cn aq nq mq tq rp fl (of_dec hx rfl))
  exact ⟨⟨400, (by decide : 3 + 1 + 0 ≤ 400), h1⟩, h2⟩
inductive St123 where
  | h0 (x0 : Int) (x1 : List Int)
abbrev Rt123 := Int × Int
noncomputable def V123 (ar nr mr : Nat) (tr : Nat → Int) (vr : Nat → Int) (gr : Nat → Int) (ao no mo : Nat) (to : Nat → Bool) (cn : ByteArray) (aq nq mq : Nat) (tq : Nat → Int) (rp : Int) (fl : Int) (r : Rt123) : PV := PV.tup [PV.int IntKind.i64 r.1, PV.int IntKind.i64 r.2]
noncomputable def N123 (ar nr mr : Nat) (tr : Nat → Int) (vr : Nat → Int) (gr : Nat → Int) (ao no mo : Nat) (to : Nat → Bool) (cn : ByteArray) (aq nq mq : Nat) (tq : Nat → Int) (rp : Int) (fl : Int) (r : Rt123) : List Blk := []
noncomputable def I123 (ar nr mr : Nat) (tr : Nat → Int) (vr : Nat → Int) (gr : Nat → Int) (ao no mo : Nat) (to : Nat → Bool) (cn : ByteArray) (aq nq mq : Nat) (tq : Nat → Int) (rp : Int) (fl : Int) : St123 → Hd
  | .h0 x0 x1 => ⟨hd Try.f23 0, [PV.ptr (PA.mk (3) (0) (0) (0)),
 PV.own (4) (1) (List.length x1), PV.int IntKind.i64 x0], [[(3, (true, Blk.cells
 [PV.loose (PA.mk (0) (3) ar (0)) nr,
 PV.loose (PA.mk (1) (1) ao (0)) no])), (4, (true, Blk.cols (List.length x1) [Col.int IntKind.i64 fun (j : Nat) => S.at' x1 j]))], [(0, (false, .cols mr [.int .i64 tr, .int .i64 vr, .int .i64 gr])), (1, (false, .cols mo [.bool to])), (2, (false, .cols mq [.int .i64 tq]))]], 5⟩
noncomputable def q123 (ar nr mr : Nat) (tr : Nat → Int) (vr : Nat → Int) (gr : Nat → Int) (ao no mo : Nat) (to : Nat → Bool) (cn : ByteArray) (aq nq mq : Nat) (tq : Nat → Int) (rp : Int) (fl : Int) : St123 → Option (St123 ⊕ Rt123)
  | .h0 x0 x1 => bif (decide (x0 ≤ (↑(List.length x1) : Int)))
 then (bif (decide ((0 : Int) ≤ x0 ∧ x0 ≤ (↑(List.length x1) : Int)))
 then (bif (decide
 (ar + nr ≤ mr ∧
 nr ≤ 1000000 ∧
 ao + no ≤ mo ∧ no ≤ 1000000 ∧ 0 + Int.toNat x0 ≤ List.length x1 ∧ Int.toNat x0 ≤ 1000000))
 then (bif (Prod.fst
 (S.erS nr (fun (j : Nat) => tr (j + ar)) (fun (j : Nat) => vr (j + ar)) (fun (j : Nat) => gr (j + ar)) no
 (Int.toNat x0) fun (j : Nat) => S.at' x1 j))
 then (some (.inr (x0, (0 : Int))))
 else (bif (lim IntKind.i64 (x0 + (1 : Int)))
 then (some (.inl (.h0 (x0 + (1 : Int)) (x1))))
 else (none)))
 else (none))
 else (none))
 else (some (.inr ((0 : Int), (10 : Int))))
noncomputable def p123 (ar nr mr : Nat) (tr : Nat → Int) (vr : Nat → Int) (gr : Nat → Int) (ao no mo : Nat) (to : Nat → Bool) (cn : ByteArray) (aq nq mq : Nat) (tq : Nat → Int) (rp : Int) (fl : Int) : Option (St123 ⊕ Rt123) := bif (decide (ar + nr ≤ mr ∧ nr ≤ 1000000))
 then (bif (S.magE nr (fun (j : Nat) => tr (j + ar)) (fun (j : Nat) => vr (j + ar)) (fun (j : Nat) => gr (j + ar)) no !=
 (0 : Int))
 then (some (.inr ((0 : Int), S.magE nr (fun (j : Nat) => tr (j + ar)) (fun (j : Nat) => vr (j + ar)) (fun (j : Nat) => gr (j + ar)) no)))
 else (bif (decide (aq + nq ≤ mq ∧ nq ≤ 1000000))
 then (bif (S.cyE cn nq (fun (j : Nat) => tq (j + aq)) rp fl != (0 : Int))
 then (some (.inr ((0 : Int), S.cyE cn nq (fun (j : Nat) => tq (j + aq)) rp fl)))
 else (bif (decide (aq + nq ≤ mq ∧ nq ≤ 20 ∧ (0 : Int) ≤ rp ∧ rp ≤ (9 : Int)))
 then (some (.inl (.h0 ((1 : Int)) (S.stpL nq (fun (j : Nat) => tq (j + aq)) rp fl))))
 else (none)))
 else (none)))
 else (none)
noncomputable def Te123 (test : Bool → Prop → Prop → Prop) (Kst : KS) (Kret : KR) (ar nr mr : Nat) (tr : Nat → Int) (vr : Nat → Int) (gr : Nat → Int) (ao no mo : Nat) (to : Nat → Bool) (cn : ByteArray) (aq nq mq : Nat) (tq : Nat → Int) (rp : Int) (fl : Int) : Prop :=
  test (decide (ar + nr ≤ mr ∧ nr ≤ 1000000))
 (test (S.magE nr (fun (j : Nat) => tr (j + ar)) (fun (j : Nat) => vr (j + ar)) (fun (j : Nat) => gr (j + ar)) no !=
 (0 : Int))
 (test (S.magE nr (fun (j : Nat) => tr (j + ar)) (fun (j : Nat) => vr (j + ar)) (fun (j : Nat) => gr (j + ar)) no !=
 (0 : Int))
 (Kret (PV.tup
 [PV.int IntKind.i64 (0 : Int),
 PV.int IntKind.i64
 (S.magE nr (fun (j : Nat) => tr (j + ar)) (fun (j : Nat) => vr (j + ar)) (fun (j : Nat) => gr (j + ar)) no)]) ([[(2, false, Blk.cols mq [Col.int IntKind.i64 tq]),
 (1, false, Blk.cols mo [Col.bool to]),
 (0, false,
 Blk.cols mr
 [Col.int IntKind.i64 tr, Col.int IntKind.i64 vr, Col.int IntKind.i64 gr])]]) (8))
 (test (decide (aq + nq ≤ mq ∧ nq ≤ 20 ∧ (0 : Int) ≤ rp ∧ rp ≤ (9 : Int)))
 (Kst (hd Try.f23 0) ([PV.ptr (PA.mk (3) (0) (0) (0)),
 PV.own (9) (1) (List.length (S.stpL nq (fun (j : Nat) => tq (j + aq)) rp fl)),
 PV.int IntKind.i64 (1 : Int)]) ([[(2, false, Blk.cols mq [Col.int IntKind.i64 tq]),
 (1, false, Blk.cols mo [Col.bool to]),
 (0, false,
 Blk.cols mr
 [Col.int IntKind.i64 tr, Col.int IntKind.i64 vr, Col.int IntKind.i64 gr]),
 (9, true,
 Blk.cols (List.length (S.stpL nq (fun (j : Nat) => tq (j + aq)) rp fl))
 [Col.int IntKind.i64 fun (j : Nat) =>
 S.at' (S.stpL nq (fun (j : Nat) => tq (j + aq)) rp fl) j]),
 (3, true,
 Blk.cells
 [PV.loose (PA.mk (0) (3) ar (0)) nr,
 PV.loose (PA.mk (1) (1) ao (0)) no])]]) (10))
 (False)))
 (test (decide (aq + nq ≤ mq ∧ nq ≤ 1000000))
 (test (S.cyE cn nq (fun (j : Nat) => tq (j + aq)) rp fl != (0 : Int))
 (Kret (PV.tup
 [PV.int IntKind.i64 (0 : Int),
 PV.int IntKind.i64 (S.cyE cn nq (fun (j : Nat) => tq (j + aq)) rp fl)]) ([[(2, false, Blk.cols mq [Col.int IntKind.i64 tq]),
 (1, false, Blk.cols mo [Col.bool to]),
 (0, false,
 Blk.cols mr
 [Col.int IntKind.i64 tr, Col.int IntKind.i64 vr, Col.int IntKind.i64 gr])]]) (9))
 (test (decide (aq + nq ≤ mq ∧ nq ≤ 20 ∧ (0 : Int) ≤ rp ∧ rp ≤ (9 : Int)))
 (Kst (hd Try.f23 0) ([PV.ptr (PA.mk (3) (0) (0) (0)),
 PV.own (10) (1) (List.length (S.stpL nq (fun (j : Nat) => tq (j + aq)) rp fl)),
 PV.int IntKind.i64 (1 : Int)]) ([[(2, false, Blk.cols mq [Col.int IntKind.i64 tq]),
 (1, false, Blk.cols mo [Col.bool to]),
 (0, false,
 Blk.cols mr
 [Col.int IntKind.i64 tr, Col.int IntKind.i64 vr, Col.int IntKind.i64 gr]),
 (10, true,
 Blk.cols (List.length (S.stpL nq (fun (j : Nat) => tq (j + aq)) rp fl))
 [Col.int IntKind.i64 fun (j : Nat) =>
 S.at' (S.stpL nq (fun (j : Nat) => tq (j + aq)) rp fl) j]),
 (3, true,
 Blk.cells
 [PV.loose (PA.mk (0) (3) ar (0)) nr,
 PV.loose (PA.mk (1) (1) ao (0)) no])]]) (11))
 (False)))
 (False)))
 (False)
set_option maxRecDepth 100000 in
theorem te123 (test : Bool → Prop → Prop → Prop) (Kst : KS) (Kret : KR) (ar nr mr : Nat) (tr : Nat → Int) (vr : Nat → Int) (gr : Nat → Int) (ao no mo : Nat) (to : Nat → Bool) (cn : ByteArray) (aq nq mq : Nat) (tq : Nat → Int) (rp : Int) (fl : Int) : run test Try.env true (xT2 test) true 400 ⟨23, [.cd (mkFn Try.f23).body], argT 0 [.agg [.loose ⟨0, 3, ar, 0⟩ nr, .loose ⟨1, 1, ao, 0⟩ no], .agg [.str cn, .loose ⟨2, 1, aq, 0⟩ nq, .int .i64 rp, .int .i64 fl]], [[], [(0, (false, .cols mr [.int .i64 tr, .int .i64 vr, .int .i64 gr])), (1, (false, .cols mo [.bool to])), (2, (false, .cols mq [.int .i64 tq]))]], 3⟩ (proj 3 [2, 7, 8] Kst Kret) =
  Te123 test Kst Kret ar nr mr tr vr gr ao no mo to cn aq nq mq tq rp fl := by kernel_rfl
noncomputable def T123_0 (test : Bool → Prop → Prop → Prop) (Kst : KS) (Kret : KR) (ar nr mr : Nat) (tr : Nat → Int) (vr : Nat → Int) (gr : Nat → Int) (ao no mo : Nat) (to : Nat → Bool) (cn : ByteArray) (aq nq mq : Nat) (tq : Nat → Int) (rp : Int) (fl : Int) (x0 : Int) (x1 : List Int) : Prop :=
  test (decide (x0 ≤ (↑(List.length x1) : Int)))
 (test (decide ((0 : Int) ≤ x0 ∧ x0 ≤ (↑(List.length x1) : Int)))
 (test (decide
 (ar + nr ≤ mr ∧
 nr ≤ 1000000 ∧
 ao + no ≤ mo ∧ no ≤ 1000000 ∧ 0 + Int.toNat x0 ≤ List.length x1 ∧ Int.toNat x0 ≤ 1000000))
 (test (Prod.fst
 (S.erS nr (fun (j : Nat) => tr (j + ar)) (fun (j : Nat) => vr (j + ar)) (fun (j : Nat) => gr (j + ar)) no
 (Int.toNat x0) fun (j : Nat) => S.at' x1 j))
 (Kret (PV.tup [PV.int IntKind.i64 x0, PV.int IntKind.i64 (0 : Int)]) ([[(2, false, Blk.cols mq [Col.int IntKind.i64 tq]),
 (1, false, Blk.cols mo [Col.bool to]),
 (0, false,
 Blk.cols mr
 [Col.int IntKind.i64 tr, Col.int IntKind.i64 vr, Col.int IntKind.i64 gr])]]) (6))
 (test (lim IntKind.i64 (x0 + (1 : Int)))
 (Kst (hd Try.f23 0) ([PV.ptr (PA.mk (3) (0) (0) (0)),
 PV.own (4) (1) (List.length x1), PV.int IntKind.i64 (x0 + (1 : Int))]) ([[(2, false, Blk.cols mq [Col.int IntKind.i64 tq]),
 (1, false, Blk.cols mo [Col.bool to]),
 (0, false,
 Blk.cols mr
 [Col.int IntKind.i64 tr, Col.int IntKind.i64 vr, Col.int IntKind.i64 gr]),
 (4, true,
 Blk.cols (List.length x1) [Col.int IntKind.i64 fun (j : Nat) => S.at' x1 j]),
 (3, true,
 Blk.cells
 [PV.loose (PA.mk (0) (3) ar (0)) nr,
 PV.loose (PA.mk (1) (1) ao (0)) no])]]) (6))
 (False)))
 (False))
 (False))
 (Kret (PV.tup [PV.int IntKind.i64 (0 : Int), PV.int IntKind.i64 (10 : Int)]) ([[(2, false, Blk.cols mq [Col.int IntKind.i64 tq]),
 (1, false, Blk.cols mo [Col.bool to]),
 (0, false,
 Blk.cols mr
 [Col.int IntKind.i64 tr, Col.int IntKind.i64 vr, Col.int IntKind.i64 gr])]]) (5))
set_option maxRecDepth 100000 in
theorem t123_0 (test : Bool → Prop → Prop → Prop) (Kst : KS) (Kret : KR) (ar nr mr : Nat) (tr : Nat → Int) (vr : Nat → Int) (gr : Nat → Int) (ao no mo : Nat) (to : Nat → Bool) (cn : ByteArray) (aq nq mq : Nat) (tq : Nat → Int) (rp : Int) (fl : Int) (x0 : Int) (x1 : List Int) : run test Try.env true (xT2 test) true 400 ⟨23, hd Try.f23 0, zipT [2, 7, 8] [PV.ptr (PA.mk (3) (0) (0) (0)),
 PV.own (4) (1) (List.length x1), PV.int IntKind.i64 x0], [[(3, (true, Blk.cells
 [PV.loose (PA.mk (0) (3) ar (0)) nr,
 PV.loose (PA.mk (1) (1) ao (0)) no])), (4, (true, Blk.cols (List.length x1) [Col.int IntKind.i64 fun (j : Nat) => S.at' x1 j]))], [(0, (false, .cols mr [.int .i64 tr, .int .i64 vr, .int .i64 gr])), (1, (false, .cols mo [.bool to])), (2, (false, .cols mq [.int .i64 tq]))]], 5⟩ (proj 3 [2, 7, 8] Kst Kret) =
  T123_0 test Kst Kret ar nr mr tr vr gr ao no mo to cn aq nq mq tq rp fl x0 x1 := by kernel_rfl
set_option maxRecDepth 100000 in
theorem be123 (ar nr mr : Nat) (tr : Nat → Int) (vr : Nat → Int) (gr : Nat → Int) (ao no mo : Nat) (to : Nat → Bool) (cn : ByteArray) (aq nq mq : Nat) (tq : Nat → Int) (rp : Int) (fl : Int) (Kst : KS) (Kret : KR) (x : St123 ⊕ Rt123) (hS : HS 3 400 ((I123 ar nr mr tr vr gr ao no mo to cn aq nq mq tq rp fl)) Kst x) (hR : HR 3 400 ((V123 ar nr mr tr vr gr ao no mo to cn aq nq mq tq rp fl)) (fun r => [newL (3 + 1) ((N123 ar nr mr tr vr gr ao no mo to cn aq nq mq tq rp fl) r) ++ [(0, (false, .cols mr [.int .i64 tr, .int .i64 vr, .int .i64 gr])), (1, (false, .cols mo [.bool to])), (2, (false, .cols mq [.int .i64 tq]))]]) Kret x) (h : (bif (decide (ar + nr ≤ mr ∧ nr ≤ 1000000))
 then (bif (S.magE nr (fun (j : Nat) => tr (j + ar)) (fun (j : Nat) => vr (j + ar)) (fun (j : Nat) => gr (j + ar)) no !=
 (0 : Int))
 then (some (.inr ((0 : Int), S.magE nr (fun (j : Nat) => tr (j + ar)) (fun (j : Nat) => vr (j + ar)) (fun (j : Nat) => gr (j + ar)) no)))
 else (bif (decide (aq + nq ≤ mq ∧ nq ≤ 1000000))
 then (bif (S.cyE cn nq (fun (j : Nat) => tq (j + aq)) rp fl != (0 : Int))
 then (some (.inr ((0 : Int), S.cyE cn nq (fun (j : Nat) => tq (j + aq)) rp fl)))
 else (bif (decide (aq + nq ≤ mq ∧ nq ≤ 20 ∧ (0 : Int) ≤ rp ∧ rp ≤ (9 : Int)))
 then (some (.inl (.h0 ((1 : Int)) (S.stpL nq (fun (j : Nat) => tq (j + aq)) rp fl))))
 else (none)))
 else (none)))
 else (none) : Option (St123 ⊕ Rt123)) = some x) : Te123 cond Kst Kret ar nr mr tr vr gr ao no mo to cn aq nq mq tq rp fl := by
  unfold Te123
  exact bif_split h
   (fun c0 h => bif_split h
   (fun c1 h => cond_yes c1 (ret_at hR _ h (fun n => n) rfl rfl rfl (rn_tup ⟨(rn_int rfl), (rn_int rfl), trivial⟩) rfl (entl_bor (use_lo rfl) rfl rfl (entl_bor (use_lo rfl) rfl rfl (entl_bor (use_lo rfl) rfl rfl entl_nil)))))
   (fun c1 h => bif_split h
   (fun c2 h => bif_split h
   (fun c3 h => ret_at hR _ h (fun n => n) rfl rfl rfl (rn_tup ⟨(rn_int rfl), (rn_int rfl), trivial⟩) rfl (entl_bor (use_lo rfl) rfl rfl (entl_bor (use_lo rfl) rfl rfl (entl_bor (use_lo rfl) rfl rfl entl_nil))))
   (fun c3 h => bif_split h
   (fun c4 h => stop_at hS _ h (fun n => bif Nat.beq n 3 then 3 else bif Nat.beq n 4 then 10 else n) rfl rfl rfl ⟨(rn_ptr (use_own rfl) rfl rfl), ⟨(rn_own (use_own rfl) rfl rfl), ⟨(rn_int rfl), trivial⟩⟩⟩ rfl (entl_b (use_own rfl) rfl (by simp) (rb_cells ⟨(rn_loose (use_lo rfl) rfl rfl rfl), (rn_loose (use_lo rfl) rfl rfl rfl), trivial⟩) (entl_new (use_own rfl) rfl (Nat.le_of_eq rfl) (rcs_int (fun _ _ => rfl) rcs_nil) (entl_bor (use_lo rfl) rfl rfl (entl_bor (use_lo rfl) rfl rfl (entl_bor (use_lo rfl) rfl rfl entl_nil))))))
   (fun c4 h => no_some h)))
   (fun c2 h => no_some h)))
   (fun c0 h => no_some h)
set_option maxRecDepth 100000 in
theorem b123_0 (ar nr mr : Nat) (tr : Nat → Int) (vr : Nat → Int) (gr : Nat → Int) (ao no mo : Nat) (to : Nat → Bool) (cn : ByteArray) (aq nq mq : Nat) (tq : Nat → Int) (rp : Int) (fl : Int) (Kst : KS) (Kret : KR) (x : St123 ⊕ Rt123) (hS : HS 3 400 ((I123 ar nr mr tr vr gr ao no mo to cn aq nq mq tq rp fl)) Kst x) (hR : HR 3 400 ((V123 ar nr mr tr vr gr ao no mo to cn aq nq mq tq rp fl)) (fun r => [newL (3 + 1) ((N123 ar nr mr tr vr gr ao no mo to cn aq nq mq tq rp fl) r) ++ [(0, (false, .cols mr [.int .i64 tr, .int .i64 vr, .int .i64 gr])), (1, (false, .cols mo [.bool to])), (2, (false, .cols mq [.int .i64 tq]))]]) Kret x) (x0 : Int) (x1 : List Int) (h : (bif (decide (x0 ≤ (↑(List.length x1) : Int)))
 then (bif (decide ((0 : Int) ≤ x0 ∧ x0 ≤ (↑(List.length x1) : Int)))
 then (bif (decide
 (ar + nr ≤ mr ∧
 nr ≤ 1000000 ∧
 ao + no ≤ mo ∧ no ≤ 1000000 ∧ 0 + Int.toNat x0 ≤ List.length x1 ∧ Int.toNat x0 ≤ 1000000))
 then (bif (Prod.fst
 (S.erS nr (fun (j : Nat) => tr (j + ar)) (fun (j : Nat) => vr (j + ar)) (fun (j : Nat) => gr (j + ar)) no
 (Int.toNat x0) fun (j : Nat) => S.at' x1 j))
 then (some (.inr (x0, (0 : Int))))
 else (bif (lim IntKind.i64 (x0 + (1 : Int)))
 then (some (.inl (.h0 (x0 + (1 : Int)) (x1))))
 else (none)))
 else (none))
 else (none))
 else (some (.inr ((0 : Int), (10 : Int)))) : Option (St123 ⊕ Rt123)) = some x) : T123_0 cond Kst Kret ar nr mr tr vr gr ao no mo to cn aq nq mq tq rp fl x0 x1 := by
  unfold T123_0
  exact bif_split h
   (fun c0 h => bif_split h
   (fun c1 h => bif_split h
   (fun c2 h => bif_split h
   (fun c3 h => ret_at hR _ h (fun n => n) rfl rfl rfl (rn_tup ⟨(rn_int rfl), (rn_int rfl), trivial⟩) rfl (entl_bor (use_lo rfl) rfl rfl (entl_bor (use_lo rfl) rfl rfl (entl_bor (use_lo rfl) rfl rfl entl_nil))))
   (fun c3 h => bif_split h
   (fun c4 h => stop_at hS _ h (fun n => bif Nat.beq n 3 then 3 else bif Nat.beq n 4 then 4 else n) rfl rfl rfl ⟨(rn_ptr (use_own rfl) rfl rfl), ⟨(rn_own (use_own rfl) rfl rfl), ⟨(rn_int rfl), trivial⟩⟩⟩ rfl (entl_b (use_own rfl) rfl (by simp) (rb_cells ⟨(rn_loose (use_lo rfl) rfl rfl rfl), (rn_loose (use_lo rfl) rfl rfl rfl), trivial⟩) (entl_new (use_own rfl) rfl (Nat.le_of_eq rfl) (rcs_int (fun _ _ => rfl) rcs_nil) (entl_bor (use_lo rfl) rfl rfl (entl_bor (use_lo rfl) rfl rfl (entl_bor (use_lo rfl) rfl rfl entl_nil))))))
   (fun c4 h => no_some h)))
   (fun c2 h => no_some h))
   (fun c1 h => no_some h))
   (fun c0 h => ret_at hR _ h (fun n => n) rfl rfl rfl (rn_tup ⟨(rn_int rfl), (rn_int rfl), trivial⟩) rfl (entl_bor (use_lo rfl) rfl rfl (entl_bor (use_lo rfl) rfl rfl (entl_bor (use_lo rfl) rfl rfl entl_nil))))
theorem a123 (ar nr mr : Nat) (tr : Nat → Int) (vr : Nat → Int) (gr : Nat → Int) (ao no mo : Nat) (to : Nat → Bool) (cn : ByteArray) (aq nq mq : Nat) (tq : Nat → Int) (rp : Int) (fl : Int) {r : Rt123} (h : Goes ((q123 ar nr mr tr vr gr ao no mo to cn aq nq mq tq rp fl)) ((p123 ar nr mr tr vr gr ao no mo to cn aq nq mq tq rp fl)) r) : CallR Try.prog 23 [.agg [.loose ⟨0, 3, ar, 0⟩ nr, .loose ⟨1, 1, ao, 0⟩ no], .agg [.str cn, .loose ⟨2, 1, aq, 0⟩ nq, .int .i64 rp, .int .i64 fl]] [[(0, (false, .cols mr [.int .i64 tr, .int .i64 vr, .int .i64 gr])), (1, (false, .cols mo [.bool to])), (2, (false, .cols mq [.int .i64 tq]))]] 3 ((V123 ar nr mr tr vr gr ao no mo to cn aq nq mq tq rp fl) r) ((fun r => [newL (3 + 1) ((N123 ar nr mr tr vr gr ao no mo to cn aq nq mq tq rp fl) r) ++ [(0, (false, .cols mr [.int .i64 tr, .int .i64 vr, .int .i64 gr])), (1, (false, .cols mo [.bool to])), (2, (false, .cols mq [.int .i64 tq]))]]) r) 400 ∧ ∃ F, Try.prog.funcs[23]? = some F ∧ F.body.isSome = true ∧ (F.name == "runtime.NumGoroutine") = false := by
  refine dec_calls (f := 23) (lo := 3) (hi := 400) (H := [[(0, (false, .cols mr [.int .i64 tr, .int .i64 vr, .int .i64 gr])), (1, (false, .cols mo [.bool to])), (2, (false, .cols mq [.int .i64 tq]))]]) (args := [.agg [.loose ⟨0, 3, ar, 0⟩ nr, .loose ⟨1, 1, ao, 0⟩ no], .agg [.str cn, .loose ⟨2, 1, aq, 0⟩ nq, .int .i64 rp, .int .i64 fl]]) Try.envOk Try.mixed xT2_ok ((I123 ar nr mr tr vr gr ao no mo to cn aq nq mq tq rp fl)) ((V123 ar nr mr tr vr gr ao no mo to cn aq nq mq tq rp fl)) (fun r => [newL (3 + 1) ((N123 ar nr mr tr vr gr ao no mo to cn aq nq mq tq rp fl) r) ++ [(0, (false, .cols mr [.int .i64 tr, .int .i64 vr, .int .i64 gr])), (1, (false, .cols mo [.bool to])), (2, (false, .cols mq [.int .i64 tq]))]]) (fn := mkFn Try.f23) (ts := [2, 7, 8]) (n := 400) rfl (by decide) (by simp) (names_of rfl) ?_ ?_ ?_ h
  · intro s; cases s <;> exact ⟨hd_ok _ _, by simp [I123], names_of rfl, Nat.le_of_ble_eq_true rfl⟩
  · intro Kst Kret x hS hR h
    exact Holds.eq (te123 cond Kst Kret ar nr mr tr vr gr ao no mo to cn aq nq mq tq rp fl) (be123 ar nr mr tr vr gr ao no mo to cn aq nq mq tq rp fl Kst Kret x hS hR h)
  · intro Kst Kret x hS hR s h
    cases s with
    | h0 x0 x1 => exact Holds.eq (t123_0 cond Kst Kret ar nr mr tr vr gr ao no mo to cn aq nq mq tq rp fl x0 x1) (b123_0 ar nr mr tr vr gr ao no mo to cn aq nq mq tq rp fl Kst Kret x hS hR x0 x1 h)
noncomputable def k123 : Con := ⟨23, [.agg [.list [.int .i64, .int .i64, .int .i64], .list [.bool]], .agg [.plain (.str), .list [.int .i64], .plain (.int .i64), .plain (.int .i64)]], fun (x : ((Nat × Nat × Nat × (Nat → Int) × (Nat → Int) × (Nat → Int) × Unit) × (Nat × Nat × Nat × (Nat → Bool) × Unit) × Unit) × (ByteArray × (Nat × Nat × Nat × (Nat → Int) × Unit) × Int × Int × Unit) × Unit) => (fun (ar nr mr : Nat) (tr : Nat → Int) (vr : Nat → Int) (gr : Nat → Int) (ao no mo : Nat) (to : Nat → Bool) (cn : ByteArray) (aq nq mq : Nat) (tq : Nat → Int) (rp : Int) (fl : Int) => decide ((ar + nr ≤ mr ∧ nr ≤ 1000000) ∧ (ao + no ≤ mo ∧ no ≤ 1000000) ∧ (aq + nq ≤ mq ∧ nq ≤ 1000000))) x.1.1.1 x.1.1.2.1 x.1.1.2.2.1 x.1.1.2.2.2.1 x.1.1.2.2.2.2.1 x.1.1.2.2.2.2.2.1 x.1.2.1.1 x.1.2.1.2.1 x.1.2.1.2.2.1 x.1.2.1.2.2.2.1 x.2.1.1 x.2.1.2.1.1 x.2.1.2.1.2.1 x.2.1.2.1.2.2.1 x.2.1.2.1.2.2.2.1 x.2.1.2.2.1 x.2.1.2.2.2.1, fun (x : ((Nat × Nat × Nat × (Nat → Int) × (Nat → Int) × (Nat → Int) × Unit) × (Nat × Nat × Nat × (Nat → Bool) × Unit) × Unit) × (ByteArray × (Nat × Nat × Nat × (Nat → Int) × Unit) × Int × Int × Unit) × Unit) => (fun (ar nr mr : Nat) (tr : Nat → Int) (vr : Nat → Int) (gr : Nat → Int) (ao no mo : Nat) (to : Nat → Bool) (cn : ByteArray) (aq nq mq : Nat) (tq : Nat → Int) (rp : Int) (fl : Int) => (V123 ar nr mr tr vr gr ao no mo to cn aq nq mq tq rp fl) (S.leaS (S.botE (S.magE nr (fun j => tr (j + ar)) (fun j => vr (j + ar)) (fun j => gr (j + ar)) no) (S.cyE cn nq (fun j => tq (j + aq)) rp fl)) (fun i => S.erB (fun j => tr (j + ar)) (fun j => vr (j + ar)) i (fun j => S.at' (S.stpL nq (fun j => tq (j + aq)) rp fl) j) 0 nr) (S.stpL nq (fun j => tq (j + aq)) rp fl).length)) x.1.1.1 x.1.1.2.1 x.1.1.2.2.1 x.1.1.2.2.2.1 x.1.1.2.2.2.2.1 x.1.1.2.2.2.2.2.1 x.1.2.1.1 x.1.2.1.2.1 x.1.2.1.2.2.1 x.1.2.1.2.2.2.1 x.2.1.1 x.2.1.2.1.1 x.2.1.2.1.2.1 x.2.1.2.1.2.2.1 x.2.1.2.1.2.2.2.1 x.2.1.2.2.1 x.2.1.2.2.2.1, fun (x : ((Nat × Nat × Nat × (Nat → Int) × (Nat → Int) × (Nat → Int) × Unit) × (Nat × Nat × Nat × (Nat → Bool) × Unit) × Unit) × (ByteArray × (Nat × Nat × Nat × (Nat → Int) × Unit) × Int × Int × Unit) × Unit) => (fun (ar nr mr : Nat) (tr : Nat → Int) (vr : Nat → Int) (gr : Nat → Int) (ao no mo : Nat) (to : Nat → Bool) (cn : ByteArray) (aq nq mq : Nat) (tq : Nat → Int) (rp : Int) (fl : Int) => (N123 ar nr mr tr vr gr ao no mo to cn aq nq mq tq rp fl) (S.leaS (S.botE (S.magE nr (fun j => tr (j + ar)) (fun j => vr (j + ar)) (fun j => gr (j + ar)) no) (S.cyE cn nq (fun j => tq (j + aq)) rp fl)) (fun i => S.erB (fun j => tr (j + ar)) (fun j => vr (j + ar)) i (fun j => S.at' (S.stpL nq (fun j => tq (j + aq)) rp fl) j) 0 nr) (S.stpL nq (fun j => tq (j + aq)) rp fl).length)) x.1.1.1 x.1.1.2.1 x.1.1.2.2.1 x.1.1.2.2.2.1 x.1.1.2.2.2.2.1 x.1.1.2.2.2.2.2.1 x.1.2.1.1 x.1.2.1.2.1 x.1.2.1.2.2.1 x.1.2.1.2.2.2.1 x.2.1.1 x.2.1.2.1.1 x.2.1.2.1.2.1 x.2.1.2.1.2.2.1 x.2.1.2.1.2.2.2.1 x.2.1.2.2.1 x.2.1.2.2.2.1, fun _ _ => .dead⟩
theorem s123' (ar nr mr : Nat) (tr : Nat → Int) (vr : Nat → Int) (gr : Nat → Int) (ao no mo : Nat) (to : Nat → Bool) (cn : ByteArray) (aq nq mq : Nat) (tq : Nat → Int) (rp : Int) (fl : Int) (hp : (ar + nr ≤ mr ∧ nr ≤ 1000000) ∧ (ao + no ≤ mo ∧ no ≤ 1000000) ∧ (aq + nq ≤ mq ∧ nq ≤ 1000000)) (hm : (S.magE nr (fun j => tr (j + ar)) (fun j => vr (j + ar)) (fun j => gr (j + ar)) no) = 0) (L : List Int) (hl : L.length ≤ 181) (hv : ∀ j, j < L.length → -1099511627776 ≤ S.at' L j ∧ S.at' L j ≤ 1099511627776) : ∀ (k i : Nat), i + k = L.length + 1 → Comes (q123 ar nr mr tr vr gr ao no mo to cn aq nq mq tq rp fl) (.h0 (i : Int) L) (S.leaK (fun i => S.erB (fun j => tr (j + ar)) (fun j => vr (j + ar)) i (fun j => S.at' L j) 0 nr) i k) := by
  obtain ⟨⟨hp1, hp2⟩, ⟨hp5, hp6⟩, hp3, hp4⟩ := hp
  intro k
  induction k with
  | zero =>
    intro i hi
    apply Comes.of
    show Goes _ _ _
    (first | rw [q123] | unfold q123)
    repeat' first
      | with_reducible refine goes_if (fun h => ?_) (fun h => ?_) <;> (try simp only [lim64, imp_false, decide_eq_true_eq, decide_eq_false_iff_not, Int.toNat_natCast, toNat_pred, toNat_succ, Option.getD_some, Option.getD_none, Bool.not_eq_true', Bool.not_eq_false', Bool.and_eq_true, Bool.or_eq_true, Bool.and_eq_false_iff, Bool.or_eq_false_iff, bne_iff_ne, beq_iff_eq, bne_eq_false_iff_eq, beq_eq_false_iff_ne, ne_eq, not_and, Int.not_le, Int.not_lt, ge_iff_le, gt_iff_lt, Nat.not_lt, Nat.not_le, Bool.not_eq_true, Bool.not_eq_false, Bool.true_eq_false, Bool.false_eq_true, not_false_eq_true, not_true_eq_false] at h)
      | exact goes_none.mpr (by omega)
    all_goals first | (exfalso; omega) | exact goes_inr.mpr rfl
  | succ k ih =>
    intro i hi
    have ih := ih (i + 1) (by omega)
    have he : S.erS nr (fun j => tr (j + ar)) (fun j => vr (j + ar)) (fun j => gr (j + ar)) no i (fun j => S.at' L j) = (S.erB (fun j => tr (j + ar)) (fun j => vr (j + ar)) i (fun j => S.at' L j) 0 nr, 0) := er_in hm (by omega) (fun j hj => hv j (by omega))
    simp only [S.leaK]
    rcases Bool.eq_false_or_eq_true (S.erB (fun j => tr (j + ar)) (fun j => vr (j + ar)) i (fun j => S.at' L j) 0 nr) with hA | hA
    · rw [if_pos hA]
      apply Comes.of
      show Goes _ _ _
      rw [q123]
      simp only [Int.toNat_natCast, he, hA]
      clear he hA ih
      show Goes _ _ _
      repeat' first
       | with_reducible refine goes_if (fun h => ?_) (fun h => ?_) <;> (try simp only [lim64, imp_false, decide_eq_true_eq, decide_eq_false_iff_not, Int.toNat_natCast, toNat_pred, toNat_succ, Option.getD_some, Option.getD_none, Bool.not_eq_true', Bool.not_eq_false', Bool.and_eq_true, Bool.or_eq_true, Bool.and_eq_false_iff, Bool.or_eq_false_iff, bne_iff_ne, beq_iff_eq, bne_eq_false_iff_eq, beq_eq_false_iff_ne, ne_eq, not_and, Int.not_le, Int.not_lt, ge_iff_le, gt_iff_lt, Nat.not_lt, Nat.not_le, Bool.not_eq_true, Bool.not_eq_false, Bool.true_eq_false, Bool.false_eq_true, not_false_eq_true, not_true_eq_false] at h)
       | exact goes_none.mpr (by omega)
      all_goals first | (exfalso; omega) | exact goes_inr.mpr rfl | (exfalso; simp_all; done)
    · rw [if_neg (by rw [hA]; exact Bool.false_ne_true)]
      apply Comes.of
      show Goes _ _ _
      rw [q123]
      simp only [Int.toNat_natCast, he, hA]
      clear he hA
      show Goes _ _ _
      repeat' first
       | with_reducible refine goes_if (fun h => ?_) (fun h => ?_) <;> (try simp only [lim64, imp_false, decide_eq_true_eq, decide_eq_false_iff_not, Int.toNat_natCast, toNat_pred, toNat_succ, Option.getD_some, Option.getD_none, Bool.not_eq_true', Bool.not_eq_false', Bool.and_eq_true, Bool.or_eq_true, Bool.and_eq_false_iff, Bool.or_eq_false_iff, bne_iff_ne, beq_iff_eq, bne_eq_false_iff_eq, beq_eq_false_iff_ne, ne_eq, not_and, Int.not_le, Int.not_lt, ge_iff_le, gt_iff_lt, Nat.not_lt, Nat.not_le, Bool.not_eq_true, Bool.not_eq_false, Bool.true_eq_false, Bool.false_eq_true, not_false_eq_true, not_true_eq_false] at h)
       | exact goes_none.mpr (by omega)
      all_goals first | (exfalso; omega) | exact ih | (exfalso; simp_all; done)
theorem s123 (ar nr mr : Nat) (tr : Nat → Int) (vr : Nat → Int) (gr : Nat → Int) (ao no mo : Nat) (to : Nat → Bool) (cn : ByteArray) (aq nq mq : Nat) (tq : Nat → Int) (rp : Int) (fl : Int) (hp : (ar + nr ≤ mr ∧ nr ≤ 1000000) ∧ (ao + no ≤ mo ∧ no ≤ 1000000) ∧ (aq + nq ≤ mq ∧ nq ≤ 1000000)) : Goes ((q123 ar nr mr tr vr gr ao no mo to cn aq nq mq tq rp fl)) ((p123 ar nr mr tr vr gr ao no mo to cn aq nq mq tq rp fl)) (S.leaS (S.botE (S.magE nr (fun j => tr (j + ar)) (fun j => vr (j + ar)) (fun j => gr (j + ar)) no) (S.cyE cn nq (fun j => tq (j + aq)) rp fl)) (fun i => S.erB (fun j => tr (j + ar)) (fun j => vr (j + ar)) i (fun j => S.at' (S.stpL nq (fun j => tq (j + aq)) rp fl) j) 0 nr) (S.stpL nq (fun j => tq (j + aq)) rp fl).length) := by
  unfold S.leaS S.botE
  by_cases hm : (S.magE nr (fun j => tr (j + ar)) (fun j => vr (j + ar)) (fun j => gr (j + ar)) no) = 0
  · by_cases hy : (S.cyE cn nq (fun j => tq (j + aq)) rp fl) = 0
    · have hst := stp_in hy
      have hc := cy_ok hy
      have hg := s123' ar nr mr tr vr gr ao no mo to cn aq nq mq tq rp fl hp hm (S.stpL nq (fun j => tq (j + aq)) rp fl) hst.1 hst.2.2 (S.stpL nq (fun j => tq (j + aq)) rp fl).length 1 (Nat.add_comm _ _)
      obtain ⟨⟨hp1, hp2⟩, ⟨hp5, hp6⟩, hp3, hp4⟩ := hp
      rw [if_pos hm, if_pos hy]
      unfold p123
      simp only [hm, hy]
      show Goes _ _ _
      repeat' first
        | with_reducible refine goes_if (fun h => ?_) (fun h => ?_) <;> (try simp only [lim64, imp_false, decide_eq_true_eq, decide_eq_false_iff_not, Int.toNat_natCast, toNat_pred, toNat_succ, Option.getD_some, Option.getD_none, Bool.not_eq_true', Bool.not_eq_false', Bool.and_eq_true, Bool.or_eq_true, Bool.and_eq_false_iff, Bool.or_eq_false_iff, bne_iff_ne, beq_iff_eq, bne_eq_false_iff_eq, beq_eq_false_iff_ne, ne_eq, not_and, Int.not_le, Int.not_lt, ge_iff_le, gt_iff_lt, Nat.not_lt, Nat.not_le, Bool.not_eq_true, Bool.not_eq_false, Bool.true_eq_false, Bool.false_eq_true, not_false_eq_true, not_true_eq_false] at h)
        | exact goes_none.mpr (by omega)
      all_goals first | (exfalso; omega) | exact hg | (exfalso; simp_all; done)
    · obtain ⟨⟨hp1, hp2⟩, ⟨hp5, hp6⟩, hp3, hp4⟩ := hp
      rw [if_pos hm, if_neg hy]
      unfold p123
      simp only [hm]
      generalize (S.cyE cn nq (fun j => tq (j + aq)) rp fl) = e at *
      show Goes _ _ _
      repeat' first
        | with_reducible refine goes_if (fun h => ?_) (fun h => ?_) <;> (try simp only [lim64, imp_false, decide_eq_true_eq, decide_eq_false_iff_not, Int.toNat_natCast, toNat_pred, toNat_succ, Option.getD_some, Option.getD_none, Bool.not_eq_true', Bool.not_eq_false', Bool.and_eq_true, Bool.or_eq_true, Bool.and_eq_false_iff, Bool.or_eq_false_iff, bne_iff_ne, beq_iff_eq, bne_eq_false_iff_eq, beq_eq_false_iff_ne, ne_eq, not_and, Int.not_le, Int.not_lt, ge_iff_le, gt_iff_lt, Nat.not_lt, Nat.not_le, Bool.not_eq_true, Bool.not_eq_false, Bool.true_eq_false, Bool.false_eq_true, not_false_eq_true, not_true_eq_false] at h)
        | exact goes_none.mpr (by omega)
      all_goals first | (exfalso; omega) | exact goes_inr.mpr rfl | (exfalso; simp_all; done)
  · obtain ⟨⟨hp1, hp2⟩, ⟨hp5, hp6⟩, hp3, hp4⟩ := hp
    rw [if_neg hm, if_neg hm]
    unfold p123
    generalize (S.magE nr (fun j => tr (j + ar)) (fun j => vr (j + ar)) (fun j => gr (j + ar)) no) = e at *
    show Goes _ _ _
    repeat' first
      | with_reducible refine goes_if (fun h => ?_) (fun h => ?_) <;> (try simp only [lim64, imp_false, decide_eq_true_eq, decide_eq_false_iff_not, Int.toNat_natCast, toNat_pred, toNat_succ, Option.getD_some, Option.getD_none, Bool.not_eq_true', Bool.not_eq_false', Bool.and_eq_true, Bool.or_eq_true, Bool.and_eq_false_iff, Bool.or_eq_false_iff, bne_iff_ne, beq_iff_eq, bne_eq_false_iff_eq, beq_eq_false_iff_ne, ne_eq, not_and, Int.not_le, Int.not_lt, ge_iff_le, gt_iff_lt, Nat.not_lt, Nat.not_le, Bool.not_eq_true, Bool.not_eq_false, Bool.true_eq_false, Bool.false_eq_true, not_false_eq_true, not_true_eq_false] at h)
      | exact goes_none.mpr (by omega)
    all_goals first | (exfalso; omega) | exact goes_inr.mpr rfl | (exfalso; simp_all; done)
theorem k123_ok : k123.ok Try.prog := by
  intro x hx
  obtain ⟨⟨⟨ar, nr, mr, tr, vr, gr, _⟩, ⟨ao, no, mo, to, _⟩, _⟩, ⟨cn, ⟨aq, nq, mq, tq, _⟩, rp, fl, _⟩, _⟩ := x
  obtain ⟨h1, h2⟩ := a123 ar nr mr tr vr gr ao no mo to cn aq nq mq tq rp fl (s123 ar nr mr tr vr gr ao no mo to cn aq nq mq tq rp fl (of_dec hx rfl))
  exact ⟨⟨400, (by decide : 3 + 1 + 0 ≤ 400), h1⟩, h2⟩
abbrev St119 := Empty
abbrev Rt119 := Bool
noncomputable def V119 (ar nr mr : Nat) (tr : Nat → Int) (vr : Nat → Int) (gr : Nat → Int) (ao no mo : Nat) (to : Nat → Bool) (r : Rt119) : PV := PV.bool r
noncomputable def N119 (ar nr mr : Nat) (tr : Nat → Int) (vr : Nat → Int) (gr : Nat → Int) (ao no mo : Nat) (to : Nat → Bool) (r : Rt119) : List Blk := []
noncomputable def I119 (ar nr mr : Nat) (tr : Nat → Int) (vr : Nat → Int) (gr : Nat → Int) (ao no mo : Nat) (to : Nat → Bool) : St119 → Hd := fun s => s.elim
noncomputable def q119 (ar nr mr : Nat) (tr : Nat → Int) (vr : Nat → Int) (gr : Nat → Int) (ao no mo : Nat) (to : Nat → Bool) : St119 → Option (St119 ⊕ Rt119) := fun s => s.elim
noncomputable def p119 (ar nr mr : Nat) (tr : Nat → Int) (vr : Nat → Int) (gr : Nat → Int) (ao no mo : Nat) (to : Nat → Bool) : Option (St119 ⊕ Rt119) := bif (decide ((↑nr : Int) ≤ (45 : Int)))
 then (bif (decide ((↑no : Int) ≤ (50 : Int)))
 then (some (.inr (true)))
 else (some (.inr (false))))
 else (some (.inr (false)))
noncomputable def Te119 (test : Bool → Prop → Prop → Prop) (Kst : KS) (Kret : KR) (ar nr mr : Nat) (tr : Nat → Int) (vr : Nat → Int) (gr : Nat → Int) (ao no mo : Nat) (to : Nat → Bool) : Prop :=
  test (decide ((↑nr : Int) ≤ (45 : Int)))
 (test (decide ((↑no : Int) ≤ (50 : Int)))
 (Kret (PV.tf true) ([[(1, false, Blk.cols mo [Col.bool to]),
 (0, false,
 Blk.cols mr
 [Col.int IntKind.i64 tr, Col.int IntKind.i64 vr, Col.int IntKind.i64 gr])]]) (3))
 (Kret (PV.tf false) ([[(1, false, Blk.cols mo [Col.bool to]),
 (0, false,
 Blk.cols mr
 [Col.int IntKind.i64 tr, Col.int IntKind.i64 vr, Col.int IntKind.i64 gr])]]) (3)))
 (Kret (PV.tf false) ([[(1, false, Blk.cols mo [Col.bool to]),
 (0, false,
 Blk.cols mr
 [Col.int IntKind.i64 tr, Col.int IntKind.i64 vr, Col.int IntKind.i64 gr])]]) (3))
set_option maxRecDepth 100000 in
theorem te119 (test : Bool → Prop → Prop → Prop) (Kst : KS) (Kret : KR) (ar nr mr : Nat) (tr : Nat → Int) (vr : Nat → Int) (gr : Nat → Int) (ao no mo : Nat) (to : Nat → Bool) : run test Try.env true noX true 400 ⟨19, [.cd (mkFn Try.f19).body], argT 0 [.agg [.loose ⟨0, 3, ar, 0⟩ nr, .loose ⟨1, 1, ao, 0⟩ no]], [[], [(0, (false, .cols mr [.int .i64 tr, .int .i64 vr, .int .i64 gr])), (1, (false, .cols mo [.bool to]))]], 2⟩ (proj 2 [] Kst Kret) =
  Te119 test Kst Kret ar nr mr tr vr gr ao no mo to := by kernel_rfl
set_option maxRecDepth 100000 in
theorem be119 (ar nr mr : Nat) (tr : Nat → Int) (vr : Nat → Int) (gr : Nat → Int) (ao no mo : Nat) (to : Nat → Bool) (Kst : KS) (Kret : KR) (x : St119 ⊕ Rt119) (hS : HS 2 400 ((I119 ar nr mr tr vr gr ao no mo to)) Kst x) (hR : HR 2 400 ((V119 ar nr mr tr vr gr ao no mo to)) (fun r => [newL (2 + 1) ((N119 ar nr mr tr vr gr ao no mo to) r) ++ [(0, (false, .cols mr [.int .i64 tr, .int .i64 vr, .int .i64 gr])), (1, (false, .cols mo [.bool to]))]]) Kret x) (h : (bif (decide ((↑nr : Int) ≤ (45 : Int)))
 then (bif (decide ((↑no : Int) ≤ (50 : Int)))
 then (some (.inr (true)))
 else (some (.inr (false))))
 else (some (.inr (false))) : Option (St119 ⊕ Rt119)) = some x) : Te119 cond Kst Kret ar nr mr tr vr gr ao no mo to := by
  unfold Te119
  exact bif_split h
   (fun c0 h => bif_split h
   (fun c1 h => ret_at hR _ h (fun n => n) rfl rfl rfl (rn_bool_tf rfl) rfl (entl_bor (use_lo rfl) rfl rfl (entl_bor (use_lo rfl) rfl rfl entl_nil)))
   (fun c1 h => ret_at hR _ h (fun n => n) rfl rfl rfl (rn_bool_tf rfl) rfl (entl_bor (use_lo rfl) rfl rfl (entl_bor (use_lo rfl) rfl rfl entl_nil))))
   (fun c0 h => ret_at hR _ h (fun n => n) rfl rfl rfl (rn_bool_tf rfl) rfl (entl_bor (use_lo rfl) rfl rfl (entl_bor (use_lo rfl) rfl rfl entl_nil)))
theorem a119 (ar nr mr : Nat) (tr : Nat → Int) (vr : Nat → Int) (gr : Nat → Int) (ao no mo : Nat) (to : Nat → Bool) {r : Rt119} (h : Goes ((q119 ar nr mr tr vr gr ao no mo to)) ((p119 ar nr mr tr vr gr ao no mo to)) r) : CallR Try.prog 19 [.agg [.loose ⟨0, 3, ar, 0⟩ nr, .loose ⟨1, 1, ao, 0⟩ no]] [[(0, (false, .cols mr [.int .i64 tr, .int .i64 vr, .int .i64 gr])), (1, (false, .cols mo [.bool to]))]] 2 ((V119 ar nr mr tr vr gr ao no mo to) r) ((fun r => [newL (2 + 1) ((N119 ar nr mr tr vr gr ao no mo to) r) ++ [(0, (false, .cols mr [.int .i64 tr, .int .i64 vr, .int .i64 gr])), (1, (false, .cols mo [.bool to]))]]) r) 400 ∧ ∃ F, Try.prog.funcs[19]? = some F ∧ F.body.isSome = true ∧ (F.name == "runtime.NumGoroutine") = false := by
  refine dec_calls (f := 19) (lo := 2) (hi := 400) (H := [[(0, (false, .cols mr [.int .i64 tr, .int .i64 vr, .int .i64 gr])), (1, (false, .cols mo [.bool to]))]]) (args := [.agg [.loose ⟨0, 3, ar, 0⟩ nr, .loose ⟨1, 1, ao, 0⟩ no]]) Try.envOk Try.mixed noX_ok ((I119 ar nr mr tr vr gr ao no mo to)) ((V119 ar nr mr tr vr gr ao no mo to)) (fun r => [newL (2 + 1) ((N119 ar nr mr tr vr gr ao no mo to) r) ++ [(0, (false, .cols mr [.int .i64 tr, .int .i64 vr, .int .i64 gr])), (1, (false, .cols mo [.bool to]))]]) (fn := mkFn Try.f19) (ts := []) (n := 400) rfl (by decide) (by simp) (names_of rfl) ?_ ?_ ?_ h
  · intro s; exact s.elim
  · intro Kst Kret x hS hR h
    exact Holds.eq (te119 cond Kst Kret ar nr mr tr vr gr ao no mo to) (be119 ar nr mr tr vr gr ao no mo to Kst Kret x hS hR h)
  · intro Kst Kret x hS hR s h; exact s.elim
noncomputable def k119 : Con := ⟨19, [.agg [.list [.int .i64, .int .i64, .int .i64], .list [.bool]]], fun (x : ((Nat × Nat × Nat × (Nat → Int) × (Nat → Int) × (Nat → Int) × Unit) × (Nat × Nat × Nat × (Nat → Bool) × Unit) × Unit) × Unit) => (fun (ar nr mr : Nat) (tr : Nat → Int) (vr : Nat → Int) (gr : Nat → Int) (ao no mo : Nat) (to : Nat → Bool) => decide (True)) x.1.1.1 x.1.1.2.1 x.1.1.2.2.1 x.1.1.2.2.2.1 x.1.1.2.2.2.2.1 x.1.1.2.2.2.2.2.1 x.1.2.1.1 x.1.2.1.2.1 x.1.2.1.2.2.1 x.1.2.1.2.2.2.1, fun (x : ((Nat × Nat × Nat × (Nat → Int) × (Nat → Int) × (Nat → Int) × Unit) × (Nat × Nat × Nat × (Nat → Bool) × Unit) × Unit) × Unit) => (fun (ar nr mr : Nat) (tr : Nat → Int) (vr : Nat → Int) (gr : Nat → Int) (ao no mo : Nat) (to : Nat → Bool) => (V119 ar nr mr tr vr gr ao no mo to) (decide (nr ≤ 45 ∧ no ≤ 50))) x.1.1.1 x.1.1.2.1 x.1.1.2.2.1 x.1.1.2.2.2.1 x.1.1.2.2.2.2.1 x.1.1.2.2.2.2.2.1 x.1.2.1.1 x.1.2.1.2.1 x.1.2.1.2.2.1 x.1.2.1.2.2.2.1, fun (x : ((Nat × Nat × Nat × (Nat → Int) × (Nat → Int) × (Nat → Int) × Unit) × (Nat × Nat × Nat × (Nat → Bool) × Unit) × Unit) × Unit) => (fun (ar nr mr : Nat) (tr : Nat → Int) (vr : Nat → Int) (gr : Nat → Int) (ao no mo : Nat) (to : Nat → Bool) => (N119 ar nr mr tr vr gr ao no mo to) (decide (nr ≤ 45 ∧ no ≤ 50))) x.1.1.1 x.1.1.2.1 x.1.1.2.2.1 x.1.1.2.2.2.1 x.1.1.2.2.2.2.1 x.1.1.2.2.2.2.2.1 x.1.2.1.1 x.1.2.1.2.1 x.1.2.1.2.2.1 x.1.2.1.2.2.2.1, fun _ _ => .dead⟩
theorem s119 (ar nr mr : Nat) (tr : Nat → Int) (vr : Nat → Int) (gr : Nat → Int) (ao no mo : Nat) (to : Nat → Bool) (hp : True) : Goes ((q119 ar nr mr tr vr gr ao no mo to)) ((p119 ar nr mr tr vr gr ao no mo to)) (decide (nr ≤ 45 ∧ no ≤ 50)) := by
  show Goes _ _ _
  unfold p119
  repeat' first
    | with_reducible refine goes_if (fun h => ?_) (fun h => ?_) <;> (try simp only [lim64, imp_false, decide_eq_true_eq, decide_eq_false_iff_not, Int.toNat_natCast, toNat_pred, toNat_succ, Option.getD_some, Option.getD_none, Bool.not_eq_true', Bool.not_eq_false', Bool.and_eq_true, Bool.or_eq_true, Bool.and_eq_false_iff, Bool.or_eq_false_iff, bne_iff_ne, beq_iff_eq, bne_eq_false_iff_eq, beq_eq_false_iff_ne, ne_eq, not_and, Int.not_le, Int.not_lt, ge_iff_le, gt_iff_lt, Nat.not_lt, Nat.not_le, Bool.not_eq_true, Bool.not_eq_false, Bool.true_eq_false, Bool.false_eq_true, not_false_eq_true, not_true_eq_false] at h)
    | exact goes_none.mpr (by omega)
  all_goals first | (exfalso; omega) | (refine goes_inr.mpr ?_; first | exact (decide_eq_true (by omega)).symm | exact (decide_eq_false (by omega)).symm)
theorem k119_ok : k119.ok Try.prog := by
  intro x hx
  obtain ⟨⟨⟨ar, nr, mr, tr, vr, gr, _⟩, ⟨ao, no, mo, to, _⟩, _⟩, _⟩ := x
  obtain ⟨h1, h2⟩ := a119 ar nr mr tr vr gr ao no mo to (s119 ar nr mr tr vr gr ao no mo to (of_dec hx rfl))
  exact ⟨⟨400, (by decide : 2 + 1 + 0 ≤ 400), h1⟩, h2⟩
noncomputable def xC4 (test : Bool → Prop → Prop → Prop) : Ext := consX test [k111, k112, k114, k119, k120, k121, k122, k123]
theorem xC4_ok : ExtOk Try.prog (xC4 cond) := consX_ok ⟨k111_ok, k112_ok, k114_ok, k119_ok, k120_ok, k121_ok, k122_ok, k123_ok, trivial⟩
theorem curE_congr {e : Int} {t t' : Nat → Int} : ∀ {k i n : Nat}, i + k ≤ n → (∀ j, j < n → t j = t' j) → S.curE e t i k = S.curE e t' i k
  | 0, _, _, _, _ => rfl
  | k + 1, i, n, hn, h => by
    simp only [S.curE]
    rw [h i (by omega), curE_congr (k := k) (i := i + 1) (n := n) (by omega) h]
    by_cases h0 : 0 < i
    · rw [h (i - 1) (by omega)]
    · simp only [h0, false_and, if_false]
theorem cy_mkl {cn : ByteArray} {n : Nat} {t : Nat → Int} {rp fl : Int} : S.cyE cn n (fun j => S.at' (S.mkl n t) j) rp fl = S.cyE cn n t rp fl := by
  unfold S.cyE
  by_cases h : n < 2
  · simp only [h, if_true]
  · simp only [at_mkl (show n - 1 < n by omega), curE_congr (n := n) (t' := t) (show 0 + n ≤ n by omega) fun j hj => at_mkl hj]
theorem stp_mkl {n : Nat} {t : Nat → Int} {rp fl : Int} : S.stpL n (fun j => S.at' (S.mkl n t) j) rp fl = S.stpL n t rp fl := by
  unfold S.stpL
  rw [mkl_congr fun j hj => ?_]
  have : 0 < n := by
    rcases Nat.eq_zero_or_pos n with h | h
    · rw [h, Nat.zero_mul] at hj; omega
    · exact h
  exact at_mkl (Nat.mod_lt _ this)
theorem few_n {cn : ByteArray} {n l : Nat} (h : S.fewC cn n l = true) : n ≤ 25 ∧ l ≤ 510 := by have := of_decide_eq_true h; omega
abbrev St104 := Empty
abbrev Rt104 := Bool
noncomputable def V104 (ar nr mr : Nat) (tr : Nat → Int) (vr : Nat → Int) (gr : Nat → Int) (ao no mo : Nat) (to : Nat → Bool) (cn : ByteArray) (aq nq mq : Nat) (tq : Nat → Int) (rp : Int) (fl : Int) (r : Rt104) : PV := PV.bool r
noncomputable def N104 (ar nr mr : Nat) (tr : Nat → Int) (vr : Nat → Int) (gr : Nat → Int) (ao no mo : Nat) (to : Nat → Bool) (cn : ByteArray) (aq nq mq : Nat) (tq : Nat → Int) (rp : Int) (fl : Int) (r : Rt104) : List Blk := []
noncomputable def I104 (ar nr mr : Nat) (tr : Nat → Int) (vr : Nat → Int) (gr : Nat → Int) (ao no mo : Nat) (to : Nat → Bool) (cn : ByteArray) (aq nq mq : Nat) (tq : Nat → Int) (rp : Int) (fl : Int) : St104 → Hd := fun s => s.elim
noncomputable def q104 (ar nr mr : Nat) (tr : Nat → Int) (vr : Nat → Int) (gr : Nat → Int) (ao no mo : Nat) (to : Nat → Bool) (cn : ByteArray) (aq nq mq : Nat) (tq : Nat → Int) (rp : Int) (fl : Int) : St104 → Option (St104 ⊕ Rt104) := fun s => s.elim
noncomputable def p104 (ar nr mr : Nat) (tr : Nat → Int) (vr : Nat → Int) (gr : Nat → Int) (ao no mo : Nat) (to : Nat → Bool) (cn : ByteArray) (aq nq mq : Nat) (tq : Nat → Int) (rp : Int) (fl : Int) : Option (St104 ⊕ Rt104) := bif (S.fewC cn nq (0))
 then (bif (decide (nr ≤ 45 ∧ no ≤ 50))
 then (bif (decide (aq + nq ≤ mq ∧ nq ≤ 1000000))
 then (bif (decide
 ((ar + nr ≤ mr ∧ nr ≤ 1000000) ∧
 (ao + no ≤ mo ∧ no ≤ 1000000) ∧
 0 + List.length (S.mkl nq fun (j : Nat) => tq (j + aq)) ≤
 List.length (S.mkl nq fun (j : Nat) => tq (j + aq)) ∧
 List.length (S.mkl nq fun (j : Nat) => tq (j + aq)) ≤ 1000000))
 then (bif (Prod.fst
 (S.suiS
 (S.botE
 (S.magE nr (fun (j : Nat) => tr (j + ar)) (fun (j : Nat) => vr (j + ar)) (fun (j : Nat) => gr (j + ar)) no)
 (S.cyE cn (List.length (S.mkl nq fun (j : Nat) => tq (j + aq)))
 (fun (j : Nat) => S.at' (S.mkl nq fun (j : Nat) => tq (j + aq)) j) rp fl))
 (S.erB (fun (j : Nat) => tr (j + ar)) (fun (j : Nat) => vr (j + ar))
 (List.length
 (S.stpL (List.length (S.mkl nq fun (j : Nat) => tq (j + aq)))
 (fun (j : Nat) => S.at' (S.mkl nq fun (j : Nat) => tq (j + aq)) j) rp fl))
 (fun (j : Nat) =>
 S.at'
 (S.stpL (List.length (S.mkl nq fun (j : Nat) => tq (j + aq)))
 (fun (j : Nat) => S.at' (S.mkl nq fun (j : Nat) => tq (j + aq)) j) rp fl)
 j)
 (0) nr)))
 then (bif (decide
 ((ar + nr ≤ mr ∧ nr ≤ 1000000) ∧ (ao + no ≤ mo ∧ no ≤ 1000000) ∧ aq + nq ≤ mq ∧ nq ≤ 1000000))
 then (bif (Prod.fst
 (S.suiS
 (S.botE
 (S.magE nr (fun (j : Nat) => tr (j + ar)) (fun (j : Nat) => vr (j + ar)) (fun (j : Nat) => gr (j + ar)) no)
 (S.cyE cn nq (fun (j : Nat) => tq (j + aq)) rp fl))
 (S.erB (fun (j : Nat) => tr (j + ar)) (fun (j : Nat) => vr (j + ar))
 (List.length (S.stpL nq (fun (j : Nat) => tq (j + aq)) rp fl))
 (fun (j : Nat) => S.at' (S.stpL nq (fun (j : Nat) => tq (j + aq)) rp fl) j) (0) nr)))
 then (bif (Prod.snd
 (S.suiS
 (S.botE
 (S.magE nr (fun (j : Nat) => tr (j + ar)) (fun (j : Nat) => vr (j + ar)) (fun (j : Nat) => gr (j + ar))
 no)
 (S.cyE cn (List.length (S.mkl nq fun (j : Nat) => tq (j + aq)))
 (fun (j : Nat) => S.at' (S.mkl nq fun (j : Nat) => tq (j + aq)) j) rp fl))
 (S.erB (fun (j : Nat) => tr (j + ar)) (fun (j : Nat) => vr (j + ar))
 (List.length
 (S.stpL (List.length (S.mkl nq fun (j : Nat) => tq (j + aq)))
 (fun (j : Nat) => S.at' (S.mkl nq fun (j : Nat) => tq (j + aq)) j) rp fl))
 (fun (j : Nat) =>
 S.at'
 (S.stpL (List.length (S.mkl nq fun (j : Nat) => tq (j + aq)))
 (fun (j : Nat) => S.at' (S.mkl nq fun (j : Nat) => tq (j + aq)) j) rp fl)
 j)
 (0) nr)) ==
 Prod.snd
 (S.suiS
 (S.botE
 (S.magE nr (fun (j : Nat) => tr (j + ar)) (fun (j : Nat) => vr (j + ar)) (fun (j : Nat) => gr (j + ar))
 no)
 (S.cyE cn nq (fun (j : Nat) => tq (j + aq)) rp fl))
 (S.erB (fun (j : Nat) => tr (j + ar)) (fun (j : Nat) => vr (j + ar))
 (List.length (S.stpL nq (fun (j : Nat) => tq (j + aq)) rp fl))
 (fun (j : Nat) => S.at' (S.stpL nq (fun (j : Nat) => tq (j + aq)) rp fl) j) (0) nr)))
 then (bif (Prod.fst
 (S.leaS
 (S.botE
 (S.magE nr (fun (j : Nat) => tr (j + ar)) (fun (j : Nat) => vr (j + ar)) (fun (j : Nat) => gr (j + ar))
 no)
 (S.cyE cn (List.length (S.mkl nq fun (j : Nat) => tq (j + aq)))
 (fun (j : Nat) => S.at' (S.mkl nq fun (j : Nat) => tq (j + aq)) j) rp fl))
 (fun (i : Nat) =>
 S.erB (fun (j : Nat) => tr (j + ar)) (fun (j : Nat) => vr (j + ar)) i
 (fun (j : Nat) =>
 S.at'
 (S.stpL (List.length (S.mkl nq fun (j : Nat) => tq (j + aq)))
 (fun (j : Nat) => S.at' (S.mkl nq fun (j : Nat) => tq (j + aq)) j) rp fl)
 j)
 (0) nr)
 (List.length
 (S.stpL (List.length (S.mkl nq fun (j : Nat) => tq (j + aq)))
 (fun (j : Nat) => S.at' (S.mkl nq fun (j : Nat) => tq (j + aq)) j) rp fl))) ==
 Prod.fst
 (S.leaS
 (S.botE
 (S.magE nr (fun (j : Nat) => tr (j + ar)) (fun (j : Nat) => vr (j + ar)) (fun (j : Nat) => gr (j + ar))
 no)
 (S.cyE cn nq (fun (j : Nat) => tq (j + aq)) rp fl))
 (fun (i : Nat) =>
 S.erB (fun (j : Nat) => tr (j + ar)) (fun (j : Nat) => vr (j + ar)) i
 (fun (j : Nat) => S.at' (S.stpL nq (fun (j : Nat) => tq (j + aq)) rp fl) j) (0) nr)
 (List.length (S.stpL nq (fun (j : Nat) => tq (j + aq)) rp fl))))
 then (bif (Prod.snd
 (S.leaS
 (S.botE
 (S.magE nr (fun (j : Nat) => tr (j + ar)) (fun (j : Nat) => vr (j + ar)) (fun (j : Nat) => gr (j + ar))
 no)
 (S.cyE cn (List.length (S.mkl nq fun (j : Nat) => tq (j + aq)))
 (fun (j : Nat) => S.at' (S.mkl nq fun (j : Nat) => tq (j + aq)) j) rp fl))
 (fun (i : Nat) =>
 S.erB (fun (j : Nat) => tr (j + ar)) (fun (j : Nat) => vr (j + ar)) i
 (fun (j : Nat) =>
 S.at'
 (S.stpL (List.length (S.mkl nq fun (j : Nat) => tq (j + aq)))
 (fun (j : Nat) => S.at' (S.mkl nq fun (j : Nat) => tq (j + aq)) j) rp fl)
 j)
 (0) nr)
 (List.length
 (S.stpL (List.length (S.mkl nq fun (j : Nat) => tq (j + aq)))
 (fun (j : Nat) => S.at' (S.mkl nq fun (j : Nat) => tq (j + aq)) j) rp fl))) ==
 Prod.snd
 (S.leaS
 (S.botE
 (S.magE nr (fun (j : Nat) => tr (j + ar)) (fun (j : Nat) => vr (j + ar)) (fun (j : Nat) => gr (j + ar))
 no)
 (S.cyE cn nq (fun (j : Nat) => tq (j + aq)) rp fl))
 (fun (i : Nat) =>
 S.erB (fun (j : Nat) => tr (j + ar)) (fun (j : Nat) => vr (j + ar)) i
 (fun (j : Nat) => S.at' (S.stpL nq (fun (j : Nat) => tq (j + aq)) rp fl) j) (0) nr)
 (List.length (S.stpL nq (fun (j : Nat) => tq (j + aq)) rp fl))))
 then (some (.inr (true)))
 else (some (.inr (false))))
 else (some (.inr (false))))
 else (some (.inr (false))))
 else (some (.inr (false))))
 else (none))
 else (bif (decide
 ((ar + nr ≤ mr ∧ nr ≤ 1000000) ∧ (ao + no ≤ mo ∧ no ≤ 1000000) ∧ aq + nq ≤ mq ∧ nq ≤ 1000000))
 then (bif (Prod.fst
 (S.suiS
 (S.botE
 (S.magE nr (fun (j : Nat) => tr (j + ar)) (fun (j : Nat) => vr (j + ar)) (fun (j : Nat) => gr (j + ar)) no)
 (S.cyE cn nq (fun (j : Nat) => tq (j + aq)) rp fl))
 (S.erB (fun (j : Nat) => tr (j + ar)) (fun (j : Nat) => vr (j + ar))
 (List.length (S.stpL nq (fun (j : Nat) => tq (j + aq)) rp fl))
 (fun (j : Nat) => S.at' (S.stpL nq (fun (j : Nat) => tq (j + aq)) rp fl) j) (0) nr)))
 then (some (.inr (false)))
 else (bif (Prod.snd
 (S.suiS
 (S.botE
 (S.magE nr (fun (j : Nat) => tr (j + ar)) (fun (j : Nat) => vr (j + ar)) (fun (j : Nat) => gr (j + ar))
 no)
 (S.cyE cn (List.length (S.mkl nq fun (j : Nat) => tq (j + aq)))
 (fun (j : Nat) => S.at' (S.mkl nq fun (j : Nat) => tq (j + aq)) j) rp fl))
 (S.erB (fun (j : Nat) => tr (j + ar)) (fun (j : Nat) => vr (j + ar))
 (List.length
 (S.stpL (List.length (S.mkl nq fun (j : Nat) => tq (j + aq)))
 (fun (j : Nat) => S.at' (S.mkl nq fun (j : Nat) => tq (j + aq)) j) rp fl))
 (fun (j : Nat) =>
 S.at'
 (S.stpL (List.length (S.mkl nq fun (j : Nat) => tq (j + aq)))
 (fun (j : Nat) => S.at' (S.mkl nq fun (j : Nat) => tq (j + aq)) j) rp fl)
 j)
 (0) nr)) ==
 Prod.snd
 (S.suiS
 (S.botE
 (S.magE nr (fun (j : Nat) => tr (j + ar)) (fun (j : Nat) => vr (j + ar)) (fun (j : Nat) => gr (j + ar))
 no)
 (S.cyE cn nq (fun (j : Nat) => tq (j + aq)) rp fl))
 (S.erB (fun (j : Nat) => tr (j + ar)) (fun (j : Nat) => vr (j + ar))
 (List.length (S.stpL nq (fun (j : Nat) => tq (j + aq)) rp fl))
 (fun (j : Nat) => S.at' (S.stpL nq (fun (j : Nat) => tq (j + aq)) rp fl) j) (0) nr)))
 then (bif (Prod.fst
 (S.leaS
 (S.botE
 (S.magE nr (fun (j : Nat) => tr (j + ar)) (fun (j : Nat) => vr (j + ar)) (fun (j : Nat) => gr (j + ar))
 no)
 (S.cyE cn (List.length (S.mkl nq fun (j : Nat) => tq (j + aq)))
 (fun (j : Nat) => S.at' (S.mkl nq fun (j : Nat) => tq (j + aq)) j) rp fl))
 (fun (i : Nat) =>
 S.erB (fun (j : Nat) => tr (j + ar)) (fun (j : Nat) => vr (j + ar)) i
 (fun (j : Nat) =>
 S.at'
 (S.stpL (List.length (S.mkl nq fun (j : Nat) => tq (j + aq)))
 (fun (j : Nat) => S.at' (S.mkl nq fun (j : Nat) => tq (j + aq)) j) rp fl)
 j)
 (0) nr)
 (List.length
 (S.stpL (List.length (S.mkl nq fun (j : Nat) => tq (j + aq)))
 (fun (j : Nat) => S.at' (S.mkl nq fun (j : Nat) => tq (j + aq)) j) rp fl))) ==
 Prod.fst
 (S.leaS
 (S.botE
 (S.magE nr (fun (j : Nat) => tr (j + ar)) (fun (j : Nat) => vr (j + ar)) (fun (j : Nat) => gr (j + ar))
 no)
 (S.cyE cn nq (fun (j : Nat) => tq (j + aq)) rp fl))
 (fun (i : Nat) =>
 S.erB (fun (j : Nat) => tr (j + ar)) (fun (j : Nat) => vr (j + ar)) i
 (fun (j : Nat) => S.at' (S.stpL nq (fun (j : Nat) => tq (j + aq)) rp fl) j) (0) nr)
 (List.length (S.stpL nq (fun (j : Nat) => tq (j + aq)) rp fl))))
 then (bif (Prod.snd
 (S.leaS
 (S.botE
 (S.magE nr (fun (j : Nat) => tr (j + ar)) (fun (j : Nat) => vr (j + ar)) (fun (j : Nat) => gr (j + ar))
 no)
 (S.cyE cn (List.length (S.mkl nq fun (j : Nat) => tq (j + aq)))
 (fun (j : Nat) => S.at' (S.mkl nq fun (j : Nat) => tq (j + aq)) j) rp fl))
 (fun (i : Nat) =>
 S.erB (fun (j : Nat) => tr (j + ar)) (fun (j : Nat) => vr (j + ar)) i
 (fun (j : Nat) =>
 S.at'
 (S.stpL (List.length (S.mkl nq fun (j : Nat) => tq (j + aq)))
 (fun (j : Nat) => S.at' (S.mkl nq fun (j : Nat) => tq (j + aq)) j) rp fl)
 j)
 (0) nr)
 (List.length
 (S.stpL (List.length (S.mkl nq fun (j : Nat) => tq (j + aq)))
 (fun (j : Nat) => S.at' (S.mkl nq fun (j : Nat) => tq (j + aq)) j) rp fl))) ==
 Prod.snd
 (S.leaS
 (S.botE
 (S.magE nr (fun (j : Nat) => tr (j + ar)) (fun (j : Nat) => vr (j + ar)) (fun (j : Nat) => gr (j + ar))
 no)
 (S.cyE cn nq (fun (j : Nat) => tq (j + aq)) rp fl))
 (fun (i : Nat) =>
 S.erB (fun (j : Nat) => tr (j + ar)) (fun (j : Nat) => vr (j + ar)) i
 (fun (j : Nat) => S.at' (S.stpL nq (fun (j : Nat) => tq (j + aq)) rp fl) j) (0) nr)
 (List.length (S.stpL nq (fun (j : Nat) => tq (j + aq)) rp fl))))
 then (some (.inr (true)))
 else (some (.inr (false))))
 else (some (.inr (false))))
 else (some (.inr (false)))))
 else (none)))
 else (none))
 else (none))
 else (some (.inr (true))))
 else (some (.inr (true)))
noncomputable def Te104 (test : Bool → Prop → Prop → Prop) (Kst : KS) (Kret : KR) (ar nr mr : Nat) (tr : Nat → Int) (vr : Nat → Int) (gr : Nat → Int) (ao no mo : Nat) (to : Nat → Bool) (cn : ByteArray) (aq nq mq : Nat) (tq : Nat → Int) (rp : Int) (fl : Int) : Prop :=
  test (true)
 (test (true)
 (test (true)
 (test (S.fewC cn nq (0))
 (test (true)
 (test (decide (nr ≤ 45 ∧ no ≤ 50))
 (test (decide (aq + nq ≤ mq ∧ nq ≤ 1000000))
 (test (decide
 ((ar + nr ≤ mr ∧ nr ≤ 1000000) ∧
 (ao + no ≤ mo ∧ no ≤ 1000000) ∧
 0 + List.length (S.mkl nq fun (j : Nat) => tq (j + aq)) ≤
 List.length (S.mkl nq fun (j : Nat) => tq (j + aq)) ∧
 List.length (S.mkl nq fun (j : Nat) => tq (j + aq)) ≤ 1000000))
 (test (Prod.fst
 (S.suiS
 (S.botE
 (S.magE nr (fun (j : Nat) => tr (j + ar)) (fun (j : Nat) => vr (j + ar)) (fun (j : Nat) => gr (j + ar)) no)
 (S.cyE cn (List.length (S.mkl nq fun (j : Nat) => tq (j + aq)))
 (fun (j : Nat) => S.at' (S.mkl nq fun (j : Nat) => tq (j + aq)) j) rp fl))
 (S.erB (fun (j : Nat) => tr (j + ar)) (fun (j : Nat) => vr (j + ar))
 (List.length
 (S.stpL (List.length (S.mkl nq fun (j : Nat) => tq (j + aq)))
 (fun (j : Nat) => S.at' (S.mkl nq fun (j : Nat) => tq (j + aq)) j) rp fl))
 (fun (j : Nat) =>
 S.at'
 (S.stpL (List.length (S.mkl nq fun (j : Nat) => tq (j + aq)))
 (fun (j : Nat) => S.at' (S.mkl nq fun (j : Nat) => tq (j + aq)) j) rp fl)
 j)
 (0) nr)))
 (test (decide
 ((ar + nr ≤ mr ∧ nr ≤ 1000000) ∧ (ao + no ≤ mo ∧ no ≤ 1000000) ∧ aq + nq ≤ mq ∧ nq ≤ 1000000))
 (test (Prod.fst
 (S.suiS
 (S.botE
 (S.magE nr (fun (j : Nat) => tr (j + ar)) (fun (j : Nat) => vr (j + ar)) (fun (j : Nat) => gr (j + ar)) no)
 (S.cyE cn nq (fun (j : Nat) => tq (j + aq)) rp fl))
 (S.erB (fun (j : Nat) => tr (j + ar)) (fun (j : Nat) => vr (j + ar))
 (List.length (S.stpL nq (fun (j : Nat) => tq (j + aq)) rp fl))
 (fun (j : Nat) => S.at' (S.stpL nq (fun (j : Nat) => tq (j + aq)) rp fl) j) (0) nr)))
 (test (decide (aq + nq ≤ mq ∧ nq ≤ 1000000))
 (test (decide
 ((ar + nr ≤ mr ∧ nr ≤ 1000000) ∧
 (ao + no ≤ mo ∧ no ≤ 1000000) ∧
 0 + List.length (S.mkl nq fun (j : Nat) => tq (j + aq)) ≤
 List.length (S.mkl nq fun (j : Nat) => tq (j + aq)) ∧
 List.length (S.mkl nq fun (j : Nat) => tq (j + aq)) ≤ 1000000))
 (test (decide
 ((ar + nr ≤ mr ∧ nr ≤ 1000000) ∧ (ao + no ≤ mo ∧ no ≤ 1000000) ∧ aq + nq ≤ mq ∧ nq ≤ 1000000))
 (test (Prod.snd
 (S.suiS
 (S.botE
 (S.magE nr (fun (j : Nat) => tr (j + ar)) (fun (j : Nat) => vr (j + ar)) (fun (j : Nat) => gr (j + ar))
 no)
 (S.cyE cn (List.length (S.mkl nq fun (j : Nat) => tq (j + aq)))
 (fun (j : Nat) => S.at' (S.mkl nq fun (j : Nat) => tq (j + aq)) j) rp fl))
 (S.erB (fun (j : Nat) => tr (j + ar)) (fun (j : Nat) => vr (j + ar))
 (List.length
 (S.stpL (List.length (S.mkl nq fun (j : Nat) => tq (j + aq)))
 (fun (j : Nat) => S.at' (S.mkl nq fun (j : Nat) => tq (j + aq)) j) rp fl))
 (fun (j : Nat) =>
 S.at'
 (S.stpL (List.length (S.mkl nq fun (j : Nat) => tq (j + aq)))
 (fun (j : Nat) => S.at' (S.mkl nq fun (j : Nat) => tq (j + aq)) j) rp fl)
 j)
 (0) nr)) ==
 Prod.snd
 (S.suiS
 (S.botE
 (S.magE nr (fun (j : Nat) => tr (j + ar)) (fun (j : Nat) => vr (j + ar)) (fun (j : Nat) => gr (j + ar))
 no)
 (S.cyE cn nq (fun (j : Nat) => tq (j + aq)) rp fl))
 (S.erB (fun (j : Nat) => tr (j + ar)) (fun (j : Nat) => vr (j + ar))
 (List.length (S.stpL nq (fun (j : Nat) => tq (j + aq)) rp fl))
 (fun (j : Nat) => S.at' (S.stpL nq (fun (j : Nat) => tq (j + aq)) rp fl) j) (0) nr)))
 (test (Prod.fst
 (S.leaS
 (S.botE
 (S.magE nr (fun (j : Nat) => tr (j + ar)) (fun (j : Nat) => vr (j + ar)) (fun (j : Nat) => gr (j + ar))
 no)
 (S.cyE cn (List.length (S.mkl nq fun (j : Nat) => tq (j + aq)))
 (fun (j : Nat) => S.at' (S.mkl nq fun (j : Nat) => tq (j + aq)) j) rp fl))
 (fun (i : Nat) =>
 S.erB (fun (j : Nat) => tr (j + ar)) (fun (j : Nat) => vr (j + ar)) i
 (fun (j : Nat) =>
 S.at'
 (S.stpL (List.length (S.mkl nq fun (j : Nat) => tq (j + aq)))
 (fun (j : Nat) => S.at' (S.mkl nq fun (j : Nat) => tq (j + aq)) j) rp fl)
 j)
 (0) nr)
 (List.length
 (S.stpL (List.length (S.mkl nq fun (j : Nat) => tq (j + aq)))
 (fun (j : Nat) => S.at' (S.mkl nq fun (j : Nat) => tq (j + aq)) j) rp fl))) ==
 Prod.fst
 (S.leaS
 (S.botE
 (S.magE nr (fun (j : Nat) => tr (j + ar)) (fun (j : Nat) => vr (j + ar)) (fun (j : Nat) => gr (j + ar))
 no)
 (S.cyE cn nq (fun (j : Nat) => tq (j + aq)) rp fl))
 (fun (i : Nat) =>
 S.erB (fun (j : Nat) => tr (j + ar)) (fun (j : Nat) => vr (j + ar)) i
 (fun (j : Nat) => S.at' (S.stpL nq (fun (j : Nat) => tq (j + aq)) rp fl) j) (0) nr)
 (List.length (S.stpL nq (fun (j : Nat) => tq (j + aq)) rp fl))))
 (test (Prod.snd
 (S.leaS
 (S.botE
 (S.magE nr (fun (j : Nat) => tr (j + ar)) (fun (j : Nat) => vr (j + ar)) (fun (j : Nat) => gr (j + ar))
 no)
 (S.cyE cn (List.length (S.mkl nq fun (j : Nat) => tq (j + aq)))
 (fun (j : Nat) => S.at' (S.mkl nq fun (j : Nat) => tq (j + aq)) j) rp fl))
 (fun (i : Nat) =>
 S.erB (fun (j : Nat) => tr (j + ar)) (fun (j : Nat) => vr (j + ar)) i
 (fun (j : Nat) =>
 S.at'
 (S.stpL (List.length (S.mkl nq fun (j : Nat) => tq (j + aq)))
 (fun (j : Nat) => S.at' (S.mkl nq fun (j : Nat) => tq (j + aq)) j) rp fl)
 j)
 (0) nr)
 (List.length
 (S.stpL (List.length (S.mkl nq fun (j : Nat) => tq (j + aq)))
 (fun (j : Nat) => S.at' (S.mkl nq fun (j : Nat) => tq (j + aq)) j) rp fl))) ==
 Prod.snd
 (S.leaS
 (S.botE
 (S.magE nr (fun (j : Nat) => tr (j + ar)) (fun (j : Nat) => vr (j + ar)) (fun (j : Nat) => gr (j + ar))
 no)
 (S.cyE cn nq (fun (j : Nat) => tq (j + aq)) rp fl))
 (fun (i : Nat) =>
 S.erB (fun (j : Nat) => tr (j + ar)) (fun (j : Nat) => vr (j + ar)) i
 (fun (j : Nat) => S.at' (S.stpL nq (fun (j : Nat) => tq (j + aq)) rp fl) j) (0) nr)
 (List.length (S.stpL nq (fun (j : Nat) => tq (j + aq)) rp fl))))
 (Kret (PV.tf true) ([[(2, false, Blk.cols mq [Col.int IntKind.i64 tq]),
 (1, false, Blk.cols mo [Col.bool to]),
 (0, false,
 Blk.cols mr
 [Col.int IntKind.i64 tr, Col.int IntKind.i64 vr, Col.int IntKind.i64 gr])]]) (16))
 (Kret (PV.tf false) ([[(2, false, Blk.cols mq [Col.int IntKind.i64 tq]),
 (1, false, Blk.cols mo [Col.bool to]),
 (0, false,
 Blk.cols mr
 [Col.int IntKind.i64 tr, Col.int IntKind.i64 vr, Col.int IntKind.i64 gr])]]) (16)))
 (Kret (PV.tf false) ([[(2, false, Blk.cols mq [Col.int IntKind.i64 tq]),
 (1, false, Blk.cols mo [Col.bool to]),
 (0, false,
 Blk.cols mr
 [Col.int IntKind.i64 tr, Col.int IntKind.i64 vr, Col.int IntKind.i64 gr])]]) (16)))
 (Kret (PV.tf false) ([[(2, false, Blk.cols mq [Col.int IntKind.i64 tq]),
 (1, false, Blk.cols mo [Col.bool to]),
 (0, false,
 Blk.cols mr
 [Col.int IntKind.i64 tr, Col.int IntKind.i64 vr, Col.int IntKind.i64 gr])]]) (16)))
 (False))
 (False))
 (False))
 (test (decide (aq + nq ≤ mq ∧ nq ≤ 1000000))
 (test (decide
 ((ar + nr ≤ mr ∧ nr ≤ 1000000) ∧
 (ao + no ≤ mo ∧ no ≤ 1000000) ∧
 0 + List.length (S.mkl nq fun (j : Nat) => tq (j + aq)) ≤
 List.length (S.mkl nq fun (j : Nat) => tq (j + aq)) ∧
 List.length (S.mkl nq fun (j : Nat) => tq (j + aq)) ≤ 1000000))
 (test (decide
 ((ar + nr ≤ mr ∧ nr ≤ 1000000) ∧ (ao + no ≤ mo ∧ no ≤ 1000000) ∧ aq + nq ≤ mq ∧ nq ≤ 1000000))
 (Kret (PV.tf false) ([[(2, false, Blk.cols mq [Col.int IntKind.i64 tq]),
 (1, false, Blk.cols mo [Col.bool to]),
 (0, false,
 Blk.cols mr
 [Col.int IntKind.i64 tr, Col.int IntKind.i64 vr, Col.int IntKind.i64 gr])]]) (16))
 (False))
 (False))
 (False)))
 (False))
 (test (decide
 ((ar + nr ≤ mr ∧ nr ≤ 1000000) ∧ (ao + no ≤ mo ∧ no ≤ 1000000) ∧ aq + nq ≤ mq ∧ nq ≤ 1000000))
 (test (Prod.fst
 (S.suiS
 (S.botE
 (S.magE nr (fun (j : Nat) => tr (j + ar)) (fun (j : Nat) => vr (j + ar)) (fun (j : Nat) => gr (j + ar)) no)
 (S.cyE cn nq (fun (j : Nat) => tq (j + aq)) rp fl))
 (S.erB (fun (j : Nat) => tr (j + ar)) (fun (j : Nat) => vr (j + ar))
 (List.length (S.stpL nq (fun (j : Nat) => tq (j + aq)) rp fl))
 (fun (j : Nat) => S.at' (S.stpL nq (fun (j : Nat) => tq (j + aq)) rp fl) j) (0) nr)))
 (test (decide (aq + nq ≤ mq ∧ nq ≤ 1000000))
 (test (decide
 ((ar + nr ≤ mr ∧ nr ≤ 1000000) ∧
 (ao + no ≤ mo ∧ no ≤ 1000000) ∧
 0 + List.length (S.mkl nq fun (j : Nat) => tq (j + aq)) ≤
 List.length (S.mkl nq fun (j : Nat) => tq (j + aq)) ∧
 List.length (S.mkl nq fun (j : Nat) => tq (j + aq)) ≤ 1000000))
 (test (decide
 ((ar + nr ≤ mr ∧ nr ≤ 1000000) ∧ (ao + no ≤ mo ∧ no ≤ 1000000) ∧ aq + nq ≤ mq ∧ nq ≤ 1000000))
 (Kret (PV.tf false) ([[(2, false, Blk.cols mq [Col.int IntKind.i64 tq]),
 (1, false, Blk.cols mo [Col.bool to]),
 (0, false,
 Blk.cols mr
 [Col.int IntKind.i64 tr, Col.int IntKind.i64 vr, Col.int IntKind.i64 gr])]]) (16))
 (False))
 (False))
 (False))
 (test (decide (aq + nq ≤ mq ∧ nq ≤ 1000000))
 (test (decide
 ((ar + nr ≤ mr ∧ nr ≤ 1000000) ∧
 (ao + no ≤ mo ∧ no ≤ 1000000) ∧
 0 + List.length (S.mkl nq fun (j : Nat) => tq (j + aq)) ≤
 List.length (S.mkl nq fun (j : Nat) => tq (j + aq)) ∧
 List.length (S.mkl nq fun (j : Nat) => tq (j + aq)) ≤ 1000000))
 (test (decide
 ((ar + nr ≤ mr ∧ nr ≤ 1000000) ∧ (ao + no ≤ mo ∧ no ≤ 1000000) ∧ aq + nq ≤ mq ∧ nq ≤ 1000000))
 (test (Prod.snd
 (S.suiS
 (S.botE
 (S.magE nr (fun (j : Nat) => tr (j + ar)) (fun (j : Nat) => vr (j + ar)) (fun (j : Nat) => gr (j + ar))
 no)
 (S.cyE cn (List.length (S.mkl nq fun (j : Nat) => tq (j + aq)))
 (fun (j : Nat) => S.at' (S.mkl nq fun (j : Nat) => tq (j + aq)) j) rp fl))
 (S.erB (fun (j : Nat) => tr (j + ar)) (fun (j : Nat) => vr (j + ar))
 (List.length
 (S.stpL (List.length (S.mkl nq fun (j : Nat) => tq (j + aq)))
 (fun (j : Nat) => S.at' (S.mkl nq fun (j : Nat) => tq (j + aq)) j) rp fl))
 (fun (j : Nat) =>
 S.at'
 (S.stpL (List.length (S.mkl nq fun (j : Nat) => tq (j + aq)))
 (fun (j : Nat) => S.at' (S.mkl nq fun (j : Nat) => tq (j + aq)) j) rp fl)
 j)
 (0) nr)) ==
 Prod.snd
 (S.suiS
 (S.botE
 (S.magE nr (fun (j : Nat) => tr (j + ar)) (fun (j : Nat) => vr (j + ar)) (fun (j : Nat) => gr (j + ar))
 no)
 (S.cyE cn nq (fun (j : Nat) => tq (j + aq)) rp fl))
 (S.erB (fun (j : Nat) => tr (j + ar)) (fun (j : Nat) => vr (j + ar))
 (List.length (S.stpL nq (fun (j : Nat) => tq (j + aq)) rp fl))
 (fun (j : Nat) => S.at' (S.stpL nq (fun (j : Nat) => tq (j + aq)) rp fl) j) (0) nr)))
 (test (Prod.fst
 (S.leaS
 (S.botE
 (S.magE nr (fun (j : Nat) => tr (j + ar)) (fun (j : Nat) => vr (j + ar)) (fun (j : Nat) => gr (j + ar))
 no)
 (S.cyE cn (List.length (S.mkl nq fun (j : Nat) => tq (j + aq)))
 (fun (j : Nat) => S.at' (S.mkl nq fun (j : Nat) => tq (j + aq)) j) rp fl))
 (fun (i : Nat) =>
 S.erB (fun (j : Nat) => tr (j + ar)) (fun (j : Nat) => vr (j + ar)) i
 (fun (j : Nat) =>
 S.at'
 (S.stpL (List.length (S.mkl nq fun (j : Nat) => tq (j + aq)))
 (fun (j : Nat) => S.at' (S.mkl nq fun (j : Nat) => tq (j + aq)) j) rp fl)
 j)
 (0) nr)
 (List.length
 (S.stpL (List.length (S.mkl nq fun (j : Nat) => tq (j + aq)))
 (fun (j : Nat) => S.at' (S.mkl nq fun (j : Nat) => tq (j + aq)) j) rp fl))) ==
 Prod.fst
 (S.leaS
 (S.botE
 (S.magE nr (fun (j : Nat) => tr (j + ar)) (fun (j : Nat) => vr (j + ar)) (fun (j : Nat) => gr (j + ar))
 no)
 (S.cyE cn nq (fun (j : Nat) => tq (j + aq)) rp fl))
 (fun (i : Nat) =>
 S.erB (fun (j : Nat) => tr (j + ar)) (fun (j : Nat) => vr (j + ar)) i
 (fun (j : Nat) => S.at' (S.stpL nq (fun (j : Nat) => tq (j + aq)) rp fl) j) (0) nr)
 (List.length (S.stpL nq (fun (j : Nat) => tq (j + aq)) rp fl))))
 (test (Prod.snd
 (S.leaS
 (S.botE
 (S.magE nr (fun (j : Nat) => tr (j + ar)) (fun (j : Nat) => vr (j + ar)) (fun (j : Nat) => gr (j + ar))
 no)
 (S.cyE cn (List.length (S.mkl nq fun (j : Nat) => tq (j + aq)))
 (fun (j : Nat) => S.at' (S.mkl nq fun (j : Nat) => tq (j + aq)) j) rp fl))
 (fun (i : Nat) =>
 S.erB (fun (j : Nat) => tr (j + ar)) (fun (j : Nat) => vr (j + ar)) i
 (fun (j : Nat) =>
 S.at'
 (S.stpL (List.length (S.mkl nq fun (j : Nat) => tq (j + aq)))
 (fun (j : Nat) => S.at' (S.mkl nq fun (j : Nat) => tq (j + aq)) j) rp fl)
 j)
 (0) nr)
 (List.length
 (S.stpL (List.length (S.mkl nq fun (j : Nat) => tq (j + aq)))
 (fun (j : Nat) => S.at' (S.mkl nq fun (j : Nat) => tq (j + aq)) j) rp fl))) ==
 Prod.snd
 (S.leaS
 (S.botE
 (S.magE nr (fun (j : Nat) => tr (j + ar)) (fun (j : Nat) => vr (j + ar)) (fun (j : Nat) => gr (j + ar))
 no)
 (S.cyE cn nq (fun (j : Nat) => tq (j + aq)) rp fl))
 (fun (i : Nat) =>
 S.erB (fun (j : Nat) => tr (j + ar)) (fun (j : Nat) => vr (j + ar)) i
 (fun (j : Nat) => S.at' (S.stpL nq (fun (j : Nat) => tq (j + aq)) rp fl) j) (0) nr)
 (List.length (S.stpL nq (fun (j : Nat) => tq (j + aq)) rp fl))))
 (Kret (PV.tf true) ([[(2, false, Blk.cols mq [Col.int IntKind.i64 tq]),
 (1, false, Blk.cols mo [Col.bool to]),
 (0, false,
 Blk.cols mr
 [Col.int IntKind.i64 tr, Col.int IntKind.i64 vr, Col.int IntKind.i64 gr])]]) (16))
 (Kret (PV.tf false) ([[(2, false, Blk.cols mq [Col.int IntKind.i64 tq]),
 (1, false, Blk.cols mo [Col.bool to]),
 (0, false,
 Blk.cols mr
 [Col.int IntKind.i64 tr, Col.int IntKind.i64 vr, Col.int IntKind.i64 gr])]]) (16)))
 (Kret (PV.tf false) ([[(2, false, Blk.cols mq [Col.int IntKind.i64 tq]),
 (1, false, Blk.cols mo [Col.bool to]),
 (0, false,
 Blk.cols mr
 [Col.int IntKind.i64 tr, Col.int IntKind.i64 vr, Col.int IntKind.i64 gr])]]) (16)))
 (Kret (PV.tf false) ([[(2, false, Blk.cols mq [Col.int IntKind.i64 tq]),
 (1, false, Blk.cols mo [Col.bool to]),
 (0, false,
 Blk.cols mr
 [Col.int IntKind.i64 tr, Col.int IntKind.i64 vr, Col.int IntKind.i64 gr])]]) (16)))
 (False))
 (False))
 (False)))
 (False)))
 (False))
 (False))
 (test (true)
 (test (true)
 (Kret (PV.tf true) ([[(2, false, Blk.cols mq [Col.int IntKind.i64 tq]),
 (1, false, Blk.cols mo [Col.bool to]),
 (0, false,
 Blk.cols mr
 [Col.int IntKind.i64 tr, Col.int IntKind.i64 vr, Col.int IntKind.i64 gr])]]) (9))
 (Kret (PV.tf false) ([[(2, false, Blk.cols mq [Col.int IntKind.i64 tq]),
 (1, false, Blk.cols mo [Col.bool to]),
 (0, false,
 Blk.cols mr
 [Col.int IntKind.i64 tr, Col.int IntKind.i64 vr, Col.int IntKind.i64 gr])]]) (9)))
 (False)))
 (False))
 (test (true)
 (test (true)
 (Kret (PV.tf true) ([[(2, false, Blk.cols mq [Col.int IntKind.i64 tq]),
 (1, false, Blk.cols mo [Col.bool to]),
 (0, false,
 Blk.cols mr
 [Col.int IntKind.i64 tr, Col.int IntKind.i64 vr, Col.int IntKind.i64 gr])]]) (8))
 (Kret (PV.tf false) ([[(2, false, Blk.cols mq [Col.int IntKind.i64 tq]),
 (1, false, Blk.cols mo [Col.bool to]),
 (0, false,
 Blk.cols mr
 [Col.int IntKind.i64 tr, Col.int IntKind.i64 vr, Col.int IntKind.i64 gr])]]) (8)))
 (False)))
 (False))
 (test (true)
 (test (true)
 (Kret (PV.tf true) ([[(2, false, Blk.cols mq [Col.int IntKind.i64 tq]),
 (1, false, Blk.cols mo [Col.bool to]),
 (0, false,
 Blk.cols mr
 [Col.int IntKind.i64 tr, Col.int IntKind.i64 vr, Col.int IntKind.i64 gr])]]) (7))
 (Kret (PV.tf false) ([[(2, false, Blk.cols mq [Col.int IntKind.i64 tq]),
 (1, false, Blk.cols mo [Col.bool to]),
 (0, false,
 Blk.cols mr
 [Col.int IntKind.i64 tr, Col.int IntKind.i64 vr, Col.int IntKind.i64 gr])]]) (7)))
 (False)))
 (False)
set_option maxRecDepth 100000 in
theorem te104 (test : Bool → Prop → Prop → Prop) (Kst : KS) (Kret : KR) (ar nr mr : Nat) (tr : Nat → Int) (vr : Nat → Int) (gr : Nat → Int) (ao no mo : Nat) (to : Nat → Bool) (cn : ByteArray) (aq nq mq : Nat) (tq : Nat → Int) (rp : Int) (fl : Int) : run test Try.env true (xC4 test) true 400 ⟨4, [.cd (mkFn Try.f4).body], argT 0 [.agg [.loose ⟨0, 3, ar, 0⟩ nr, .loose ⟨1, 1, ao, 0⟩ no], .agg [.str cn, .loose ⟨2, 1, aq, 0⟩ nq, .int .i64 rp, .int .i64 fl]], [[], [(0, (false, .cols mr [.int .i64 tr, .int .i64 vr, .int .i64 gr])), (1, (false, .cols mo [.bool to])), (2, (false, .cols mq [.int .i64 tq]))]], 3⟩ (proj 3 [] Kst Kret) =
  Te104 test Kst Kret ar nr mr tr vr gr ao no mo to cn aq nq mq tq rp fl := by kernel_rfl
set_option maxRecDepth 100000 in
theorem be104 (ar nr mr : Nat) (tr : Nat → Int) (vr : Nat → Int) (gr : Nat → Int) (ao no mo : Nat) (to : Nat → Bool) (cn : ByteArray) (aq nq mq : Nat) (tq : Nat → Int) (rp : Int) (fl : Int) (Kst : KS) (Kret : KR) (x : St104 ⊕ Rt104) (hS : HS 3 400 ((I104 ar nr mr tr vr gr ao no mo to cn aq nq mq tq rp fl)) Kst x) (hR : HR 3 400 ((V104 ar nr mr tr vr gr ao no mo to cn aq nq mq tq rp fl)) (fun r => [newL (3 + 1) ((N104 ar nr mr tr vr gr ao no mo to cn aq nq mq tq rp fl) r) ++ [(0, (false, .cols mr [.int .i64 tr, .int .i64 vr, .int .i64 gr])), (1, (false, .cols mo [.bool to])), (2, (false, .cols mq [.int .i64 tq]))]]) Kret x) (h : (bif (S.fewC cn nq (0))
 then (bif (decide (nr ≤ 45 ∧ no ≤ 50))
 then (bif (decide (aq + nq ≤ mq ∧ nq ≤ 1000000))
 then (bif (decide
 ((ar + nr ≤ mr ∧ nr ≤ 1000000) ∧
 (ao + no ≤ mo ∧ no ≤ 1000000) ∧
 0 + List.length (S.mkl nq fun (j : Nat) => tq (j + aq)) ≤
 List.length (S.mkl nq fun (j : Nat) => tq (j + aq)) ∧
 List.length (S.mkl nq fun (j : Nat) => tq (j + aq)) ≤ 1000000))
 then (bif (Prod.fst
 (S.suiS
 (S.botE
 (S.magE nr (fun (j : Nat) => tr (j + ar)) (fun (j : Nat) => vr (j + ar)) (fun (j : Nat) => gr (j + ar)) no)
 (S.cyE cn (List.length (S.mkl nq fun (j : Nat) => tq (j + aq)))
 (fun (j : Nat) => S.at' (S.mkl nq fun (j : Nat) => tq (j + aq)) j) rp fl))
 (S.erB (fun (j : Nat) => tr (j + ar)) (fun (j : Nat) => vr (j + ar))
 (List.length
 (S.stpL (List.length (S.mkl nq fun (j : Nat) => tq (j + aq)))
 (fun (j : Nat) => S.at' (S.mkl nq fun (j : Nat) => tq (j + aq)) j) rp fl))
 (fun (j : Nat) =>
 S.at'
 (S.stpL (List.length (S.mkl nq fun (j : Nat) => tq (j + aq)))
 (fun (j : Nat) => S.at' (S.mkl nq fun (j : Nat) => tq (j + aq)) j) rp fl)
 j)
 (0) nr)))
 then (bif (decide
 ((ar + nr ≤ mr ∧ nr ≤ 1000000) ∧ (ao + no ≤ mo ∧ no ≤ 1000000) ∧ aq + nq ≤ mq ∧ nq ≤ 1000000))
 then (bif (Prod.fst
 (S.suiS
 (S.botE
 (S.magE nr (fun (j : Nat) => tr (j + ar)) (fun (j : Nat) => vr (j + ar)) (fun (j : Nat) => gr (j + ar)) no)
 (S.cyE cn nq (fun (j : Nat) => tq (j + aq)) rp fl))
 (S.erB (fun (j : Nat) => tr (j + ar)) (fun (j : Nat) => vr (j + ar))
 (List.length (S.stpL nq (fun (j : Nat) => tq (j + aq)) rp fl))
 (fun (j : Nat) => S.at' (S.stpL nq (fun (j : Nat) => tq (j + aq)) rp fl) j) (0) nr)))
 then (bif (Prod.snd
 (S.suiS
 (S.botE
 (S.magE nr (fun (j : Nat) => tr (j + ar)) (fun (j : Nat) => vr (j + ar)) (fun (j : Nat) => gr (j + ar))
 no)
 (S.cyE cn (List.length (S.mkl nq fun (j : Nat) => tq (j + aq)))
 (fun (j : Nat) => S.at' (S.mkl nq fun (j : Nat) => tq (j + aq)) j) rp fl))
 (S.erB (fun (j : Nat) => tr (j + ar)) (fun (j : Nat) => vr (j + ar))
 (List.length
 (S.stpL (List.length (S.mkl nq fun (j : Nat) => tq (j + aq)))
 (fun (j : Nat) => S.at' (S.mkl nq fun (j : Nat) => tq (j + aq)) j) rp fl))
 (fun (j : Nat) =>
 S.at'
 (S.stpL (List.length (S.mkl nq fun (j : Nat) => tq (j + aq)))
 (fun (j : Nat) => S.at' (S.mkl nq fun (j : Nat) => tq (j + aq)) j) rp fl)
 j)
 (0) nr)) ==
 Prod.snd
 (S.suiS
 (S.botE
 (S.magE nr (fun (j : Nat) => tr (j + ar)) (fun (j : Nat) => vr (j + ar)) (fun (j : Nat) => gr (j + ar))
 no)
 (S.cyE cn nq (fun (j : Nat) => tq (j + aq)) rp fl))
 (S.erB (fun (j : Nat) => tr (j + ar)) (fun (j : Nat) => vr (j + ar))
 (List.length (S.stpL nq (fun (j : Nat) => tq (j + aq)) rp fl))
 (fun (j : Nat) => S.at' (S.stpL nq (fun (j : Nat) => tq (j + aq)) rp fl) j) (0) nr)))
 then (bif (Prod.fst
 (S.leaS
 (S.botE
 (S.magE nr (fun (j : Nat) => tr (j + ar)) (fun (j : Nat) => vr (j + ar)) (fun (j : Nat) => gr (j + ar))
 no)
 (S.cyE cn (List.length (S.mkl nq fun (j : Nat) => tq (j + aq)))
 (fun (j : Nat) => S.at' (S.mkl nq fun (j : Nat) => tq (j + aq)) j) rp fl))
 (fun (i : Nat) =>
 S.erB (fun (j : Nat) => tr (j + ar)) (fun (j : Nat) => vr (j + ar)) i
 (fun (j : Nat) =>
 S.at'
 (S.stpL (List.length (S.mkl nq fun (j : Nat) => tq (j + aq)))
 (fun (j : Nat) => S.at' (S.mkl nq fun (j : Nat) => tq (j + aq)) j) rp fl)
 j)
 (0) nr)
 (List.length
 (S.stpL (List.length (S.mkl nq fun (j : Nat) => tq (j + aq)))
 (fun (j : Nat) => S.at' (S.mkl nq fun (j : Nat) => tq (j + aq)) j) rp fl))) ==
 Prod.fst
 (S.leaS
 (S.botE
 (S.magE nr (fun (j : Nat) => tr (j + ar)) (fun (j : Nat) => vr (j + ar)) (fun (j : Nat) => gr (j + ar))
 no)
 (S.cyE cn nq (fun (j : Nat) => tq (j + aq)) rp fl))
 (fun (i : Nat) =>
 S.erB (fun (j : Nat) => tr (j + ar)) (fun (j : Nat) => vr (j + ar)) i
 (fun (j : Nat) => S.at' (S.stpL nq (fun (j : Nat) => tq (j + aq)) rp fl) j) (0) nr)
 (List.length (S.stpL nq (fun (j : Nat) => tq (j + aq)) rp fl))))
 then (bif (Prod.snd
 (S.leaS
 (S.botE
 (S.magE nr (fun (j : Nat) => tr (j + ar)) (fun (j : Nat) => vr (j + ar)) (fun (j : Nat) => gr (j + ar))
 no)
 (S.cyE cn (List.length (S.mkl nq fun (j : Nat) => tq (j + aq)))
 (fun (j : Nat) => S.at' (S.mkl nq fun (j : Nat) => tq (j + aq)) j) rp fl))
 (fun (i : Nat) =>
 S.erB (fun (j : Nat) => tr (j + ar)) (fun (j : Nat) => vr (j + ar)) i
 (fun (j : Nat) =>
 S.at'
 (S.stpL (List.length (S.mkl nq fun (j : Nat) => tq (j + aq)))
 (fun (j : Nat) => S.at' (S.mkl nq fun (j : Nat) => tq (j + aq)) j) rp fl)
 j)
 (0) nr)
 (List.length
 (S.stpL (List.length (S.mkl nq fun (j : Nat) => tq (j + aq)))
 (fun (j : Nat) => S.at' (S.mkl nq fun (j : Nat) => tq (j + aq)) j) rp fl))) ==
 Prod.snd
 (S.leaS
 (S.botE
 (S.magE nr (fun (j : Nat) => tr (j + ar)) (fun (j : Nat) => vr (j + ar)) (fun (j : Nat) => gr (j + ar))
 no)
 (S.cyE cn nq (fun (j : Nat) => tq (j + aq)) rp fl))
 (fun (i : Nat) =>
 S.erB (fun (j : Nat) => tr (j + ar)) (fun (j : Nat) => vr (j + ar)) i
 (fun (j : Nat) => S.at' (S.stpL nq (fun (j : Nat) => tq (j + aq)) rp fl) j) (0) nr)
 (List.length (S.stpL nq (fun (j : Nat) => tq (j + aq)) rp fl))))
 then (some (.inr (true)))
 else (some (.inr (false))))
 else (some (.inr (false))))
 else (some (.inr (false))))
 else (some (.inr (false))))
 else (none))
 else (bif (decide
 ((ar + nr ≤ mr ∧ nr ≤ 1000000) ∧ (ao + no ≤ mo ∧ no ≤ 1000000) ∧ aq + nq ≤ mq ∧ nq ≤ 1000000))
 then (bif (Prod.fst
 (S.suiS
 (S.botE
 (S.magE nr (fun (j : Nat) => tr (j + ar)) (fun (j : Nat) => vr (j + ar)) (fun (j : Nat) => gr (j + ar)) no)
 (S.cyE cn nq (fun (j : Nat) => tq (j + aq)) rp fl))
 (S.erB (fun (j : Nat) => tr (j + ar)) (fun (j : Nat) => vr (j + ar))
 (List.length (S.stpL nq (fun (j : Nat) => tq (j + aq)) rp fl))
 (fun (j : Nat) => S.at' (S.stpL nq (fun (j : Nat) => tq (j + aq)) rp fl) j) (0) nr)))
 then (some (.inr (false)))
 else (bif (Prod.snd
 (S.suiS
 (S.botE
 (S.magE nr (fun (j : Nat) => tr (j + ar)) (fun (j : Nat) => vr (j + ar)) (fun (j : Nat) => gr (j + ar))
 no)
 (S.cyE cn (List.length (S.mkl nq fun (j : Nat) => tq (j + aq)))
 (fun (j : Nat) => S.at' (S.mkl nq fun (j : Nat) => tq (j + aq)) j) rp fl))
 (S.erB (fun (j : Nat) => tr (j + ar)) (fun (j : Nat) => vr (j + ar))
 (List.length
 (S.stpL (List.length (S.mkl nq fun (j : Nat) => tq (j + aq)))
 (fun (j : Nat) => S.at' (S.mkl nq fun (j : Nat) => tq (j + aq)) j) rp fl))
 (fun (j : Nat) =>
 S.at'
 (S.stpL (List.length (S.mkl nq fun (j : Nat) => tq (j + aq)))
 (fun (j : Nat) => S.at' (S.mkl nq fun (j : Nat) => tq (j + aq)) j) rp fl)
 j)
 (0) nr)) ==
 Prod.snd
 (S.suiS
 (S.botE
 (S.magE nr (fun (j : Nat) => tr (j + ar)) (fun (j : Nat) => vr (j + ar)) (fun (j : Nat) => gr (j + ar))
 no)
 (S.cyE cn nq (fun (j : Nat) => tq (j + aq)) rp fl))
 (S.erB (fun (j : Nat) => tr (j + ar)) (fun (j : Nat) => vr (j + ar))
 (List.length (S.stpL nq (fun (j : Nat) => tq (j + aq)) rp fl))
 (fun (j : Nat) => S.at' (S.stpL nq (fun (j : Nat) => tq (j + aq)) rp fl) j) (0) nr)))
 then (bif (Prod.fst
 (S.leaS
 (S.botE
 (S.magE nr (fun (j : Nat) => tr (j + ar)) (fun (j : Nat) => vr (j + ar)) (fun (j : Nat) => gr (j + ar))
 no)
 (S.cyE cn (List.length (S.mkl nq fun (j : Nat) => tq (j + aq)))
 (fun (j : Nat) => S.at' (S.mkl nq fun (j : Nat) => tq (j + aq)) j) rp fl))
 (fun (i : Nat) =>
 S.erB (fun (j : Nat) => tr (j + ar)) (fun (j : Nat) => vr (j + ar)) i
 (fun (j : Nat) =>
 S.at'
 (S.stpL (List.length (S.mkl nq fun (j : Nat) => tq (j + aq)))
 (fun (j : Nat) => S.at' (S.mkl nq fun (j : Nat) => tq (j + aq)) j) rp fl)
 j)
 (0) nr)
 (List.length
 (S.stpL (List.length (S.mkl nq fun (j : Nat) => tq (j + aq)))
 (fun (j : Nat) => S.at' (S.mkl nq fun (j : Nat) => tq (j + aq)) j) rp fl))) ==
 Prod.fst
 (S.leaS
 (S.botE
 (S.magE nr (fun (j : Nat) => tr (j + ar)) (fun (j : Nat) => vr (j + ar)) (fun (j : Nat) => gr (j + ar))
 no)
 (S.cyE cn nq (fun (j : Nat) => tq (j + aq)) rp fl))
 (fun (i : Nat) =>
 S.erB (fun (j : Nat) => tr (j + ar)) (fun (j : Nat) => vr (j + ar)) i
 (fun (j : Nat) => S.at' (S.stpL nq (fun (j : Nat) => tq (j + aq)) rp fl) j) (0) nr)
 (List.length (S.stpL nq (fun (j : Nat) => tq (j + aq)) rp fl))))
 then (bif (Prod.snd
 (S.leaS
 (S.botE
 (S.magE nr (fun (j : Nat) => tr (j + ar)) (fun (j : Nat) => vr (j + ar)) (fun (j : Nat) => gr (j + ar))
 no)
 (S.cyE cn (List.length (S.mkl nq fun (j : Nat) => tq (j + aq)))
 (fun (j : Nat) => S.at' (S.mkl nq fun (j : Nat) => tq (j + aq)) j) rp fl))
 (fun (i : Nat) =>
 S.erB (fun (j : Nat) => tr (j + ar)) (fun (j : Nat) => vr (j + ar)) i
 (fun (j : Nat) =>
 S.at'
 (S.stpL (List.length (S.mkl nq fun (j : Nat) => tq (j + aq)))
 (fun (j : Nat) => S.at' (S.mkl nq fun (j : Nat) => tq (j + aq)) j) rp fl)
 j)
 (0) nr)
 (List.length
 (S.stpL (List.length (S.mkl nq fun (j : Nat) => tq (j + aq)))
 (fun (j : Nat) => S.at' (S.mkl nq fun (j : Nat) => tq (j + aq)) j) rp fl))) ==
 Prod.snd
 (S.leaS
 (S.botE
 (S.magE nr (fun (j : Nat) => tr (j + ar)) (fun (j : Nat) => vr (j + ar)) (fun (j : Nat) => gr (j + ar))
 no)
 (S.cyE cn nq (fun (j : Nat) => tq (j + aq)) rp fl))
 (fun (i : Nat) =>
 S.erB (fun (j : Nat) => tr (j + ar)) (fun (j : Nat) => vr (j + ar)) i
 (fun (j : Nat) => S.at' (S.stpL nq (fun (j : Nat) => tq (j + aq)) rp fl) j) (0) nr)
 (List.length (S.stpL nq (fun (j : Nat) => tq (j + aq)) rp fl))))
 then (some (.inr (true)))
 else (some (.inr (false))))
 else (some (.inr (false))))
 else (some (.inr (false)))))
 else (none)))
 else (none))
 else (none))
 else (some (.inr (true))))
 else (some (.inr (true))) : Option (St104 ⊕ Rt104)) = some x) : Te104 cond Kst Kret ar nr mr tr vr gr ao no mo to cn aq nq mq tq rp fl := by
  unfold Te104
  exact cond_yes rfl (cond_yes rfl (cond_yes rfl (bif_split h
   (fun c0 h => cond_yes rfl (bif_split h
   (fun c1 h => bif_split h
   (fun c2 h => bif_split h
   (fun c3 h => bif_split h
   (fun c4 h => bif_split h
   (fun c5 h => bif_split h
   (fun c6 h => cond_yes c2 (cond_yes c3 (cond_yes c5 (bif_split h
   (fun c7 h => bif_split h
   (fun c8 h => bif_split h
   (fun c9 h => ret_at hR _ h (fun n => n) rfl rfl rfl (rn_bool_tf rfl) rfl (entl_bor (use_lo rfl) rfl rfl (entl_bor (use_lo rfl) rfl rfl (entl_bor (use_lo rfl) rfl rfl entl_nil))))
   (fun c9 h => ret_at hR _ h (fun n => n) rfl rfl rfl (rn_bool_tf rfl) rfl (entl_bor (use_lo rfl) rfl rfl (entl_bor (use_lo rfl) rfl rfl (entl_bor (use_lo rfl) rfl rfl entl_nil)))))
   (fun c8 h => ret_at hR _ h (fun n => n) rfl rfl rfl (rn_bool_tf rfl) rfl (entl_bor (use_lo rfl) rfl rfl (entl_bor (use_lo rfl) rfl rfl (entl_bor (use_lo rfl) rfl rfl entl_nil)))))
   (fun c7 h => ret_at hR _ h (fun n => n) rfl rfl rfl (rn_bool_tf rfl) rfl (entl_bor (use_lo rfl) rfl rfl (entl_bor (use_lo rfl) rfl rfl (entl_bor (use_lo rfl) rfl rfl entl_nil))))))))
   (fun c6 h => cond_yes c2 (cond_yes c3 (cond_yes c5 (ret_at hR _ h (fun n => n) rfl rfl rfl (rn_bool_tf rfl) rfl (entl_bor (use_lo rfl) rfl rfl (entl_bor (use_lo rfl) rfl rfl (entl_bor (use_lo rfl) rfl rfl entl_nil))))))))
   (fun c5 h => no_some h))
   (fun c4 h => bif_split h
   (fun c5 h => bif_split h
   (fun c6 h => cond_yes c2 (cond_yes c3 (cond_yes c5 (ret_at hR _ h (fun n => n) rfl rfl rfl (rn_bool_tf rfl) rfl (entl_bor (use_lo rfl) rfl rfl (entl_bor (use_lo rfl) rfl rfl (entl_bor (use_lo rfl) rfl rfl entl_nil)))))))
   (fun c6 h => cond_yes c2 (cond_yes c3 (cond_yes c5 (bif_split h
   (fun c7 h => bif_split h
   (fun c8 h => bif_split h
   (fun c9 h => ret_at hR _ h (fun n => n) rfl rfl rfl (rn_bool_tf rfl) rfl (entl_bor (use_lo rfl) rfl rfl (entl_bor (use_lo rfl) rfl rfl (entl_bor (use_lo rfl) rfl rfl entl_nil))))
   (fun c9 h => ret_at hR _ h (fun n => n) rfl rfl rfl (rn_bool_tf rfl) rfl (entl_bor (use_lo rfl) rfl rfl (entl_bor (use_lo rfl) rfl rfl (entl_bor (use_lo rfl) rfl rfl entl_nil)))))
   (fun c8 h => ret_at hR _ h (fun n => n) rfl rfl rfl (rn_bool_tf rfl) rfl (entl_bor (use_lo rfl) rfl rfl (entl_bor (use_lo rfl) rfl rfl (entl_bor (use_lo rfl) rfl rfl entl_nil)))))
   (fun c7 h => ret_at hR _ h (fun n => n) rfl rfl rfl (rn_bool_tf rfl) rfl (entl_bor (use_lo rfl) rfl rfl (entl_bor (use_lo rfl) rfl rfl (entl_bor (use_lo rfl) rfl rfl entl_nil)))))))))
   (fun c5 h => no_some h)))
   (fun c3 h => no_some h))
   (fun c2 h => no_some h))
   (fun c1 h => cond_yes rfl (cond_yes rfl (ret_at hR _ h (fun n => n) rfl rfl rfl (rn_bool_tf rfl) rfl (entl_bor (use_lo rfl) rfl rfl (entl_bor (use_lo rfl) rfl rfl (entl_bor (use_lo rfl) rfl rfl entl_nil))))))))
   (fun c0 h => cond_yes rfl (cond_yes rfl (ret_at hR _ h (fun n => n) rfl rfl rfl (rn_bool_tf rfl) rfl (entl_bor (use_lo rfl) rfl rfl (entl_bor (use_lo rfl) rfl rfl (entl_bor (use_lo rfl) rfl rfl entl_nil)))))))))
theorem a104 (ar nr mr : Nat) (tr : Nat → Int) (vr : Nat → Int) (gr : Nat → Int) (ao no mo : Nat) (to : Nat → Bool) (cn : ByteArray) (aq nq mq : Nat) (tq : Nat → Int) (rp : Int) (fl : Int) {r : Rt104} (h : Goes ((q104 ar nr mr tr vr gr ao no mo to cn aq nq mq tq rp fl)) ((p104 ar nr mr tr vr gr ao no mo to cn aq nq mq tq rp fl)) r) : CallR Try.prog 4 [.agg [.loose ⟨0, 3, ar, 0⟩ nr, .loose ⟨1, 1, ao, 0⟩ no], .agg [.str cn, .loose ⟨2, 1, aq, 0⟩ nq, .int .i64 rp, .int .i64 fl]] [[(0, (false, .cols mr [.int .i64 tr, .int .i64 vr, .int .i64 gr])), (1, (false, .cols mo [.bool to])), (2, (false, .cols mq [.int .i64 tq]))]] 3 ((V104 ar nr mr tr vr gr ao no mo to cn aq nq mq tq rp fl) r) ((fun r => [newL (3 + 1) ((N104 ar nr mr tr vr gr ao no mo to cn aq nq mq tq rp fl) r) ++ [(0, (false, .cols mr [.int .i64 tr, .int .i64 vr, .int .i64 gr])), (1, (false, .cols mo [.bool to])), (2, (false, .cols mq [.int .i64 tq]))]]) r) 400 ∧ ∃ F, Try.prog.funcs[4]? = some F ∧ F.body.isSome = true ∧ (F.name == "runtime.NumGoroutine") = false := by
  refine dec_calls (f := 4) (lo := 3) (hi := 400) (H := [[(0, (false, .cols mr [.int .i64 tr, .int .i64 vr, .int .i64 gr])), (1, (false, .cols mo [.bool to])), (2, (false, .cols mq [.int .i64 tq]))]]) (args := [.agg [.loose ⟨0, 3, ar, 0⟩ nr, .loose ⟨1, 1, ao, 0⟩ no], .agg [.str cn, .loose ⟨2, 1, aq, 0⟩ nq, .int .i64 rp, .int .i64 fl]]) Try.envOk Try.mixed xC4_ok ((I104 ar nr mr tr vr gr ao no mo to cn aq nq mq tq rp fl)) ((V104 ar nr mr tr vr gr ao no mo to cn aq nq mq tq rp fl)) (fun r => [newL (3 + 1) ((N104 ar nr mr tr vr gr ao no mo to cn aq nq mq tq rp fl) r) ++ [(0, (false, .cols mr [.int .i64 tr, .int .i64 vr, .int .i64 gr])), (1, (false, .cols mo [.bool to])), (2, (false, .cols mq [.int .i64 tq]))]]) (fn := mkFn Try.f4) (ts := []) (n := 400) rfl (by decide) (by simp) (names_of rfl) ?_ ?_ ?_ h
  · intro s; exact s.elim
  · intro Kst Kret x hS hR h
    exact Holds.eq (te104 cond Kst Kret ar nr mr tr vr gr ao no mo to cn aq nq mq tq rp fl) (be104 ar nr mr tr vr gr ao no mo to cn aq nq mq tq rp fl Kst Kret x hS hR h)
  · intro Kst Kret x hS hR s h; exact s.elim
noncomputable def k104 : Con := ⟨4, [.agg [.list [.int .i64, .int .i64, .int .i64], .list [.bool]], .agg [.plain (.str), .list [.int .i64], .plain (.int .i64), .plain (.int .i64)]], fun (x : ((Nat × Nat × Nat × (Nat → Int) × (Nat → Int) × (Nat → Int) × Unit) × (Nat × Nat × Nat × (Nat → Bool) × Unit) × Unit) × (ByteArray × (Nat × Nat × Nat × (Nat → Int) × Unit) × Int × Int × Unit) × Unit) => (fun (ar nr mr : Nat) (tr : Nat → Int) (vr : Nat → Int) (gr : Nat → Int) (ao no mo : Nat) (to : Nat → Bool) (cn : ByteArray) (aq nq mq : Nat) (tq : Nat → Int) (rp : Int) (fl : Int) => decide (ar + nr ≤ mr ∧ ao + no ≤ mo ∧ aq + nq ≤ mq)) x.1.1.1 x.1.1.2.1 x.1.1.2.2.1 x.1.1.2.2.2.1 x.1.1.2.2.2.2.1 x.1.1.2.2.2.2.2.1 x.1.2.1.1 x.1.2.1.2.1 x.1.2.1.2.2.1 x.1.2.1.2.2.2.1 x.2.1.1 x.2.1.2.1.1 x.2.1.2.1.2.1 x.2.1.2.1.2.2.1 x.2.1.2.1.2.2.2.1 x.2.1.2.2.1 x.2.1.2.2.2.1, fun (x : ((Nat × Nat × Nat × (Nat → Int) × (Nat → Int) × (Nat → Int) × Unit) × (Nat × Nat × Nat × (Nat → Bool) × Unit) × Unit) × (ByteArray × (Nat × Nat × Nat × (Nat → Int) × Unit) × Int × Int × Unit) × Unit) => (fun (ar nr mr : Nat) (tr : Nat → Int) (vr : Nat → Int) (gr : Nat → Int) (ao no mo : Nat) (to : Nat → Bool) (cn : ByteArray) (aq nq mq : Nat) (tq : Nat → Int) (rp : Int) (fl : Int) => (V104 ar nr mr tr vr gr ao no mo to cn aq nq mq tq rp fl) (true)) x.1.1.1 x.1.1.2.1 x.1.1.2.2.1 x.1.1.2.2.2.1 x.1.1.2.2.2.2.1 x.1.1.2.2.2.2.2.1 x.1.2.1.1 x.1.2.1.2.1 x.1.2.1.2.2.1 x.1.2.1.2.2.2.1 x.2.1.1 x.2.1.2.1.1 x.2.1.2.1.2.1 x.2.1.2.1.2.2.1 x.2.1.2.1.2.2.2.1 x.2.1.2.2.1 x.2.1.2.2.2.1, fun (x : ((Nat × Nat × Nat × (Nat → Int) × (Nat → Int) × (Nat → Int) × Unit) × (Nat × Nat × Nat × (Nat → Bool) × Unit) × Unit) × (ByteArray × (Nat × Nat × Nat × (Nat → Int) × Unit) × Int × Int × Unit) × Unit) => (fun (ar nr mr : Nat) (tr : Nat → Int) (vr : Nat → Int) (gr : Nat → Int) (ao no mo : Nat) (to : Nat → Bool) (cn : ByteArray) (aq nq mq : Nat) (tq : Nat → Int) (rp : Int) (fl : Int) => (N104 ar nr mr tr vr gr ao no mo to cn aq nq mq tq rp fl) (true)) x.1.1.1 x.1.1.2.1 x.1.1.2.2.1 x.1.1.2.2.2.1 x.1.1.2.2.2.2.1 x.1.1.2.2.2.2.2.1 x.1.2.1.1 x.1.2.1.2.1 x.1.2.1.2.2.1 x.1.2.1.2.2.2.1 x.2.1.1 x.2.1.2.1.1 x.2.1.2.1.2.1 x.2.1.2.1.2.2.1 x.2.1.2.1.2.2.2.1 x.2.1.2.2.1 x.2.1.2.2.2.1, fun _ _ => .dead⟩
theorem s104 (ar nr mr : Nat) (tr : Nat → Int) (vr : Nat → Int) (gr : Nat → Int) (ao no mo : Nat) (to : Nat → Bool) (cn : ByteArray) (aq nq mq : Nat) (tq : Nat → Int) (rp : Int) (fl : Int) (hp : ar + nr ≤ mr ∧ ao + no ≤ mo ∧ aq + nq ≤ mq) : Goes ((q104 ar nr mr tr vr gr ao no mo to cn aq nq mq tq rp fl)) ((p104 ar nr mr tr vr gr ao no mo to cn aq nq mq tq rp fl)) (true) := by
  obtain ⟨hp1, hp2, hp3⟩ := hp
  unfold p104
  cases hf : S.fewC cn nq 0
  · exact goes_inr.mpr rfl
  have hq := few_n hf
  simp only [mkl_len, cy_mkl, stp_mkl, BEq.rfl]
  generalize S.suiS (S.botE (S.magE nr (fun j => tr (j + ar)) (fun j => vr (j + ar)) (fun j => gr (j + ar)) no) (S.cyE cn nq (fun j => tq (j + aq)) rp fl)) (S.erB (fun j => tr (j + ar)) (fun j => vr (j + ar)) (S.stpL nq (fun j => tq (j + aq)) rp fl).length (fun j => S.at' (S.stpL nq (fun j => tq (j + aq)) rp fl) j) 0 nr) = X at *
  show Goes _ _ _
  obtain ⟨A, e⟩ := X
  cases A
  all_goals
   repeat' first
    | with_reducible exact goes_inr.mpr rfl
    | with_reducible refine goes_if (fun h => ?_) (fun h => ?_) <;> (try simp only [lim64, imp_false, decide_eq_true_eq, decide_eq_false_iff_not, Int.toNat_natCast, toNat_pred, toNat_succ, Option.getD_some, Option.getD_none, Bool.not_eq_true', Bool.not_eq_false', Bool.and_eq_true, Bool.or_eq_true, Bool.and_eq_false_iff, Bool.or_eq_false_iff, bne_iff_ne, beq_iff_eq, bne_eq_false_iff_eq, beq_eq_false_iff_ne, ne_eq, not_and, Int.not_le, Int.not_lt, ge_iff_le, gt_iff_lt, Nat.not_lt, Nat.not_le, Bool.not_eq_true, Bool.not_eq_false, Bool.true_eq_false, Bool.false_eq_true, not_false_eq_true, not_true_eq_false] at h)
    | exact goes_none.mpr (by omega)
   all_goals first | (exfalso; omega) | exact goes_inr.mpr rfl | (exfalso; simp_all; done) | (exfalso; simp at h; done)
theorem k104_ok : k104.ok Try.prog := by
  intro x hx
  obtain ⟨⟨⟨ar, nr, mr, tr, vr, gr, _⟩, ⟨ao, no, mo, to, _⟩, _⟩, ⟨cn, ⟨aq, nq, mq, tq, _⟩, rp, fl, _⟩, _⟩ := x
  obtain ⟨h1, h2⟩ := a104 ar nr mr tr vr gr ao no mo to cn aq nq mq tq rp fl (s104 ar nr mr tr vr gr ao no mo to cn aq nq mq tq rp fl (of_dec hx rfl))
  exact ⟨⟨400, (by decide : 3 + 1 + 0 ≤ 400), h1⟩, h2⟩
end Go.Ev
