/-
  Delays.
-/
import Derived.Test.YtffldkecndnbiaaA3
namespace Go.Ev
open Go.Proofs
set_option linter.unusedVariables false
set_option linter.unusedSimpArgs false
set_option maxRecDepth 100000

theorem dl_bd {n : Nat} {p d u j : Nat → Int} (h : S.treE n p d u j = 0) {x : Nat} (hx : x < n) : (0 ≤ S.dl p d x ∧ S.dl p d x ≤ 1000000 * (x : Int)) ∧ (0 ≤ S.dl p j x ∧ S.dl p j x ≤ 1000000 * (x : Int)) := by
  obtain ⟨v1, v2, v3, v4, v5, v6⟩ := tre_ok h
  have h1 := dl_bnd (p := p) (g := d) (n := n) (c := 1000000) (by decide) (fun y hy => by have := v5 y hy; omega) x hx
  have h2 := dl_bnd (p := p) (g := j) (n := n) (c := 1000000) (by decide) (fun y hy => by have := v5 y hy; omega) x hx
  have h3 := dl_nn (p := p) (g := d) (n := n) (fun y hy => by have := v5 y hy; omega) x hx
  have h4 := dl_nn (p := p) (g := j) (n := n) (fun y hy => by have := v5 y hy; omega) x hx
  exact ⟨⟨h3, h1.2⟩, h4, h2.2⟩
inductive St17 where
  | h0 (x0 : Int) (x1 : List (Int × Int × Bool × Bool))
abbrev Rt17 := Int × List (Int × Int × Bool × Bool)
noncomputable def V17 (ap np mp : Nat) (tp : Nat → Int) (vp : Nat → Int) (gp : Nat → Int) (wp : Nat → Int) (r : Rt17) : PV := PV.tup [PV.own (2) (4) (List.length r.2), PV.int IntKind.i64 r.1]
noncomputable def N17 (ap np mp : Nat) (tp : Nat → Int) (vp : Nat → Int) (gp : Nat → Int) (wp : Nat → Int) (r : Rt17) : List Blk := [Blk.cols (List.length r.2)
 [Col.int IntKind.i64 fun (j : Nat) => (S.at' r.2 j).1,
 Col.int IntKind.i64 fun (j : Nat) => (S.at' r.2 j).2.1,
 Col.bool fun (j : Nat) => (S.at' r.2 j).2.2.1,
 Col.bool fun (j : Nat) => (S.at' r.2 j).2.2.2]]
noncomputable def I17 (ap np mp : Nat) (tp : Nat → Int) (vp : Nat → Int) (gp : Nat → Int) (wp : Nat → Int) : St17 → Hd
  | .h0 x0 x1 => ⟨hd Try.f17 0, [PV.ptr (PA.mk (1) (0) (0) (0)),
 PV.own (2) (4) (List.length x1), PV.int IntKind.i64 (↑np : Int),
 PV.int IntKind.i64 x0], [[(1, (true, Blk.cells [PV.loose (PA.mk (0) (4) ap (0)) np])), (2, (true, Blk.cols (List.length x1)
 [Col.int IntKind.i64 fun (j : Nat) => (S.at' x1 j).1,
 Col.int IntKind.i64 fun (j : Nat) => (S.at' x1 j).2.1,
 Col.bool fun (j : Nat) => (S.at' x1 j).2.2.1,
 Col.bool fun (j : Nat) => (S.at' x1 j).2.2.2]))], [(0, (false, .cols mp [.int .i64 tp, .int .i64 vp, .int .i64 gp, .int .i64 wp]))]], 3⟩
noncomputable def q17 (ap np mp : Nat) (tp : Nat → Int) (vp : Nat → Int) (gp : Nat → Int) (wp : Nat → Int) : St17 → Option (St17 ⊕ Rt17)
  | .h0 x0 x1 => bif (decide (x0 < (↑np : Int)))
 then (bif (decide
 (ap + np ≤ mp ∧
 np ≤ 1000000 ∧
 (S.treE np (fun (q : Nat) => tp (q + ap)) (fun (q : Nat) => vp (q + ap)) (fun (q : Nat) => gp (q + ap))
 fun (q : Nat) => wp (q + ap)) =
 (0 : Int) ∧
 (0 : Int) ≤ x0 ∧ x0 < (↑np : Int)))
 then (bif (lim IntKind.i64
 (S.dl (fun (q : Nat) => tp (q + ap)) (fun (q : Nat) => vp (q + ap)) (Int.toNat x0) -
 S.dl (fun (q : Nat) => tp (q + ap)) (fun (q : Nat) => wp (q + ap)) (Int.toNat x0)))
 then (bif (lim IntKind.i64
 (S.dl (fun (q : Nat) => tp (q + ap)) (fun (q : Nat) => vp (q + ap)) (Int.toNat x0) +
 S.dl (fun (q : Nat) => tp (q + ap)) (fun (q : Nat) => wp (q + ap)) (Int.toNat x0)))
 then (bif (decide (List.length x1 + 1 ≤ 1000000))
 then (bif (decide (List.length x1 ≤ List.length x1))
 then (bif (lim IntKind.i64 (x0 + (1 : Int)))
 then (some (.inl (.h0 (x0 + (1 : Int)) (S.snoc x1
 (S.dl (fun (q : Nat) => tp (q + ap)) (fun (q : Nat) => vp (q + ap)) (Int.toNat x0) -
 S.dl (fun (q : Nat) => tp (q + ap)) (fun (q : Nat) => wp (q + ap)) (Int.toNat x0),
 S.dl (fun (q : Nat) => tp (q + ap)) (fun (q : Nat) => vp (q + ap)) (Int.toNat x0) +
 S.dl (fun (q : Nat) => tp (q + ap)) (fun (q : Nat) => wp (q + ap)) (Int.toNat x0),
 false, false)))))
 else (none))
 else (none))
 else (none))
 else (none))
 else (none))
 else (none))
 else (some (.inr ((0 : Int), x1)))
noncomputable def p17 (ap np mp : Nat) (tp : Nat → Int) (vp : Nat → Int) (gp : Nat → Int) (wp : Nat → Int) : Option (St17 ⊕ Rt17) := bif (decide (ap + np ≤ mp ∧ np ≤ 1000000))
 then (bif ((S.treE np (fun (q : Nat) => tp (q + ap)) (fun (q : Nat) => vp (q + ap)) (fun (q : Nat) => gp (q + ap))
 fun (q : Nat) => wp (q + ap)) !=
 (0 : Int))
 then (some (.inr (S.treE np (fun (q : Nat) => tp (q + ap)) (fun (q : Nat) => vp (q + ap)) (fun (q : Nat) => gp (q + ap))
 fun (q : Nat) => wp (q + ap), [])))
 else (some (.inl (.h0 ((0 : Int)) ([])))))
 else (none)
noncomputable def Te17 (test : Bool → Prop → Prop → Prop) (Kst : KS) (Kret : KR) (ap np mp : Nat) (tp : Nat → Int) (vp : Nat → Int) (gp : Nat → Int) (wp : Nat → Int) : Prop :=
  test (decide (ap + np ≤ mp ∧ np ≤ 1000000))
 (test ((S.treE np (fun (q : Nat) => tp (q + ap)) (fun (q : Nat) => vp (q + ap)) (fun (q : Nat) => gp (q + ap))
 fun (q : Nat) => wp (q + ap)) !=
 (0 : Int))
 (Kret (PV.tup
 [PV.nils,
 PV.int IntKind.i64
 (S.treE np (fun (q : Nat) => tp (q + ap)) (fun (q : Nat) => vp (q + ap)) (fun (q : Nat) => gp (q + ap))
 fun (q : Nat) => wp (q + ap))]) ([[(0, false,
 Blk.cols mp
 [Col.int IntKind.i64 tp, Col.int IntKind.i64 vp, Col.int IntKind.i64 gp,
 Col.int IntKind.i64 wp])]]) (3))
 (Kst (hd Try.f17 0) ([PV.ptr (PA.mk (1) (0) (0) (0)), PV.nils,
 PV.int IntKind.i64 (↑np : Int), PV.int IntKind.i64 (0 : Int)]) ([[(0, false,
 Blk.cols mp
 [Col.int IntKind.i64 tp, Col.int IntKind.i64 vp, Col.int IntKind.i64 gp,
 Col.int IntKind.i64 wp]),
 (1, true, Blk.cells [PV.loose (PA.mk (0) (4) ap (0)) np])]]) (3)))
 (False)
set_option maxRecDepth 100000 in
theorem te17 (test : Bool → Prop → Prop → Prop) (Kst : KS) (Kret : KR) (ap np mp : Nat) (tp : Nat → Int) (vp : Nat → Int) (gp : Nat → Int) (wp : Nat → Int) : run test Try.env true (xB test) true 400 ⟨17, [.cd (mkFn Try.f17).body], argT 0 [.agg [.loose ⟨0, 4, ap, 0⟩ np]], [[], [(0, (false, .cols mp [.int .i64 tp, .int .i64 vp, .int .i64 gp, .int .i64 wp]))]], 1⟩ (proj 1 [1, 5, 16, 17] Kst Kret) =
  Te17 test Kst Kret ap np mp tp vp gp wp := by kernel_rfl
noncomputable def T17_0 (test : Bool → Prop → Prop → Prop) (Kst : KS) (Kret : KR) (ap np mp : Nat) (tp : Nat → Int) (vp : Nat → Int) (gp : Nat → Int) (wp : Nat → Int) (x0 : Int) (x1 : List (Int × Int × Bool × Bool)) : Prop :=
  test (decide (x0 < (↑np : Int)))
 (test (decide
 (ap + np ≤ mp ∧
 np ≤ 1000000 ∧
 (S.treE np (fun (q : Nat) => tp (q + ap)) (fun (q : Nat) => vp (q + ap)) (fun (q : Nat) => gp (q + ap))
 fun (q : Nat) => wp (q + ap)) =
 (0 : Int) ∧
 (0 : Int) ≤ x0 ∧ x0 < (↑np : Int)))
 (test (lim IntKind.i64
 (S.dl (fun (q : Nat) => tp (q + ap)) (fun (q : Nat) => vp (q + ap)) (Int.toNat x0) -
 S.dl (fun (q : Nat) => tp (q + ap)) (fun (q : Nat) => wp (q + ap)) (Int.toNat x0)))
 (test (lim IntKind.i64
 (S.dl (fun (q : Nat) => tp (q + ap)) (fun (q : Nat) => vp (q + ap)) (Int.toNat x0) +
 S.dl (fun (q : Nat) => tp (q + ap)) (fun (q : Nat) => wp (q + ap)) (Int.toNat x0)))
 (test (decide (List.length x1 + 1 ≤ 1000000))
 (test (decide (List.length x1 ≤ List.length x1))
 (test (true)
 (test (lim IntKind.i64 (x0 + (1 : Int)))
 (Kst (hd Try.f17 0) ([PV.ptr (PA.mk (1) (0) (0) (0)),
 PV.own (5) (4) (List.length x1 + 1), PV.int IntKind.i64 (↑np : Int),
 PV.int IntKind.i64 (x0 + (1 : Int))]) ([[(0, false,
 Blk.cols mp
 [Col.int IntKind.i64 tp, Col.int IntKind.i64 vp, Col.int IntKind.i64 gp,
 Col.int IntKind.i64 wp]),
 (5, true,
 Blk.cols (List.length x1 + 1)
 [Col.int IntKind.i64 fun (j : Nat) =>
 bif Nat.blt j (List.length x1) then (S.at' x1 j).1
 else
 S.dl (fun (q : Nat) => tp (q + ap)) (fun (q : Nat) => vp (q + ap)) (Int.toNat x0) -
 S.dl (fun (q : Nat) => tp (q + ap)) (fun (q : Nat) => wp (q + ap)) (Int.toNat x0),
 Col.int IntKind.i64 fun (j : Nat) =>
 bif Nat.blt j (List.length x1) then (S.at' x1 j).2.1
 else
 S.dl (fun (q : Nat) => tp (q + ap)) (fun (q : Nat) => vp (q + ap)) (Int.toNat x0) +
 S.dl (fun (q : Nat) => tp (q + ap)) (fun (q : Nat) => wp (q + ap)) (Int.toNat x0),
 Col.bool fun (j : Nat) =>
 bif Nat.blt j (List.length x1) then (S.at' x1 j).2.2.1 else false,
 Col.bool fun (j : Nat) =>
 bif Nat.blt j (List.length x1) then (S.at' x1 j).2.2.2 else false]),
 (1, true, Blk.cells [PV.loose (PA.mk (0) (4) ap (0)) np])]]) (6))
 (False))
 (False))
 (False))
 (False))
 (False))
 (False))
 (False))
 (Kret (PV.tup [PV.own (2) (4) (List.length x1), PV.int IntKind.i64 (0 : Int)]) ([[(0, false,
 Blk.cols mp
 [Col.int IntKind.i64 tp, Col.int IntKind.i64 vp, Col.int IntKind.i64 gp,
 Col.int IntKind.i64 wp]),
 (2, true,
 Blk.cols (List.length x1)
 [Col.int IntKind.i64 fun (j : Nat) => (S.at' x1 j).1,
 Col.int IntKind.i64 fun (j : Nat) => (S.at' x1 j).2.1,
 Col.bool fun (j : Nat) => (S.at' x1 j).2.2.1,
 Col.bool fun (j : Nat) => (S.at' x1 j).2.2.2])]]) (3))
set_option maxRecDepth 100000 in
theorem t17_0 (test : Bool → Prop → Prop → Prop) (Kst : KS) (Kret : KR) (ap np mp : Nat) (tp : Nat → Int) (vp : Nat → Int) (gp : Nat → Int) (wp : Nat → Int) (x0 : Int) (x1 : List (Int × Int × Bool × Bool)) : run test Try.env true (xB test) true 400 ⟨17, hd Try.f17 0, zipT [1, 5, 16, 17] [PV.ptr (PA.mk (1) (0) (0) (0)),
 PV.own (2) (4) (List.length x1), PV.int IntKind.i64 (↑np : Int),
 PV.int IntKind.i64 x0], [[(1, (true, Blk.cells [PV.loose (PA.mk (0) (4) ap (0)) np])), (2, (true, Blk.cols (List.length x1)
 [Col.int IntKind.i64 fun (j : Nat) => (S.at' x1 j).1,
 Col.int IntKind.i64 fun (j : Nat) => (S.at' x1 j).2.1,
 Col.bool fun (j : Nat) => (S.at' x1 j).2.2.1,
 Col.bool fun (j : Nat) => (S.at' x1 j).2.2.2]))], [(0, (false, .cols mp [.int .i64 tp, .int .i64 vp, .int .i64 gp, .int .i64 wp]))]], 3⟩ (proj 1 [1, 5, 16, 17] Kst Kret) =
  T17_0 test Kst Kret ap np mp tp vp gp wp x0 x1 := by kernel_rfl
set_option maxRecDepth 100000 in
theorem be17 (ap np mp : Nat) (tp : Nat → Int) (vp : Nat → Int) (gp : Nat → Int) (wp : Nat → Int) (Kst : KS) (Kret : KR) (x : St17 ⊕ Rt17) (hS : HS 1 400 ((I17 ap np mp tp vp gp wp)) Kst x) (hR : HR 1 400 ((V17 ap np mp tp vp gp wp)) (fun r => [newL (1 + 1) ((N17 ap np mp tp vp gp wp) r) ++ [(0, (false, .cols mp [.int .i64 tp, .int .i64 vp, .int .i64 gp, .int .i64 wp]))]]) Kret x) (h : (bif (decide (ap + np ≤ mp ∧ np ≤ 1000000))
 then (bif ((S.treE np (fun (q : Nat) => tp (q + ap)) (fun (q : Nat) => vp (q + ap)) (fun (q : Nat) => gp (q + ap))
 fun (q : Nat) => wp (q + ap)) !=
 (0 : Int))
 then (some (.inr (S.treE np (fun (q : Nat) => tp (q + ap)) (fun (q : Nat) => vp (q + ap)) (fun (q : Nat) => gp (q + ap))
 fun (q : Nat) => wp (q + ap), [])))
 else (some (.inl (.h0 ((0 : Int)) ([])))))
 else (none) : Option (St17 ⊕ Rt17)) = some x) : Te17 cond Kst Kret ap np mp tp vp gp wp := by
  unfold Te17
  exact bif_split h
   (fun c0 h => bif_split h
   (fun c1 h => ret_at hR _ h (fun n => bif Nat.beq n 2 then 399 else n) rfl rfl rfl (rn_tup ⟨(rn_own_nils rfl), (rn_int rfl), trivial⟩) rfl (entl_fresh (use_own rfl) (fresh_ok rfl) (entl_bor (use_lo rfl) rfl rfl entl_nil)))
   (fun c1 h => stop_at hS _ h (fun n => bif Nat.beq n 1 then 1 else bif Nat.beq n 2 then 399 else n) rfl rfl rfl ⟨(rn_ptr (use_own rfl) rfl rfl), ⟨(rn_own_nils rfl), ⟨(rn_int rfl), ⟨(rn_int rfl), trivial⟩⟩⟩⟩ rfl (entl_b (use_own rfl) rfl (by simp) (rb_cells ⟨(rn_loose (use_lo rfl) rfl rfl rfl), trivial⟩) (entl_fresh (use_own rfl) (fresh_ok rfl) (entl_bor (use_lo rfl) rfl rfl entl_nil)))))
   (fun c0 h => no_some h)
set_option maxRecDepth 100000 in
theorem b17_0 (ap np mp : Nat) (tp : Nat → Int) (vp : Nat → Int) (gp : Nat → Int) (wp : Nat → Int) (Kst : KS) (Kret : KR) (x : St17 ⊕ Rt17) (hS : HS 1 400 ((I17 ap np mp tp vp gp wp)) Kst x) (hR : HR 1 400 ((V17 ap np mp tp vp gp wp)) (fun r => [newL (1 + 1) ((N17 ap np mp tp vp gp wp) r) ++ [(0, (false, .cols mp [.int .i64 tp, .int .i64 vp, .int .i64 gp, .int .i64 wp]))]]) Kret x) (x0 : Int) (x1 : List (Int × Int × Bool × Bool)) (h : (bif (decide (x0 < (↑np : Int)))
 then (bif (decide
 (ap + np ≤ mp ∧
 np ≤ 1000000 ∧
 (S.treE np (fun (q : Nat) => tp (q + ap)) (fun (q : Nat) => vp (q + ap)) (fun (q : Nat) => gp (q + ap))
 fun (q : Nat) => wp (q + ap)) =
 (0 : Int) ∧
 (0 : Int) ≤ x0 ∧ x0 < (↑np : Int)))
 then (bif (lim IntKind.i64
 (S.dl (fun (q : Nat) => tp (q + ap)) (fun (q : Nat) => vp (q + ap)) (Int.toNat x0) -
 S.dl (fun (q : Nat) => tp (q + ap)) (fun (q : Nat) => wp (q + ap)) (Int.toNat x0)))
 then (bif (lim IntKind.i64
 (S.dl (fun (q : Nat) => tp (q + ap)) (fun (q : Nat) => vp (q + ap)) (Int.toNat x0) +
 S.dl (fun (q : Nat) => tp (q + ap)) (fun (q : Nat) => wp (q + ap)) (Int.toNat x0)))
 then (bif (decide (List.length x1 + 1 ≤ 1000000))
 then (bif (decide (List.length x1 ≤ List.length x1))
 then (bif (lim IntKind.i64 (x0 + (1 : Int)))
 then (some (.inl (.h0 (x0 + (1 : Int)) (S.snoc x1
 (S.dl (fun (q : Nat) => tp (q + ap)) (fun (q : Nat) => vp (q + ap)) (Int.toNat x0) -
 S.dl (fun (q : Nat) => tp (q + ap)) (fun (q : Nat) => wp (q + ap)) (Int.toNat x0),
 S.dl (fun (q : Nat) => tp (q + ap)) (fun (q : Nat) => vp (q + ap)) (Int.toNat x0) +
 S.dl (fun (q : Nat) => tp (q + ap)) (fun (q : Nat) => wp (q + ap)) (Int.toNat x0),
 false, false)))))
 else (none))
 else (none))
 else (none))
 else (none))
 else (none))
 else (none))
 else (some (.inr ((0 : Int), x1))) : Option (St17 ⊕ Rt17)) = some x) : T17_0 cond Kst Kret ap np mp tp vp gp wp x0 x1 := by
  unfold T17_0
  exact bif_split h
   (fun c0 h => bif_split h
   (fun c1 h => bif_split h
   (fun c2 h => bif_split h
   (fun c3 h => bif_split h
   (fun c4 h => bif_split h
   (fun c5 h => cond_yes rfl (bif_split h
   (fun c6 h => stop_at hS _ h (fun n => bif Nat.beq n 1 then 1 else bif Nat.beq n 2 then 5 else n) rfl rfl rfl ⟨(rn_ptr (use_own rfl) rfl rfl), ⟨(rn_own (use_own rfl) rfl (snoc_len' rfl)), ⟨(rn_int rfl), ⟨(rn_int rfl), trivial⟩⟩⟩⟩ rfl (entl_b (use_own rfl) rfl (by simp) (rb_cells ⟨(rn_loose (use_lo rfl) rfl rfl rfl), trivial⟩) (entl_new (use_own rfl) rfl (Nat.le_of_eq (snoc_len' rfl)) (rcs_int (col_snoc' (fun (t : Int × Int × Bool × Bool) => t.1) rfl (fun _ _ => rfl)) (rcs_int (col_snoc' (fun (t : Int × Int × Bool × Bool) => t.2.1) rfl (fun _ _ => rfl)) (rcs_bool (col_snoc' (fun (t : Int × Int × Bool × Bool) => t.2.2.1) rfl (fun _ _ => rfl)) (rcs_bool (col_snoc' (fun (t : Int × Int × Bool × Bool) => t.2.2.2) rfl (fun _ _ => rfl)) rcs_nil)))) (entl_bor (use_lo rfl) rfl rfl entl_nil))))
   (fun c6 h => no_some h)))
   (fun c5 h => no_some h))
   (fun c4 h => no_some h))
   (fun c3 h => no_some h))
   (fun c2 h => no_some h))
   (fun c1 h => no_some h))
   (fun c0 h => ret_at hR _ h (fun n => bif Nat.beq n 2 then 2 else n) rfl rfl rfl (rn_tup ⟨(rn_own (use_own rfl) rfl rfl), (rn_int rfl), trivial⟩) rfl (entl_new (use_own rfl) rfl (Nat.le_of_eq rfl) (rcs_int (fun _ _ => rfl) (rcs_int (fun _ _ => rfl) (rcs_bool (fun _ _ => rfl) (rcs_bool (fun _ _ => rfl) rcs_nil)))) (entl_bor (use_lo rfl) rfl rfl entl_nil)))
theorem a17 (ap np mp : Nat) (tp : Nat → Int) (vp : Nat → Int) (gp : Nat → Int) (wp : Nat → Int) {r : Rt17} (h : Goes ((q17 ap np mp tp vp gp wp)) ((p17 ap np mp tp vp gp wp)) r) : CallR Try.prog 17 [.agg [.loose ⟨0, 4, ap, 0⟩ np]] [[(0, (false, .cols mp [.int .i64 tp, .int .i64 vp, .int .i64 gp, .int .i64 wp]))]] 1 ((V17 ap np mp tp vp gp wp) r) ((fun r => [newL (1 + 1) ((N17 ap np mp tp vp gp wp) r) ++ [(0, (false, .cols mp [.int .i64 tp, .int .i64 vp, .int .i64 gp, .int .i64 wp]))]]) r) 400 ∧ ∃ F, Try.prog.funcs[17]? = some F ∧ F.body.isSome = true ∧ (F.name == "runtime.NumGoroutine") = false := by
  refine dec_calls (f := 17) (lo := 1) (hi := 400) (H := [[(0, (false, .cols mp [.int .i64 tp, .int .i64 vp, .int .i64 gp, .int .i64 wp]))]]) (args := [.agg [.loose ⟨0, 4, ap, 0⟩ np]]) Try.envOk Try.mixed xB_ok ((I17 ap np mp tp vp gp wp)) ((V17 ap np mp tp vp gp wp)) (fun r => [newL (1 + 1) ((N17 ap np mp tp vp gp wp) r) ++ [(0, (false, .cols mp [.int .i64 tp, .int .i64 vp, .int .i64 gp, .int .i64 wp]))]]) (fn := mkFn Try.f17) (ts := [1, 5, 16, 17]) (n := 400) rfl (by decide) (by simp) (names_of rfl) ?_ ?_ ?_ h
  · intro s; cases s <;> exact ⟨hd_ok _ _, by simp [I17], names_of rfl, Nat.le_of_ble_eq_true rfl⟩
  · intro Kst Kret x hS hR h
    exact Holds.eq (te17 cond Kst Kret ap np mp tp vp gp wp) (be17 ap np mp tp vp gp wp Kst Kret x hS hR h)
  · intro Kst Kret x hS hR s h
    cases s with
    | h0 x0 x1 => exact Holds.eq (t17_0 cond Kst Kret ap np mp tp vp gp wp x0 x1) (b17_0 ap np mp tp vp gp wp Kst Kret x hS hR x0 x1 h)
noncomputable def k17 : Con := ⟨17, [.agg [.list [.int .i64, .int .i64, .int .i64, .int .i64]]], fun (x : ((Nat × Nat × Nat × (Nat → Int) × (Nat → Int) × (Nat → Int) × (Nat → Int) × Unit) × Unit) × Unit) => (fun (ap np mp : Nat) (tp : Nat → Int) (vp : Nat → Int) (gp : Nat → Int) (wp : Nat → Int) => decide (ap + np ≤ mp ∧ np ≤ 1000000)) x.1.1.1 x.1.1.2.1 x.1.1.2.2.1 x.1.1.2.2.2.1 x.1.1.2.2.2.2.1 x.1.1.2.2.2.2.2.1 x.1.1.2.2.2.2.2.2.1, fun (x : ((Nat × Nat × Nat × (Nat → Int) × (Nat → Int) × (Nat → Int) × (Nat → Int) × Unit) × Unit) × Unit) => (fun (ap np mp : Nat) (tp : Nat → Int) (vp : Nat → Int) (gp : Nat → Int) (wp : Nat → Int) => (V17 ap np mp tp vp gp wp) (S.dlyS np (fun q => tp (q + ap)) (fun q => vp (q + ap)) (fun q => gp (q + ap)) (fun q => wp (q + ap)))) x.1.1.1 x.1.1.2.1 x.1.1.2.2.1 x.1.1.2.2.2.1 x.1.1.2.2.2.2.1 x.1.1.2.2.2.2.2.1 x.1.1.2.2.2.2.2.2.1, fun (x : ((Nat × Nat × Nat × (Nat → Int) × (Nat → Int) × (Nat → Int) × (Nat → Int) × Unit) × Unit) × Unit) => (fun (ap np mp : Nat) (tp : Nat → Int) (vp : Nat → Int) (gp : Nat → Int) (wp : Nat → Int) => (N17 ap np mp tp vp gp wp) (S.dlyS np (fun q => tp (q + ap)) (fun q => vp (q + ap)) (fun q => gp (q + ap)) (fun q => wp (q + ap)))) x.1.1.1 x.1.1.2.1 x.1.1.2.2.1 x.1.1.2.2.2.1 x.1.1.2.2.2.2.1 x.1.1.2.2.2.2.2.1 x.1.1.2.2.2.2.2.2.1, fun _ _ => .dead⟩
theorem s17' (ap np mp : Nat) (tp : Nat → Int) (vp : Nat → Int) (gp : Nat → Int) (wp : Nat → Int) (hp : ap + np ≤ mp ∧ np ≤ 1000000 ∧ S.treE np (fun q => tp (q + ap)) (fun q => vp (q + ap)) (fun q => gp (q + ap)) (fun q => wp (q + ap)) = 0) : ∀ (k i : Nat) (L : List (Int × Int × Bool × Bool)), i + k = np → Holds (L = S.mkl i fun q => S.dlyT (fun q => tp (q + ap)) (fun q => vp (q + ap)) (fun q => wp (q + ap)) q) → Comes (q17 ap np mp tp vp gp wp) (.h0 (i : Int) L) ((0, S.mkl np fun q => S.dlyT (fun q => tp (q + ap)) (fun q => vp (q + ap)) (fun q => wp (q + ap)) q)) := by
  obtain ⟨hp1, hp2, hp3⟩ := hp
  obtain ⟨v1, v2, v3, v4⟩ := tre_ok hp3
  intro k
  induction k with
  | zero =>
    intro i L hi eL
    have hL : L.length = i := by rw [eL.get]; exact mkl_len
    apply Comes.of
    show Goes _ _ _
    (first | rw [q17] | unfold q17)
    repeat' first
      | with_reducible refine goes_if (fun h => ?_) (fun h => ?_) <;> (try simp only [lim64, decide_eq_true_eq, decide_eq_false_iff_not, Int.toNat_natCast, toNat_pred, toNat_succ, Option.getD_some, Option.getD_none, Bool.not_eq_true', Bool.not_eq_false', Bool.and_eq_true, Bool.or_eq_true, Bool.and_eq_false_iff, Bool.or_eq_false_iff, bne_iff_ne, beq_iff_eq, bne_eq_false_iff_eq, beq_eq_false_iff_ne, ne_eq, not_and, Int.not_le, Int.not_lt, ge_iff_le, gt_iff_lt, Nat.not_lt, Nat.not_le, Bool.not_eq_true, Bool.not_eq_false, Bool.true_eq_false, Bool.false_eq_true, not_false_eq_true, not_true_eq_false] at h)
      | exact goes_none.mpr (by omega)
    all_goals first | (exfalso; omega) | (obtain rfl : np = i := (by omega);  exact goes_inr.mpr (by rw [eL.get]))
  | succ k ih =>
    intro i L hi eL
    have hL : L.length = i := by rw [eL.get]; exact mkl_len
    have hd := dl_bd hp3 (x := i) (by omega)
    apply Comes.of
    show Goes _ _ _
    (first | rw [q17] | unfold q17)
    repeat' first
      | with_reducible refine goes_if (fun h => ?_) (fun h => ?_) <;> (try simp only [lim64, decide_eq_true_eq, decide_eq_false_iff_not, Int.toNat_natCast, toNat_pred, toNat_succ, Option.getD_some, Option.getD_none, Bool.not_eq_true', Bool.not_eq_false', Bool.and_eq_true, Bool.or_eq_true, Bool.and_eq_false_iff, Bool.or_eq_false_iff, bne_iff_ne, beq_iff_eq, bne_eq_false_iff_eq, beq_eq_false_iff_ne, ne_eq, not_and, Int.not_le, Int.not_lt, ge_iff_le, gt_iff_lt, Nat.not_lt, Nat.not_le, Bool.not_eq_true, Bool.not_eq_false, Bool.true_eq_false, Bool.false_eq_true, not_false_eq_true, not_true_eq_false] at h)
      | exact goes_none.mpr (by omega)
    all_goals first
      | (exfalso; omega)
      | (refine ih (i + 1) _ (by omega) ⟨?_⟩; rw [eL.get, mkl_succ]; rfl)
      | (refine ih (i + 1) _ (by omega) ⟨?_⟩ <;> (skip))
theorem s17 (ap np mp : Nat) (tp : Nat → Int) (vp : Nat → Int) (gp : Nat → Int) (wp : Nat → Int) (hp : ap + np ≤ mp ∧ np ≤ 1000000) : Goes ((q17 ap np mp tp vp gp wp)) ((p17 ap np mp tp vp gp wp)) (S.dlyS np (fun q => tp (q + ap)) (fun q => vp (q + ap)) (fun q => gp (q + ap)) (fun q => wp (q + ap))) := by
  unfold S.dlyS
  by_cases h0 : S.treE np (fun q => tp (q + ap)) (fun q => vp (q + ap)) (fun q => gp (q + ap)) (fun q => wp (q + ap)) = 0
  · rw [if_pos h0]
    obtain ⟨v1, v2, v3, v4, v5, v6⟩ := tre_ok h0
    have hm := s17' ap np mp tp vp gp wp ⟨hp.1, hp.2, h0⟩ np 0 [] (by omega) ⟨rfl⟩
    show Goes _ _ _
    unfold p17
    repeat' first
      | with_reducible refine goes_if (fun h => ?_) (fun h => ?_) <;> (try simp only [lim64, decide_eq_true_eq, decide_eq_false_iff_not, Int.toNat_natCast, toNat_pred, toNat_succ, Option.getD_some, Option.getD_none, Bool.not_eq_true', Bool.not_eq_false', Bool.and_eq_true, Bool.or_eq_true, Bool.and_eq_false_iff, Bool.or_eq_false_iff, bne_iff_ne, beq_iff_eq, bne_eq_false_iff_eq, beq_eq_false_iff_ne, ne_eq, not_and, Int.not_le, Int.not_lt, ge_iff_le, gt_iff_lt, Nat.not_lt, Nat.not_le, Bool.not_eq_true, Bool.not_eq_false, Bool.true_eq_false, Bool.false_eq_true, not_false_eq_true, not_true_eq_false] at h)
      | exact goes_none.mpr (by omega)
    all_goals first | (exfalso; omega) | exact hm
  · rw [if_neg h0]
    show Goes _ _ _
    unfold p17
    repeat' first
      | with_reducible refine goes_if (fun h => ?_) (fun h => ?_) <;> (try simp only [lim64, decide_eq_true_eq, decide_eq_false_iff_not, Int.toNat_natCast, toNat_pred, toNat_succ, Option.getD_some, Option.getD_none, Bool.not_eq_true', Bool.not_eq_false', Bool.and_eq_true, Bool.or_eq_true, Bool.and_eq_false_iff, Bool.or_eq_false_iff, bne_iff_ne, beq_iff_eq, bne_eq_false_iff_eq, beq_eq_false_iff_ne, ne_eq, not_and, Int.not_le, Int.not_lt, ge_iff_le, gt_iff_lt, Nat.not_lt, Nat.not_le, Bool.not_eq_true, Bool.not_eq_false, Bool.true_eq_false, Bool.false_eq_true, not_false_eq_true, not_true_eq_false] at h)
      | exact goes_none.mpr (by omega)
    all_goals first | (exfalso; omega) | rfl

theorem k17_ok : k17.ok Try.prog := by
  intro x hx
  obtain ⟨⟨⟨ap, np, mp, tp, vp, gp, wp, _⟩, _⟩, _⟩ := x
  obtain ⟨h1, h2⟩ := a17 ap np mp tp vp gp wp (s17 ap np mp tp vp gp wp (of_dec hx rfl))
  exact ⟨⟨400, (by decide : 1 + 1 + 1 ≤ 400), h1⟩, h2⟩
inductive St18 where
  | h0 (x0 : Int) (x1 : List (Int × Int × Bool × Bool))
abbrev Rt18 := Int × List (Int × Int × Bool × Bool)
noncomputable def V18 (ap np mp : Nat) (tp : Nat → Int) (vp : Nat → Int) (gp : Nat → Int) (wp : Nat → Int) (r : Rt18) : PV := PV.tup [PV.own (2) (4) (List.length r.2), PV.int IntKind.i64 r.1]
noncomputable def N18 (ap np mp : Nat) (tp : Nat → Int) (vp : Nat → Int) (gp : Nat → Int) (wp : Nat → Int) (r : Rt18) : List Blk := [Blk.cols (List.length r.2)
 [Col.int IntKind.i64 fun (j : Nat) => (S.at' r.2 j).1,
 Col.int IntKind.i64 fun (j : Nat) => (S.at' r.2 j).2.1,
 Col.bool fun (j : Nat) => (S.at' r.2 j).2.2.1,
 Col.bool fun (j : Nat) => (S.at' r.2 j).2.2.2]]
noncomputable def I18 (ap np mp : Nat) (tp : Nat → Int) (vp : Nat → Int) (gp : Nat → Int) (wp : Nat → Int) : St18 → Hd
  | .h0 x0 x1 => ⟨hd Try.f18 0, [PV.ptr (PA.mk (1) (0) (0) (0)),
 PV.own (2) (4) (List.length x1), PV.int IntKind.i64 x0], [[(1, (true, Blk.cells [PV.loose (PA.mk (0) (4) ap (0)) np])), (2, (true, Blk.cols (List.length x1)
 [Col.int IntKind.i64 fun (j : Nat) => (S.at' x1 j).1,
 Col.int IntKind.i64 fun (j : Nat) => (S.at' x1 j).2.1,
 Col.bool fun (j : Nat) => (S.at' x1 j).2.2.1,
 Col.bool fun (j : Nat) => (S.at' x1 j).2.2.2]))], [(0, (false, .cols mp [.int .i64 tp, .int .i64 vp, .int .i64 gp, .int .i64 wp]))]], 3⟩
noncomputable def q18 (ap np mp : Nat) (tp : Nat → Int) (vp : Nat → Int) (gp : Nat → Int) (wp : Nat → Int) : St18 → Option (St18 ⊕ Rt18)
  | .h0 x0 x1 => bif (decide (x0 < (↑np : Int)))
 then (bif (decide
 (ap + np ≤ mp ∧
 np ≤ 1000000 ∧
 (S.treE np (fun (q : Nat) => tp (q + ap)) (fun (q : Nat) => vp (q + ap)) (fun (q : Nat) => gp (q + ap))
 fun (q : Nat) => wp (q + ap)) =
 (0 : Int) ∧
 (0 : Int) ≤ x0 ∧ x0 < (↑np : Int)))
 then (bif (lim IntKind.i64
 (S.dl (fun (q : Nat) => tp (q + ap)) (fun (q : Nat) => vp (q + ap)) (Int.toNat x0) -
 S.dl (fun (q : Nat) => tp (q + ap)) (fun (q : Nat) => wp (q + ap)) (Int.toNat x0)))
 then (bif (lim IntKind.i64
 (S.dl (fun (q : Nat) => tp (q + ap)) (fun (q : Nat) => vp (q + ap)) (Int.toNat x0) +
 S.dl (fun (q : Nat) => tp (q + ap)) (fun (q : Nat) => wp (q + ap)) (Int.toNat x0)))
 then (bif (decide (List.length x1 + 1 ≤ 1000000))
 then (bif (decide (List.length x1 ≤ List.length x1))
 then (bif (lim IntKind.i64 (x0 + (1 : Int)))
 then (some (.inl (.h0 (x0 + (1 : Int)) (S.snoc x1
 (S.dl (fun (q : Nat) => tp (q + ap)) (fun (q : Nat) => vp (q + ap)) (Int.toNat x0) -
 S.dl (fun (q : Nat) => tp (q + ap)) (fun (q : Nat) => wp (q + ap)) (Int.toNat x0),
 S.dl (fun (q : Nat) => tp (q + ap)) (fun (q : Nat) => vp (q + ap)) (Int.toNat x0) +
 S.dl (fun (q : Nat) => tp (q + ap)) (fun (q : Nat) => wp (q + ap)) (Int.toNat x0),
 false, false)))))
 else (none))
 else (none))
 else (none))
 else (none))
 else (none))
 else (none))
 else (some (.inr ((0 : Int), x1)))
noncomputable def p18 (ap np mp : Nat) (tp : Nat → Int) (vp : Nat → Int) (gp : Nat → Int) (wp : Nat → Int) : Option (St18 ⊕ Rt18) := bif (decide (ap + np ≤ mp ∧ np ≤ 1000000))
 then (bif ((S.treE np (fun (q : Nat) => tp (q + ap)) (fun (q : Nat) => vp (q + ap)) (fun (q : Nat) => gp (q + ap))
 fun (q : Nat) => wp (q + ap)) !=
 (0 : Int))
 then (some (.inr (S.treE np (fun (q : Nat) => tp (q + ap)) (fun (q : Nat) => vp (q + ap)) (fun (q : Nat) => gp (q + ap))
 fun (q : Nat) => wp (q + ap), [])))
 else (some (.inl (.h0 ((0 : Int)) ([])))))
 else (none)
noncomputable def Te18 (test : Bool → Prop → Prop → Prop) (Kst : KS) (Kret : KR) (ap np mp : Nat) (tp : Nat → Int) (vp : Nat → Int) (gp : Nat → Int) (wp : Nat → Int) : Prop :=
  test (decide (ap + np ≤ mp ∧ np ≤ 1000000))
 (test ((S.treE np (fun (q : Nat) => tp (q + ap)) (fun (q : Nat) => vp (q + ap)) (fun (q : Nat) => gp (q + ap))
 fun (q : Nat) => wp (q + ap)) !=
 (0 : Int))
 (Kret (PV.tup
 [PV.nils,
 PV.int IntKind.i64
 (S.treE np (fun (q : Nat) => tp (q + ap)) (fun (q : Nat) => vp (q + ap)) (fun (q : Nat) => gp (q + ap))
 fun (q : Nat) => wp (q + ap))]) ([[(0, false,
 Blk.cols mp
 [Col.int IntKind.i64 tp, Col.int IntKind.i64 vp, Col.int IntKind.i64 gp,
 Col.int IntKind.i64 wp])]]) (3))
 (Kst (hd Try.f18 0) ([PV.ptr (PA.mk (1) (0) (0) (0)), PV.nils,
 PV.int IntKind.i64 (0 : Int)]) ([[(0, false,
 Blk.cols mp
 [Col.int IntKind.i64 tp, Col.int IntKind.i64 vp, Col.int IntKind.i64 gp,
 Col.int IntKind.i64 wp]),
 (1, true, Blk.cells [PV.loose (PA.mk (0) (4) ap (0)) np])]]) (3)))
 (False)
set_option maxRecDepth 100000 in
theorem te18 (test : Bool → Prop → Prop → Prop) (Kst : KS) (Kret : KR) (ap np mp : Nat) (tp : Nat → Int) (vp : Nat → Int) (gp : Nat → Int) (wp : Nat → Int) : run test Try.env true (xB test) true 400 ⟨18, [.cd (mkFn Try.f18).body], argT 0 [.agg [.loose ⟨0, 4, ap, 0⟩ np]], [[], [(0, (false, .cols mp [.int .i64 tp, .int .i64 vp, .int .i64 gp, .int .i64 wp]))]], 1⟩ (proj 1 [1, 5, 6] Kst Kret) =
  Te18 test Kst Kret ap np mp tp vp gp wp := by kernel_rfl
noncomputable def T18_0 (test : Bool → Prop → Prop → Prop) (Kst : KS) (Kret : KR) (ap np mp : Nat) (tp : Nat → Int) (vp : Nat → Int) (gp : Nat → Int) (wp : Nat → Int) (x0 : Int) (x1 : List (Int × Int × Bool × Bool)) : Prop :=
  test (decide (x0 < (↑np : Int)))
 (test (decide
 (ap + np ≤ mp ∧
 np ≤ 1000000 ∧
 (S.treE np (fun (q : Nat) => tp (q + ap)) (fun (q : Nat) => vp (q + ap)) (fun (q : Nat) => gp (q + ap))
 fun (q : Nat) => wp (q + ap)) =
 (0 : Int) ∧
 (0 : Int) ≤ x0 ∧ x0 < (↑np : Int)))
 (test (decide
 (ap + np ≤ mp ∧
 np ≤ 1000000 ∧
 (S.treE np (fun (q : Nat) => tp (q + ap)) (fun (q : Nat) => vp (q + ap)) (fun (q : Nat) => gp (q + ap))
 fun (q : Nat) => wp (q + ap)) =
 (0 : Int) ∧
 (0 : Int) ≤ x0 ∧ x0 < (↑np : Int)))
 (test (lim IntKind.i64
 (S.dl (fun (q : Nat) => tp (q + ap)) (fun (q : Nat) => vp (q + ap)) (Int.toNat x0) -
 S.dl (fun (q : Nat) => tp (q + ap)) (fun (q : Nat) => wp (q + ap)) (Int.toNat x0)))
 (test (lim IntKind.i64
 (S.dl (fun (q : Nat) => tp (q + ap)) (fun (q : Nat) => vp (q + ap)) (Int.toNat x0) +
 S.dl (fun (q : Nat) => tp (q + ap)) (fun (q : Nat) => wp (q + ap)) (Int.toNat x0)))
 (test (decide (List.length x1 + 1 ≤ 1000000))
 (test (decide (List.length x1 ≤ List.length x1))
 (test (true)
 (test (lim IntKind.i64 (x0 + (1 : Int)))
 (Kst (hd Try.f18 0) ([PV.ptr (PA.mk (1) (0) (0) (0)),
 PV.own (6) (4) (List.length x1 + 1), PV.int IntKind.i64 (x0 + (1 : Int))]) ([[(0, false,
 Blk.cols mp
 [Col.int IntKind.i64 tp, Col.int IntKind.i64 vp, Col.int IntKind.i64 gp,
 Col.int IntKind.i64 wp]),
 (6, true,
 Blk.cols (List.length x1 + 1)
 [Col.int IntKind.i64 fun (j : Nat) =>
 bif Nat.blt j (List.length x1) then (S.at' x1 j).1
 else
 S.dl (fun (q : Nat) => tp (q + ap)) (fun (q : Nat) => vp (q + ap)) (Int.toNat x0) -
 S.dl (fun (q : Nat) => tp (q + ap)) (fun (q : Nat) => wp (q + ap)) (Int.toNat x0),
 Col.int IntKind.i64 fun (j : Nat) =>
 bif Nat.blt j (List.length x1) then (S.at' x1 j).2.1
 else
 S.dl (fun (q : Nat) => tp (q + ap)) (fun (q : Nat) => vp (q + ap)) (Int.toNat x0) +
 S.dl (fun (q : Nat) => tp (q + ap)) (fun (q : Nat) => wp (q + ap)) (Int.toNat x0),
 Col.bool fun (j : Nat) =>
 bif Nat.blt j (List.length x1) then (S.at' x1 j).2.2.1 else false,
 Col.bool fun (j : Nat) =>
 bif Nat.blt j (List.length x1) then (S.at' x1 j).2.2.2 else false]),
 (1, true, Blk.cells [PV.loose (PA.mk (0) (4) ap (0)) np])]]) (7))
 (False))
 (False))
 (False))
 (False))
 (False))
 (False))
 (False))
 (False))
 (Kret (PV.tup [PV.own (2) (4) (List.length x1), PV.int IntKind.i64 (0 : Int)]) ([[(0, false,
 Blk.cols mp
 [Col.int IntKind.i64 tp, Col.int IntKind.i64 vp, Col.int IntKind.i64 gp,
 Col.int IntKind.i64 wp]),
 (2, true,
 Blk.cols (List.length x1)
 [Col.int IntKind.i64 fun (j : Nat) => (S.at' x1 j).1,
 Col.int IntKind.i64 fun (j : Nat) => (S.at' x1 j).2.1,
 Col.bool fun (j : Nat) => (S.at' x1 j).2.2.1,
 Col.bool fun (j : Nat) => (S.at' x1 j).2.2.2])]]) (3))
set_option maxRecDepth 100000 in
theorem t18_0 (test : Bool → Prop → Prop → Prop) (Kst : KS) (Kret : KR) (ap np mp : Nat) (tp : Nat → Int) (vp : Nat → Int) (gp : Nat → Int) (wp : Nat → Int) (x0 : Int) (x1 : List (Int × Int × Bool × Bool)) : run test Try.env true (xB test) true 400 ⟨18, hd Try.f18 0, zipT [1, 5, 6] [PV.ptr (PA.mk (1) (0) (0) (0)),
 PV.own (2) (4) (List.length x1), PV.int IntKind.i64 x0], [[(1, (true, Blk.cells [PV.loose (PA.mk (0) (4) ap (0)) np])), (2, (true, Blk.cols (List.length x1)
 [Col.int IntKind.i64 fun (j : Nat) => (S.at' x1 j).1,
 Col.int IntKind.i64 fun (j : Nat) => (S.at' x1 j).2.1,
 Col.bool fun (j : Nat) => (S.at' x1 j).2.2.1,
 Col.bool fun (j : Nat) => (S.at' x1 j).2.2.2]))], [(0, (false, .cols mp [.int .i64 tp, .int .i64 vp, .int .i64 gp, .int .i64 wp]))]], 3⟩ (proj 1 [1, 5, 6] Kst Kret) =
  T18_0 test Kst Kret ap np mp tp vp gp wp x0 x1 := by kernel_rfl
set_option maxRecDepth 100000 in
theorem be18 (ap np mp : Nat) (tp : Nat → Int) (vp : Nat → Int) (gp : Nat → Int) (wp : Nat → Int) (Kst : KS) (Kret : KR) (x : St18 ⊕ Rt18) (hS : HS 1 400 ((I18 ap np mp tp vp gp wp)) Kst x) (hR : HR 1 400 ((V18 ap np mp tp vp gp wp)) (fun r => [newL (1 + 1) ((N18 ap np mp tp vp gp wp) r) ++ [(0, (false, .cols mp [.int .i64 tp, .int .i64 vp, .int .i64 gp, .int .i64 wp]))]]) Kret x) (h : (bif (decide (ap + np ≤ mp ∧ np ≤ 1000000))
 then (bif ((S.treE np (fun (q : Nat) => tp (q + ap)) (fun (q : Nat) => vp (q + ap)) (fun (q : Nat) => gp (q + ap))
 fun (q : Nat) => wp (q + ap)) !=
 (0 : Int))
 then (some (.inr (S.treE np (fun (q : Nat) => tp (q + ap)) (fun (q : Nat) => vp (q + ap)) (fun (q : Nat) => gp (q + ap))
 fun (q : Nat) => wp (q + ap), [])))
 else (some (.inl (.h0 ((0 : Int)) ([])))))
 else (none) : Option (St18 ⊕ Rt18)) = some x) : Te18 cond Kst Kret ap np mp tp vp gp wp := by
  unfold Te18
  exact bif_split h
   (fun c0 h => bif_split h
   (fun c1 h => ret_at hR _ h (fun n => bif Nat.beq n 2 then 399 else n) rfl rfl rfl (rn_tup ⟨(rn_own_nils rfl), (rn_int rfl), trivial⟩) rfl (entl_fresh (use_own rfl) (fresh_ok rfl) (entl_bor (use_lo rfl) rfl rfl entl_nil)))
   (fun c1 h => stop_at hS _ h (fun n => bif Nat.beq n 1 then 1 else bif Nat.beq n 2 then 399 else n) rfl rfl rfl ⟨(rn_ptr (use_own rfl) rfl rfl), ⟨(rn_own_nils rfl), ⟨(rn_int rfl), trivial⟩⟩⟩ rfl (entl_b (use_own rfl) rfl (by simp) (rb_cells ⟨(rn_loose (use_lo rfl) rfl rfl rfl), trivial⟩) (entl_fresh (use_own rfl) (fresh_ok rfl) (entl_bor (use_lo rfl) rfl rfl entl_nil)))))
   (fun c0 h => no_some h)
set_option maxRecDepth 100000 in
theorem b18_0 (ap np mp : Nat) (tp : Nat → Int) (vp : Nat → Int) (gp : Nat → Int) (wp : Nat → Int) (Kst : KS) (Kret : KR) (x : St18 ⊕ Rt18) (hS : HS 1 400 ((I18 ap np mp tp vp gp wp)) Kst x) (hR : HR 1 400 ((V18 ap np mp tp vp gp wp)) (fun r => [newL (1 + 1) ((N18 ap np mp tp vp gp wp) r) ++ [(0, (false, .cols mp [.int .i64 tp, .int .i64 vp, .int .i64 gp, .int .i64 wp]))]]) Kret x) (x0 : Int) (x1 : List (Int × Int × Bool × Bool)) (h : (bif (decide (x0 < (↑np : Int)))
 then (bif (decide
 (ap + np ≤ mp ∧
 np ≤ 1000000 ∧
 (S.treE np (fun (q : Nat) => tp (q + ap)) (fun (q : Nat) => vp (q + ap)) (fun (q : Nat) => gp (q + ap))
 fun (q : Nat) => wp (q + ap)) =
 (0 : Int) ∧
 (0 : Int) ≤ x0 ∧ x0 < (↑np : Int)))
 then (bif (lim IntKind.i64
 (S.dl (fun (q : Nat) => tp (q + ap)) (fun (q : Nat) => vp (q + ap)) (Int.toNat x0) -
 S.dl (fun (q : Nat) => tp (q + ap)) (fun (q : Nat) => wp (q + ap)) (Int.toNat x0)))
 then (bif (lim IntKind.i64
 (S.dl (fun (q : Nat) => tp (q + ap)) (fun (q : Nat) => vp (q + ap)) (Int.toNat x0) +
 S.dl (fun (q : Nat) => tp (q + ap)) (fun (q : Nat) => wp (q + ap)) (Int.toNat x0)))
 then (bif (decide (List.length x1 + 1 ≤ 1000000))
 then (bif (decide (List.length x1 ≤ List.length x1))
 then (bif (lim IntKind.i64 (x0 + (1 : Int)))
 then (some (.inl (.h0 (x0 + (1 : Int)) (S.snoc x1
 (S.dl (fun (q : Nat) => tp (q + ap)) (fun (q : Nat) => vp (q + ap)) (Int.toNat x0) -
 S.dl (fun (q : Nat) => tp (q + ap)) (fun (q : Nat) => wp (q + ap)) (Int.toNat x0),
 S.dl (fun (q : Nat) => tp (q + ap)) (fun (q : Nat) => vp (q + ap)) (Int.toNat x0) +
 S.dl (fun (q : Nat) => tp (q + ap)) (fun (q : Nat) => wp (q + ap)) (Int.toNat x0),
 false, false)))))
 else (none))
 else (none))
 else (none))
 else (none))
 else (none))
 else (none))
 else (some (.inr ((0 : Int), x1))) : Option (St18 ⊕ Rt18)) = some x) : T18_0 cond Kst Kret ap np mp tp vp gp wp x0 x1 := by
  unfold T18_0
  exact bif_split h
   (fun c0 h => bif_split h
   (fun c1 h => cond_yes c1 (bif_split h
   (fun c2 h => bif_split h
   (fun c3 h => bif_split h
   (fun c4 h => bif_split h
   (fun c5 h => cond_yes rfl (bif_split h
   (fun c6 h => stop_at hS _ h (fun n => bif Nat.beq n 1 then 1 else bif Nat.beq n 2 then 6 else n) rfl rfl rfl ⟨(rn_ptr (use_own rfl) rfl rfl), ⟨(rn_own (use_own rfl) rfl (snoc_len' rfl)), ⟨(rn_int rfl), trivial⟩⟩⟩ rfl (entl_b (use_own rfl) rfl (by simp) (rb_cells ⟨(rn_loose (use_lo rfl) rfl rfl rfl), trivial⟩) (entl_new (use_own rfl) rfl (Nat.le_of_eq (snoc_len' rfl)) (rcs_int (col_snoc' (fun (t : Int × Int × Bool × Bool) => t.1) rfl (fun _ _ => rfl)) (rcs_int (col_snoc' (fun (t : Int × Int × Bool × Bool) => t.2.1) rfl (fun _ _ => rfl)) (rcs_bool (col_snoc' (fun (t : Int × Int × Bool × Bool) => t.2.2.1) rfl (fun _ _ => rfl)) (rcs_bool (col_snoc' (fun (t : Int × Int × Bool × Bool) => t.2.2.2) rfl (fun _ _ => rfl)) rcs_nil)))) (entl_bor (use_lo rfl) rfl rfl entl_nil))))
   (fun c6 h => no_some h)))
   (fun c5 h => no_some h))
   (fun c4 h => no_some h))
   (fun c3 h => no_some h))
   (fun c2 h => no_some h)))
   (fun c1 h => no_some h))
   (fun c0 h => ret_at hR _ h (fun n => bif Nat.beq n 2 then 2 else n) rfl rfl rfl (rn_tup ⟨(rn_own (use_own rfl) rfl rfl), (rn_int rfl), trivial⟩) rfl (entl_new (use_own rfl) rfl (Nat.le_of_eq rfl) (rcs_int (fun _ _ => rfl) (rcs_int (fun _ _ => rfl) (rcs_bool (fun _ _ => rfl) (rcs_bool (fun _ _ => rfl) rcs_nil)))) (entl_bor (use_lo rfl) rfl rfl entl_nil)))
theorem a18 (ap np mp : Nat) (tp : Nat → Int) (vp : Nat → Int) (gp : Nat → Int) (wp : Nat → Int) {r : Rt18} (h : Goes ((q18 ap np mp tp vp gp wp)) ((p18 ap np mp tp vp gp wp)) r) : CallR Try.prog 18 [.agg [.loose ⟨0, 4, ap, 0⟩ np]] [[(0, (false, .cols mp [.int .i64 tp, .int .i64 vp, .int .i64 gp, .int .i64 wp]))]] 1 ((V18 ap np mp tp vp gp wp) r) ((fun r => [newL (1 + 1) ((N18 ap np mp tp vp gp wp) r) ++ [(0, (false, .cols mp [.int .i64 tp, .int .i64 vp, .int .i64 gp, .int .i64 wp]))]]) r) 400 ∧ ∃ F, Try.prog.funcs[18]? = some F ∧ F.body.isSome = true ∧ (F.name == "runtime.NumGoroutine") = false := by
  refine dec_calls (f := 18) (lo := 1) (hi := 400) (H := [[(0, (false, .cols mp [.int .i64 tp, .int .i64 vp, .int .i64 gp, .int .i64 wp]))]]) (args := [.agg [.loose ⟨0, 4, ap, 0⟩ np]]) Try.envOk Try.mixed xB_ok ((I18 ap np mp tp vp gp wp)) ((V18 ap np mp tp vp gp wp)) (fun r => [newL (1 + 1) ((N18 ap np mp tp vp gp wp) r) ++ [(0, (false, .cols mp [.int .i64 tp, .int .i64 vp, .int .i64 gp, .int .i64 wp]))]]) (fn := mkFn Try.f18) (ts := [1, 5, 6]) (n := 400) rfl (by decide) (by simp) (names_of rfl) ?_ ?_ ?_ h
  · intro s; cases s <;> exact ⟨hd_ok _ _, by simp [I18], names_of rfl, Nat.le_of_ble_eq_true rfl⟩
  · intro Kst Kret x hS hR h
    exact Holds.eq (te18 cond Kst Kret ap np mp tp vp gp wp) (be18 ap np mp tp vp gp wp Kst Kret x hS hR h)
  · intro Kst Kret x hS hR s h
    cases s with
    | h0 x0 x1 => exact Holds.eq (t18_0 cond Kst Kret ap np mp tp vp gp wp x0 x1) (b18_0 ap np mp tp vp gp wp Kst Kret x hS hR x0 x1 h)
noncomputable def k18 : Con := ⟨18, [.agg [.list [.int .i64, .int .i64, .int .i64, .int .i64]]], fun (x : ((Nat × Nat × Nat × (Nat → Int) × (Nat → Int) × (Nat → Int) × (Nat → Int) × Unit) × Unit) × Unit) => (fun (ap np mp : Nat) (tp : Nat → Int) (vp : Nat → Int) (gp : Nat → Int) (wp : Nat → Int) => decide (ap + np ≤ mp ∧ np ≤ 1000000)) x.1.1.1 x.1.1.2.1 x.1.1.2.2.1 x.1.1.2.2.2.1 x.1.1.2.2.2.2.1 x.1.1.2.2.2.2.2.1 x.1.1.2.2.2.2.2.2.1, fun (x : ((Nat × Nat × Nat × (Nat → Int) × (Nat → Int) × (Nat → Int) × (Nat → Int) × Unit) × Unit) × Unit) => (fun (ap np mp : Nat) (tp : Nat → Int) (vp : Nat → Int) (gp : Nat → Int) (wp : Nat → Int) => (V18 ap np mp tp vp gp wp) (S.dlyS np (fun q => tp (q + ap)) (fun q => vp (q + ap)) (fun q => gp (q + ap)) (fun q => wp (q + ap)))) x.1.1.1 x.1.1.2.1 x.1.1.2.2.1 x.1.1.2.2.2.1 x.1.1.2.2.2.2.1 x.1.1.2.2.2.2.2.1 x.1.1.2.2.2.2.2.2.1, fun (x : ((Nat × Nat × Nat × (Nat → Int) × (Nat → Int) × (Nat → Int) × (Nat → Int) × Unit) × Unit) × Unit) => (fun (ap np mp : Nat) (tp : Nat → Int) (vp : Nat → Int) (gp : Nat → Int) (wp : Nat → Int) => (N18 ap np mp tp vp gp wp) (S.dlyS np (fun q => tp (q + ap)) (fun q => vp (q + ap)) (fun q => gp (q + ap)) (fun q => wp (q + ap)))) x.1.1.1 x.1.1.2.1 x.1.1.2.2.1 x.1.1.2.2.2.1 x.1.1.2.2.2.2.1 x.1.1.2.2.2.2.2.1 x.1.1.2.2.2.2.2.2.1, fun _ _ => .dead⟩
theorem s18' (ap np mp : Nat) (tp : Nat → Int) (vp : Nat → Int) (gp : Nat → Int) (wp : Nat → Int) (hp : ap + np ≤ mp ∧ np ≤ 1000000 ∧ S.treE np (fun q => tp (q + ap)) (fun q => vp (q + ap)) (fun q => gp (q + ap)) (fun q => wp (q + ap)) = 0) : ∀ (k i : Nat) (L : List (Int × Int × Bool × Bool)), i + k = np → Holds (L = S.mkl i fun q => S.dlyT (fun q => tp (q + ap)) (fun q => vp (q + ap)) (fun q => wp (q + ap)) q) → Comes (q18 ap np mp tp vp gp wp) (.h0 (i : Int) L) ((0, S.mkl np fun q => S.dlyT (fun q => tp (q + ap)) (fun q => vp (q + ap)) (fun q => wp (q + ap)) q)) := by
  obtain ⟨hp1, hp2, hp3⟩ := hp
  obtain ⟨v1, v2, v3, v4⟩ := tre_ok hp3
  intro k
  induction k with
  | zero =>
    intro i L hi eL
    have hL : L.length = i := by rw [eL.get]; exact mkl_len
    apply Comes.of
    show Goes _ _ _
    (first | rw [q18] | unfold q18)
    repeat' first
      | with_reducible refine goes_if (fun h => ?_) (fun h => ?_) <;> (try simp only [lim64, decide_eq_true_eq, decide_eq_false_iff_not, Int.toNat_natCast, toNat_pred, toNat_succ, Option.getD_some, Option.getD_none, Bool.not_eq_true', Bool.not_eq_false', Bool.and_eq_true, Bool.or_eq_true, Bool.and_eq_false_iff, Bool.or_eq_false_iff, bne_iff_ne, beq_iff_eq, bne_eq_false_iff_eq, beq_eq_false_iff_ne, ne_eq, not_and, Int.not_le, Int.not_lt, ge_iff_le, gt_iff_lt, Nat.not_lt, Nat.not_le, Bool.not_eq_true, Bool.not_eq_false, Bool.true_eq_false, Bool.false_eq_true, not_false_eq_true, not_true_eq_false] at h)
      | exact goes_none.mpr (by omega)
    all_goals first | (exfalso; omega) | (obtain rfl : np = i := (by omega);  exact goes_inr.mpr (by rw [eL.get]))
  | succ k ih =>
    intro i L hi eL
    have hL : L.length = i := by rw [eL.get]; exact mkl_len
    have hd := dl_bd hp3 (x := i) (by omega)
    apply Comes.of
    show Goes _ _ _
    (first | rw [q18] | unfold q18)
    repeat' first
      | with_reducible refine goes_if (fun h => ?_) (fun h => ?_) <;> (try simp only [lim64, decide_eq_true_eq, decide_eq_false_iff_not, Int.toNat_natCast, toNat_pred, toNat_succ, Option.getD_some, Option.getD_none, Bool.not_eq_true', Bool.not_eq_false', Bool.and_eq_true, Bool.or_eq_true, Bool.and_eq_false_iff, Bool.or_eq_false_iff, bne_iff_ne, beq_iff_eq, bne_eq_false_iff_eq, beq_eq_false_iff_ne, ne_eq, not_and, Int.not_le, Int.not_lt, ge_iff_le, gt_iff_lt, Nat.not_lt, Nat.not_le, Bool.not_eq_true, Bool.not_eq_false, Bool.true_eq_false, Bool.false_eq_true, not_false_eq_true, not_true_eq_false] at h)
      | exact goes_none.mpr (by omega)
    all_goals first
      | (exfalso; omega)
      | (refine ih (i + 1) _ (by omega) ⟨?_⟩; rw [eL.get, mkl_succ]; rfl)
      | (refine ih (i + 1) _ (by omega) ⟨?_⟩ <;> (skip))
theorem s18 (ap np mp : Nat) (tp : Nat → Int) (vp : Nat → Int) (gp : Nat → Int) (wp : Nat → Int) (hp : ap + np ≤ mp ∧ np ≤ 1000000) : Goes ((q18 ap np mp tp vp gp wp)) ((p18 ap np mp tp vp gp wp)) (S.dlyS np (fun q => tp (q + ap)) (fun q => vp (q + ap)) (fun q => gp (q + ap)) (fun q => wp (q + ap))) := by
  unfold S.dlyS
  by_cases h0 : S.treE np (fun q => tp (q + ap)) (fun q => vp (q + ap)) (fun q => gp (q + ap)) (fun q => wp (q + ap)) = 0
  · rw [if_pos h0]
    obtain ⟨v1, v2, v3, v4, v5, v6⟩ := tre_ok h0
    have hm := s18' ap np mp tp vp gp wp ⟨hp.1, hp.2, h0⟩ np 0 [] (by omega) ⟨rfl⟩
    show Goes _ _ _
    unfold p18
    repeat' first
      | with_reducible refine goes_if (fun h => ?_) (fun h => ?_) <;> (try simp only [lim64, decide_eq_true_eq, decide_eq_false_iff_not, Int.toNat_natCast, toNat_pred, toNat_succ, Option.getD_some, Option.getD_none, Bool.not_eq_true', Bool.not_eq_false', Bool.and_eq_true, Bool.or_eq_true, Bool.and_eq_false_iff, Bool.or_eq_false_iff, bne_iff_ne, beq_iff_eq, bne_eq_false_iff_eq, beq_eq_false_iff_ne, ne_eq, not_and, Int.not_le, Int.not_lt, ge_iff_le, gt_iff_lt, Nat.not_lt, Nat.not_le, Bool.not_eq_true, Bool.not_eq_false, Bool.true_eq_false, Bool.false_eq_true, not_false_eq_true, not_true_eq_false] at h)
      | exact goes_none.mpr (by omega)
    all_goals first | (exfalso; omega) | exact hm
  · rw [if_neg h0]
    show Goes _ _ _
    unfold p18
    repeat' first
      | with_reducible refine goes_if (fun h => ?_) (fun h => ?_) <;> (try simp only [lim64, decide_eq_true_eq, decide_eq_false_iff_not, Int.toNat_natCast, toNat_pred, toNat_succ, Option.getD_some, Option.getD_none, Bool.not_eq_true', Bool.not_eq_false', Bool.and_eq_true, Bool.or_eq_true, Bool.and_eq_false_iff, Bool.or_eq_false_iff, bne_iff_ne, beq_iff_eq, bne_eq_false_iff_eq, beq_eq_false_iff_ne, ne_eq, not_and, Int.not_le, Int.not_lt, ge_iff_le, gt_iff_lt, Nat.not_lt, Nat.not_le, Bool.not_eq_true, Bool.not_eq_false, Bool.true_eq_false, Bool.false_eq_true, not_false_eq_true, not_true_eq_false] at h)
      | exact goes_none.mpr (by omega)
    all_goals first | (exfalso; omega) | rfl

theorem k18_ok : k18.ok Try.prog := by
  intro x hx
  obtain ⟨⟨⟨ap, np, mp, tp, vp, gp, wp, _⟩, _⟩, _⟩ := x
  obtain ⟨h1, h2⟩ := a18 ap np mp tp vp gp wp (s18 ap np mp tp vp gp wp (of_dec hx rfl))
  exact ⟨⟨400, (by decide : 1 + 1 + 1 ≤ 400), h1⟩, h2⟩

end Go.Ev
