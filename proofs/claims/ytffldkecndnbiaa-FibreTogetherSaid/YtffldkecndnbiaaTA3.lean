/-
  The delays of a node.
-/
import Derived.Test.YtffldkecndnbiaaTA2
namespace Go.Ev
open Go.Proofs
set_option linter.unusedVariables false
set_option linter.unusedSimpArgs false
set_option maxRecDepth 100000
inductive St43 where
  | h0 (x0 : Int) (x1 : Int) (x2 : Int) (x3 : List Int)
abbrev Rt43 := Int × Int
noncomputable def V43 (ap np mp : Nat) (tp : Nat → Int) (vp : Nat → Int) (gp : Nat → Int) (wp : Nat → Int) (node : Int) (r : Rt43) : PV := PV.tup [PV.int IntKind.i64 r.1, PV.int IntKind.i64 r.2]
noncomputable def N43 (ap np mp : Nat) (tp : Nat → Int) (vp : Nat → Int) (gp : Nat → Int) (wp : Nat → Int) (node : Int) (r : Rt43) : List Blk := []
noncomputable def I43 (ap np mp : Nat) (tp : Nat → Int) (vp : Nat → Int) (gp : Nat → Int) (wp : Nat → Int) (node : Int) : St43 → Hd
  | .h0 x0 x1 x2 x3 => ⟨hd Try.f43 0, [PV.ptr (PA.mk (1) (0) (0) (0)), PV.int IntKind.i64 x0,
 PV.int IntKind.i64 x1, PV.own (2) (1) (List.length x3),
 PV.int IntKind.i64 (↑(List.length (S.pathL (fun (q : Nat) => tp (q + ap)) (Int.toNat node) [])) : Int),
 PV.int IntKind.i64 x2], [[(1, (true, Blk.cells [PV.loose (PA.mk (0) (4) ap (0)) np])), (2, (true, Blk.cols (List.length x3) [Col.int IntKind.i64 fun (j : Nat) => S.at' x3 j]))], [(0, (false, .cols mp [.int .i64 tp, .int .i64 vp, .int .i64 gp, .int .i64 wp]))]], 3⟩
noncomputable def q43 (ap np mp : Nat) (tp : Nat → Int) (vp : Nat → Int) (gp : Nat → Int) (wp : Nat → Int) (node : Int) : St43 → Option (St43 ⊕ Rt43)
  | .h0 x0 x1 x2 x3 => bif (decide (x2 < (↑(List.length (S.pathL (fun (q : Nat) => tp (q + ap)) (Int.toNat node) [])) : Int)))
 then (bif (decide ((0 : Int) ≤ x2 ∧ x2 < (↑(List.length x3) : Int)))
 then (bif (decide (Int.toNat x2 < List.length x3))
 then (bif (decide ((0 : Int) ≤ S.at' x3 (Int.toNat x2) ∧ S.at' x3 (Int.toNat x2) < (↑np : Int)))
 then (bif (decide (Int.toNat (S.at' x3 (Int.toNat x2)) + ap < mp))
 then (bif (lim IntKind.i64 (x0 + vp (Int.toNat (S.at' x3 (Int.toNat x2)) + ap)))
 then (bif (lim IntKind.i64 (x1 + wp (Int.toNat (S.at' x3 (Int.toNat x2)) + ap)))
 then (bif (lim IntKind.i64 (x2 + (1 : Int)))
 then (some (.inl (.h0 (x0 + vp (Int.toNat (S.at' x3 (Int.toNat x2)) + ap)) (x1 + wp (Int.toNat (S.at' x3 (Int.toNat x2)) + ap)) (x2 + (1 : Int)) (x3))))
 else (none))
 else (none))
 else (none))
 else (none))
 else (none))
 else (none))
 else (none))
 else (some (.inr (x0, x1)))
noncomputable def p43 (ap np mp : Nat) (tp : Nat → Int) (vp : Nat → Int) (gp : Nat → Int) (wp : Nat → Int) (node : Int) : Option (St43 ⊕ Rt43) := bif (decide
 (ap + np ≤ mp ∧
 np ≤ 1000000 ∧
 (S.treE np (fun (q : Nat) => tp (q + ap)) (fun (q : Nat) => vp (q + ap)) (fun (q : Nat) => gp (q + ap))
 fun (q : Nat) => wp (q + ap)) =
 (0 : Int) ∧
 (0 : Int) ≤ node ∧ node < (↑np : Int)))
 then (some (.inl (.h0 ((0 : Int)) ((0 : Int)) ((0 : Int)) (S.pathL (fun (q : Nat) => tp (q + ap)) (Int.toNat node) []))))
 else (none)
noncomputable def Te43 (test : Bool → Prop → Prop → Prop) (Kst : KS) (Kret : KR) (ap np mp : Nat) (tp : Nat → Int) (vp : Nat → Int) (gp : Nat → Int) (wp : Nat → Int) (node : Int) : Prop :=
  test (decide
 (ap + np ≤ mp ∧
 np ≤ 1000000 ∧
 (S.treE np (fun (q : Nat) => tp (q + ap)) (fun (q : Nat) => vp (q + ap)) (fun (q : Nat) => gp (q + ap))
 fun (q : Nat) => wp (q + ap)) =
 (0 : Int) ∧
 (0 : Int) ≤ node ∧ node < (↑np : Int)))
 (Kst (hd Try.f43 0) ([PV.ptr (PA.mk (1) (0) (0) (0)), PV.int IntKind.i64 (0 : Int),
 PV.int IntKind.i64 (0 : Int),
 PV.own (3) (1) (List.length (S.pathL (fun (q : Nat) => tp (q + ap)) (Int.toNat node) [])),
 PV.int IntKind.i64 (↑(List.length (S.pathL (fun (q : Nat) => tp (q + ap)) (Int.toNat node) [])) : Int),
 PV.int IntKind.i64 (0 : Int)]) ([[(0, false,
 Blk.cols mp
 [Col.int IntKind.i64 tp, Col.int IntKind.i64 vp, Col.int IntKind.i64 gp,
 Col.int IntKind.i64 wp]),
 (3, true,
 Blk.cols (List.length (S.pathL (fun (q : Nat) => tp (q + ap)) (Int.toNat node) []))
 [Col.int IntKind.i64 fun (j : Nat) =>
 S.at' (S.pathL (fun (q : Nat) => tp (q + ap)) (Int.toNat node) []) j]),
 (1, true, Blk.cells [PV.loose (PA.mk (0) (4) ap (0)) np])]]) (4))
 (False)
set_option maxRecDepth 100000 in
theorem te43 (test : Bool → Prop → Prop → Prop) (Kst : KS) (Kret : KR) (ap np mp : Nat) (tp : Nat → Int) (vp : Nat → Int) (gp : Nat → Int) (wp : Nat → Int) (node : Int) : run test Try.env true (xA test) true 400 ⟨43, [.cd (mkFn Try.f43).body], argT 0 [.agg [.loose ⟨0, 4, ap, 0⟩ np], .int .i64 node], [[], [(0, (false, .cols mp [.int .i64 tp, .int .i64 vp, .int .i64 gp, .int .i64 wp]))]], 1⟩ (proj 1 [2, 6, 7, 12, 13, 14] Kst Kret) =
  Te43 test Kst Kret ap np mp tp vp gp wp node := by kernel_rfl
noncomputable def T43_0 (test : Bool → Prop → Prop → Prop) (Kst : KS) (Kret : KR) (ap np mp : Nat) (tp : Nat → Int) (vp : Nat → Int) (gp : Nat → Int) (wp : Nat → Int) (node : Int) (x0 : Int) (x1 : Int) (x2 : Int) (x3 : List Int) : Prop :=
  test (decide (x2 < (↑(List.length (S.pathL (fun (q : Nat) => tp (q + ap)) (Int.toNat node) [])) : Int)))
 (test (decide ((0 : Int) ≤ x2 ∧ x2 < (↑(List.length x3) : Int)))
 (test (decide (Int.toNat x2 < List.length x3))
 (test (decide ((0 : Int) ≤ S.at' x3 (Int.toNat x2) ∧ S.at' x3 (Int.toNat x2) < (↑np : Int)))
 (test (decide (Int.toNat (S.at' x3 (Int.toNat x2)) + ap < mp))
 (test (lim IntKind.i64 (x0 + vp (Int.toNat (S.at' x3 (Int.toNat x2)) + ap)))
 (test (decide ((0 : Int) ≤ S.at' x3 (Int.toNat x2) ∧ S.at' x3 (Int.toNat x2) < (↑np : Int)))
 (test (decide (Int.toNat (S.at' x3 (Int.toNat x2)) + ap < mp))
 (test (lim IntKind.i64 (x1 + wp (Int.toNat (S.at' x3 (Int.toNat x2)) + ap)))
 (test (lim IntKind.i64 (x2 + (1 : Int)))
 (Kst (hd Try.f43 0) ([PV.ptr (PA.mk (1) (0) (0) (0)),
 PV.int IntKind.i64 (x0 + vp (Int.toNat (S.at' x3 (Int.toNat x2)) + ap)),
 PV.int IntKind.i64 (x1 + wp (Int.toNat (S.at' x3 (Int.toNat x2)) + ap)),
 PV.own (2) (1) (List.length x3),
 PV.int IntKind.i64 (↑(List.length (S.pathL (fun (q : Nat) => tp (q + ap)) (Int.toNat node) [])) : Int),
 PV.int IntKind.i64 (x2 + (1 : Int))]) ([[(0, false,
 Blk.cols mp
 [Col.int IntKind.i64 tp, Col.int IntKind.i64 vp, Col.int IntKind.i64 gp,
 Col.int IntKind.i64 wp]),
 (2, true,
 Blk.cols (List.length x3) [Col.int IntKind.i64 fun (j : Nat) => S.at' x3 j]),
 (1, true, Blk.cells [PV.loose (PA.mk (0) (4) ap (0)) np])]]) (3))
 (False))
 (False))
 (False))
 (False))
 (False))
 (False))
 (False))
 (False))
 (False))
 (Kret (PV.tup [PV.int IntKind.i64 x0, PV.int IntKind.i64 x1]) ([[(0, false,
 Blk.cols mp
 [Col.int IntKind.i64 tp, Col.int IntKind.i64 vp, Col.int IntKind.i64 gp,
 Col.int IntKind.i64 wp])]]) (3))
set_option maxRecDepth 100000 in
theorem t43_0 (test : Bool → Prop → Prop → Prop) (Kst : KS) (Kret : KR) (ap np mp : Nat) (tp : Nat → Int) (vp : Nat → Int) (gp : Nat → Int) (wp : Nat → Int) (node : Int) (x0 : Int) (x1 : Int) (x2 : Int) (x3 : List Int) : run test Try.env true (xA test) true 400 ⟨43, hd Try.f43 0, zipT [2, 6, 7, 12, 13, 14] [PV.ptr (PA.mk (1) (0) (0) (0)), PV.int IntKind.i64 x0,
 PV.int IntKind.i64 x1, PV.own (2) (1) (List.length x3),
 PV.int IntKind.i64 (↑(List.length (S.pathL (fun (q : Nat) => tp (q + ap)) (Int.toNat node) [])) : Int),
 PV.int IntKind.i64 x2], [[(1, (true, Blk.cells [PV.loose (PA.mk (0) (4) ap (0)) np])), (2, (true, Blk.cols (List.length x3) [Col.int IntKind.i64 fun (j : Nat) => S.at' x3 j]))], [(0, (false, .cols mp [.int .i64 tp, .int .i64 vp, .int .i64 gp, .int .i64 wp]))]], 3⟩ (proj 1 [2, 6, 7, 12, 13, 14] Kst Kret) =
  T43_0 test Kst Kret ap np mp tp vp gp wp node x0 x1 x2 x3 := by kernel_rfl
set_option maxRecDepth 100000 in
theorem be43 (ap np mp : Nat) (tp : Nat → Int) (vp : Nat → Int) (gp : Nat → Int) (wp : Nat → Int) (node : Int) (Kst : KS) (Kret : KR) (x : St43 ⊕ Rt43) (hS : HS 1 400 ((I43 ap np mp tp vp gp wp node)) Kst x) (hR : HR 1 400 ((V43 ap np mp tp vp gp wp node)) (fun r => [newL (1 + 1) ((N43 ap np mp tp vp gp wp node) r) ++ [(0, (false, .cols mp [.int .i64 tp, .int .i64 vp, .int .i64 gp, .int .i64 wp]))]]) Kret x) (h : (bif (decide
 (ap + np ≤ mp ∧
 np ≤ 1000000 ∧
 (S.treE np (fun (q : Nat) => tp (q + ap)) (fun (q : Nat) => vp (q + ap)) (fun (q : Nat) => gp (q + ap))
 fun (q : Nat) => wp (q + ap)) =
 (0 : Int) ∧
 (0 : Int) ≤ node ∧ node < (↑np : Int)))
 then (some (.inl (.h0 ((0 : Int)) ((0 : Int)) ((0 : Int)) (S.pathL (fun (q : Nat) => tp (q + ap)) (Int.toNat node) []))))
 else (none) : Option (St43 ⊕ Rt43)) = some x) : Te43 cond Kst Kret ap np mp tp vp gp wp node := by
  unfold Te43
  exact bif_split h
   (fun c0 h => stop_at hS _ h (fun n => bif Nat.beq n 1 then 1 else bif Nat.beq n 2 then 3 else n) rfl rfl rfl ⟨(rn_ptr (use_own rfl) rfl rfl), ⟨(rn_int rfl), ⟨(rn_int rfl), ⟨(rn_own (use_own rfl) rfl rfl), ⟨(rn_int rfl), ⟨(rn_int rfl), trivial⟩⟩⟩⟩⟩⟩ rfl (entl_b (use_own rfl) rfl (by simp) (rb_cells ⟨(rn_loose (use_lo rfl) rfl rfl rfl), trivial⟩) (entl_new (use_own rfl) rfl (Nat.le_of_eq rfl) (rcs_int (fun _ _ => rfl) rcs_nil) (entl_bor (use_lo rfl) rfl rfl entl_nil))))
   (fun c0 h => no_some h)
set_option maxRecDepth 100000 in
theorem b43_0 (ap np mp : Nat) (tp : Nat → Int) (vp : Nat → Int) (gp : Nat → Int) (wp : Nat → Int) (node : Int) (Kst : KS) (Kret : KR) (x : St43 ⊕ Rt43) (hS : HS 1 400 ((I43 ap np mp tp vp gp wp node)) Kst x) (hR : HR 1 400 ((V43 ap np mp tp vp gp wp node)) (fun r => [newL (1 + 1) ((N43 ap np mp tp vp gp wp node) r) ++ [(0, (false, .cols mp [.int .i64 tp, .int .i64 vp, .int .i64 gp, .int .i64 wp]))]]) Kret x) (x0 : Int) (x1 : Int) (x2 : Int) (x3 : List Int) (h : (bif (decide (x2 < (↑(List.length (S.pathL (fun (q : Nat) => tp (q + ap)) (Int.toNat node) [])) : Int)))
 then (bif (decide ((0 : Int) ≤ x2 ∧ x2 < (↑(List.length x3) : Int)))
 then (bif (decide (Int.toNat x2 < List.length x3))
 then (bif (decide ((0 : Int) ≤ S.at' x3 (Int.toNat x2) ∧ S.at' x3 (Int.toNat x2) < (↑np : Int)))
 then (bif (decide (Int.toNat (S.at' x3 (Int.toNat x2)) + ap < mp))
 then (bif (lim IntKind.i64 (x0 + vp (Int.toNat (S.at' x3 (Int.toNat x2)) + ap)))
 then (bif (lim IntKind.i64 (x1 + wp (Int.toNat (S.at' x3 (Int.toNat x2)) + ap)))
 then (bif (lim IntKind.i64 (x2 + (1 : Int)))
 then (some (.inl (.h0 (x0 + vp (Int.toNat (S.at' x3 (Int.toNat x2)) + ap)) (x1 + wp (Int.toNat (S.at' x3 (Int.toNat x2)) + ap)) (x2 + (1 : Int)) (x3))))
 else (none))
 else (none))
 else (none))
 else (none))
 else (none))
 else (none))
 else (none))
 else (some (.inr (x0, x1))) : Option (St43 ⊕ Rt43)) = some x) : T43_0 cond Kst Kret ap np mp tp vp gp wp node x0 x1 x2 x3 := by
  unfold T43_0
  exact bif_split h
   (fun c0 h => bif_split h
   (fun c1 h => bif_split h
   (fun c2 h => bif_split h
   (fun c3 h => bif_split h
   (fun c4 h => bif_split h
   (fun c5 h => cond_yes c3 (cond_yes c4 (bif_split h
   (fun c6 h => bif_split h
   (fun c7 h => stop_at hS _ h (fun n => bif Nat.beq n 1 then 1 else bif Nat.beq n 2 then 2 else n) rfl rfl rfl ⟨(rn_ptr (use_own rfl) rfl rfl), ⟨(rn_int rfl), ⟨(rn_int rfl), ⟨(rn_own (use_own rfl) rfl rfl), ⟨(rn_int rfl), ⟨(rn_int rfl), trivial⟩⟩⟩⟩⟩⟩ rfl (entl_b (use_own rfl) rfl (by simp) (rb_cells ⟨(rn_loose (use_lo rfl) rfl rfl rfl), trivial⟩) (entl_new (use_own rfl) rfl (Nat.le_of_eq rfl) (rcs_int (fun _ _ => rfl) rcs_nil) (entl_bor (use_lo rfl) rfl rfl entl_nil))))
   (fun c7 h => no_some h))
   (fun c6 h => no_some h))))
   (fun c5 h => no_some h))
   (fun c4 h => no_some h))
   (fun c3 h => no_some h))
   (fun c2 h => no_some h))
   (fun c1 h => no_some h))
   (fun c0 h => ret_at hR _ h (fun n => n) rfl rfl rfl (rn_tup ⟨(rn_int rfl), (rn_int rfl), trivial⟩) rfl (entl_bor (use_lo rfl) rfl rfl entl_nil))
theorem a43 (ap np mp : Nat) (tp : Nat → Int) (vp : Nat → Int) (gp : Nat → Int) (wp : Nat → Int) (node : Int) {r : Rt43} (h : Goes ((q43 ap np mp tp vp gp wp node)) ((p43 ap np mp tp vp gp wp node)) r) : CallR Try.prog 43 [.agg [.loose ⟨0, 4, ap, 0⟩ np], .int .i64 node] [[(0, (false, .cols mp [.int .i64 tp, .int .i64 vp, .int .i64 gp, .int .i64 wp]))]] 1 ((V43 ap np mp tp vp gp wp node) r) ((fun r => [newL (1 + 1) ((N43 ap np mp tp vp gp wp node) r) ++ [(0, (false, .cols mp [.int .i64 tp, .int .i64 vp, .int .i64 gp, .int .i64 wp]))]]) r) 400 ∧ ∃ F, Try.prog.funcs[43]? = some F ∧ F.body.isSome = true ∧ (F.name == "runtime.NumGoroutine") = false := by
  refine dec_calls (f := 43) (lo := 1) (hi := 400) (H := [[(0, (false, .cols mp [.int .i64 tp, .int .i64 vp, .int .i64 gp, .int .i64 wp]))]]) (args := [.agg [.loose ⟨0, 4, ap, 0⟩ np], .int .i64 node]) Try.envOk Try.mixed xA_ok ((I43 ap np mp tp vp gp wp node)) ((V43 ap np mp tp vp gp wp node)) (fun r => [newL (1 + 1) ((N43 ap np mp tp vp gp wp node) r) ++ [(0, (false, .cols mp [.int .i64 tp, .int .i64 vp, .int .i64 gp, .int .i64 wp]))]]) (fn := mkFn Try.f43) (ts := [2, 6, 7, 12, 13, 14]) (n := 400) rfl (by decide) (by simp) (names_of rfl) ?_ ?_ ?_ h
  · intro s; cases s <;> exact ⟨hd_ok _ _, by simp [I43], names_of rfl, Nat.le_of_ble_eq_true rfl⟩
  · intro Kst Kret x hS hR h
    exact Holds.eq (te43 cond Kst Kret ap np mp tp vp gp wp node) (be43 ap np mp tp vp gp wp node Kst Kret x hS hR h)
  · intro Kst Kret x hS hR s h
    cases s with
    | h0 x0 x1 x2 x3 => exact Holds.eq (t43_0 cond Kst Kret ap np mp tp vp gp wp node x0 x1 x2 x3) (b43_0 ap np mp tp vp gp wp node Kst Kret x hS hR x0 x1 x2 x3 h)
noncomputable def k43 : Con := ⟨43, [.agg [.list [.int .i64, .int .i64, .int .i64, .int .i64]], .one (.plain (.int .i64))], fun (x : ((Nat × Nat × Nat × (Nat → Int) × (Nat → Int) × (Nat → Int) × (Nat → Int) × Unit) × Unit) × Int × Unit) => (fun (ap np mp : Nat) (tp : Nat → Int) (vp : Nat → Int) (gp : Nat → Int) (wp : Nat → Int) (node : Int) => decide (ap + np ≤ mp ∧ np ≤ 1000000 ∧ S.treE np (fun q => tp (q + ap)) (fun q => vp (q + ap)) (fun q => gp (q + ap)) (fun q => wp (q + ap)) = 0 ∧ 0 ≤ node ∧ node < np)) x.1.1.1 x.1.1.2.1 x.1.1.2.2.1 x.1.1.2.2.2.1 x.1.1.2.2.2.2.1 x.1.1.2.2.2.2.2.1 x.1.1.2.2.2.2.2.2.1 x.2.1, fun (x : ((Nat × Nat × Nat × (Nat → Int) × (Nat → Int) × (Nat → Int) × (Nat → Int) × Unit) × Unit) × Int × Unit) => (fun (ap np mp : Nat) (tp : Nat → Int) (vp : Nat → Int) (gp : Nat → Int) (wp : Nat → Int) (node : Int) => (V43 ap np mp tp vp gp wp node) ((S.dl (fun q => tp (q + ap)) (fun q => vp (q + ap)) node.toNat, S.dl (fun q => tp (q + ap)) (fun q => wp (q + ap)) node.toNat))) x.1.1.1 x.1.1.2.1 x.1.1.2.2.1 x.1.1.2.2.2.1 x.1.1.2.2.2.2.1 x.1.1.2.2.2.2.2.1 x.1.1.2.2.2.2.2.2.1 x.2.1, fun (x : ((Nat × Nat × Nat × (Nat → Int) × (Nat → Int) × (Nat → Int) × (Nat → Int) × Unit) × Unit) × Int × Unit) => (fun (ap np mp : Nat) (tp : Nat → Int) (vp : Nat → Int) (gp : Nat → Int) (wp : Nat → Int) (node : Int) => (N43 ap np mp tp vp gp wp node) ((S.dl (fun q => tp (q + ap)) (fun q => vp (q + ap)) node.toNat, S.dl (fun q => tp (q + ap)) (fun q => wp (q + ap)) node.toNat))) x.1.1.1 x.1.1.2.1 x.1.1.2.2.1 x.1.1.2.2.2.1 x.1.1.2.2.2.2.1 x.1.1.2.2.2.2.2.1 x.1.1.2.2.2.2.2.2.1 x.2.1, fun _ _ => .dead⟩
theorem s43' (ap np mp : Nat) (tp : Nat → Int) (vp : Nat → Int) (gp : Nat → Int) (wp : Nat → Int) (node : Int) (hp1 : ap + np ≤ mp) (hn : np ≤ 60) (hv : ∀ i, i < np → (0 ≤ vp (i + ap) ∧ vp (i + ap) ≤ 1000000) ∧ 0 ≤ wp (i + ap) ∧ wp (i + ap) ≤ 1000000) {L : List Int} (hL : L.length ≤ 60) (hin : ∀ q, q < L.length → 0 < S.at' L q ∧ S.at' L q < np) (hlen : (S.pathL (fun q => tp (q + ap)) node.toNat []).length = L.length) : ∀ (k i : Nat) (yv yw : Int), i + k = L.length → Holds (yv = S.sumN (fun q => vp ((S.at' L q).toNat + ap)) i) → Holds (yw = S.sumN (fun q => wp ((S.at' L q).toNat + ap)) i) → Comes (q43 ap np mp tp vp gp wp node) (.h0 yv yw (i : Int) L) (S.sumN (fun q => vp ((S.at' L q).toNat + ap)) L.length, S.sumN (fun q => wp ((S.at' L q).toNat + ap)) L.length) := by
  intro k
  induction k with
  | zero =>
    intro i yv yw hi eyv eyw
    obtain rfl : L.length = i := by omega
    apply Comes.of
    show Goes _ _ _
    (first | rw [q43] | unfold q43)
    repeat' first
      | with_reducible refine goes_if (fun h => ?_) (fun h => ?_) <;> (try simp only [lim64, decide_eq_true_eq, decide_eq_false_iff_not, Int.toNat_natCast, toNat_pred, toNat_succ, Option.getD_some, Option.getD_none, Bool.not_eq_true', Bool.not_eq_false', Bool.and_eq_true, Bool.or_eq_true, Bool.and_eq_false_iff, Bool.or_eq_false_iff, bne_iff_ne, beq_iff_eq, bne_eq_false_iff_eq, beq_eq_false_iff_ne, ne_eq, not_and, Int.not_le, Int.not_lt, ge_iff_le, gt_iff_lt, Nat.not_lt, Nat.not_le, Bool.not_eq_true, Bool.not_eq_false, Bool.true_eq_false, Bool.false_eq_true, not_false_eq_true, not_true_eq_false, hlen] at h)
      | exact goes_none.mpr (by omega)
    all_goals first | (exfalso; omega) | (rw [eyv.get]; rw [eyw.get]; exact goes_inr.mpr rfl)
  | succ k ih =>
    intro i yv yw hi eyv eyw
    have hb := hin i (by omega)
    have hw := hv (S.at' L i).toNat (by omega)
    have gyv := sum_bnd (f := fun q => vp ((S.at' L q).toNat + ap)) (c := 0) (e := 1000000) (n := i) (fun q hq => by have := hin q (by omega); have := hv (S.at' L q).toNat (by omega); (try dsimp only); omega)
    rw [← eyv.get] at gyv
    have gyw := sum_bnd (f := fun q => wp ((S.at' L q).toNat + ap)) (c := 0) (e := 1000000) (n := i) (fun q hq => by have := hin q (by omega); have := hv (S.at' L q).toNat (by omega); (try dsimp only); omega)
    rw [← eyw.get] at gyw
    apply Comes.of
    show Goes _ _ _
    (first | rw [q43] | unfold q43)
    repeat' first
      | with_reducible refine goes_if (fun h => ?_) (fun h => ?_) <;> (try simp only [lim64, decide_eq_true_eq, decide_eq_false_iff_not, Int.toNat_natCast, toNat_pred, toNat_succ, Option.getD_some, Option.getD_none, Bool.not_eq_true', Bool.not_eq_false', Bool.and_eq_true, Bool.or_eq_true, Bool.and_eq_false_iff, Bool.or_eq_false_iff, bne_iff_ne, beq_iff_eq, bne_eq_false_iff_eq, beq_eq_false_iff_ne, ne_eq, not_and, Int.not_le, Int.not_lt, ge_iff_le, gt_iff_lt, Nat.not_lt, Nat.not_le, Bool.not_eq_true, Bool.not_eq_false, Bool.true_eq_false, Bool.false_eq_true, not_false_eq_true, not_true_eq_false, hlen] at h)
      | exact goes_none.mpr (by omega)
    all_goals first
      | (exfalso; omega)
      | (refine ih (i + 1) _ _ (by omega) ⟨?_⟩ ⟨?_⟩ <;> (simp only [S.sumN, Int.toNat_natCast, ← eyv.get, ← eyw.get]))
theorem s43 (ap np mp : Nat) (tp : Nat → Int) (vp : Nat → Int) (gp : Nat → Int) (wp : Nat → Int) (node : Int) (hp : ap + np ≤ mp ∧ np ≤ 1000000 ∧ S.treE np (fun q => tp (q + ap)) (fun q => vp (q + ap)) (fun q => gp (q + ap)) (fun q => wp (q + ap)) = 0 ∧ 0 ≤ node ∧ node < np) : Goes ((q43 ap np mp tp vp gp wp node)) ((p43 ap np mp tp vp gp wp node)) ((S.dl (fun q => tp (q + ap)) (fun q => vp (q + ap)) node.toNat, S.dl (fun q => tp (q + ap)) (fun q => wp (q + ap)) node.toNat)) := by
  obtain ⟨hp1, hp2, hp3, hp4, hp5⟩ := hp
  obtain ⟨v1, v2, v3, v4, v5, v6⟩ := tre_ok hp3
  have hln := path_len (p := (fun q => tp (q + ap))) node.toNat []
  have hm := s43' ap np mp tp vp gp wp node hp1 v2 (fun i hi => by have := v5 i hi; (try dsimp only at this); omega) (L := (S.pathL (fun q => tp (q + ap)) node.toNat [])) (by have : ([] : List Int).length = 0 := rfl; omega) (fun q hq => by have := path_in hq; omega) rfl (S.pathL (fun q => tp (q + ap)) node.toNat []).length 0 0 0 (by omega) ⟨rfl⟩ ⟨rfl⟩
  have ev : S.sumN (fun q => vp ((S.at' (S.pathL (fun q => tp (q + ap)) node.toNat []) q).toNat + ap)) (S.pathL (fun q => tp (q + ap)) node.toNat []).length = S.dl (fun q => tp (q + ap)) (fun q => vp (q + ap)) node.toNat := path_sum0 (g := (fun q => vp (q + ap)))
  rw [ev] at hm
  have ew : S.sumN (fun q => wp ((S.at' (S.pathL (fun q => tp (q + ap)) node.toNat []) q).toNat + ap)) (S.pathL (fun q => tp (q + ap)) node.toNat []).length = S.dl (fun q => tp (q + ap)) (fun q => wp (q + ap)) node.toNat := path_sum0 (g := (fun q => wp (q + ap)))
  rw [ew] at hm
  show Goes _ _ _
  unfold p43
  repeat' first
    | with_reducible refine goes_if (fun h => ?_) (fun h => ?_) <;> (try simp only [lim64, decide_eq_true_eq, decide_eq_false_iff_not, Int.toNat_natCast, toNat_pred, toNat_succ, Option.getD_some, Option.getD_none, Bool.not_eq_true', Bool.not_eq_false', Bool.and_eq_true, Bool.or_eq_true, Bool.and_eq_false_iff, Bool.or_eq_false_iff, bne_iff_ne, beq_iff_eq, bne_eq_false_iff_eq, beq_eq_false_iff_ne, ne_eq, not_and, Int.not_le, Int.not_lt, ge_iff_le, gt_iff_lt, Nat.not_lt, Nat.not_le, Bool.not_eq_true, Bool.not_eq_false, Bool.true_eq_false, Bool.false_eq_true, not_false_eq_true, not_true_eq_false] at h)
    | exact goes_none.mpr (by omega)
  all_goals first | (exfalso; omega) | exact hm

theorem k43_ok : k43.ok Try.prog := by
  intro x hx
  obtain ⟨⟨⟨ap, np, mp, tp, vp, gp, wp, _⟩, _⟩, node, _⟩ := x
  obtain ⟨h1, h2⟩ := a43 ap np mp tp vp gp wp node (s43 ap np mp tp vp gp wp node (of_dec hx rfl))
  exact ⟨⟨400, (by decide : 1 + 1 + 0 ≤ 400), h1⟩, h2⟩
noncomputable def xB (test : Bool → Prop → Prop → Prop) : Ext := consX test [k19, k50, k43]
theorem xB_ok : ExtOk Try.prog (xB cond) := consX_ok ⟨k19_ok, k50_ok, k43_ok, trivial⟩

end Go.Ev
