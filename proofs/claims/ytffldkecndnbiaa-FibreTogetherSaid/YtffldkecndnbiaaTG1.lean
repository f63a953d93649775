/-
  Spread; Min.
-/
import Derived.Test.YtffldkecndnbiaaTG0
namespace Go.Ev
open Go.Proofs
set_option linter.unusedVariables false
set_option linter.unusedSimpArgs false
set_option maxRecDepth 100000
inductive St35 where
  | h0 (x0 : Int) (x1 : List Int)
abbrev Rt35 := List Int
noncomputable def V35 (ap np mp : Nat) (tp : Nat → Int) (vp : Nat → Int) (gp : Nat → Int) (wp : Nat → Int) (al nl ml : Nat) (tl : Nat → Int) (r : Rt35) : PV := PV.own (3) (1) (List.length r)
noncomputable def N35 (ap np mp : Nat) (tp : Nat → Int) (vp : Nat → Int) (gp : Nat → Int) (wp : Nat → Int) (al nl ml : Nat) (tl : Nat → Int) (r : Rt35) : List Blk := [Blk.cols (List.length r) [Col.int IntKind.i64 fun (j : Nat) => S.at' r j]]
noncomputable def I35 (ap np mp : Nat) (tp : Nat → Int) (vp : Nat → Int) (gp : Nat → Int) (wp : Nat → Int) (al nl ml : Nat) (tl : Nat → Int) : St35 → Hd
  | .h0 x0 x1 => ⟨hd Try.f35 0, [PV.loose (PA.mk (1) (1) al (0)) nl,
 PV.own (2) (1) (List.length x1),
 PV.loose (PA.mk (0) (4) ap (0)) np, PV.int IntKind.i64 (↑np : Int),
 PV.int IntKind.i64 x0], [[(2, (true, Blk.cols (List.length x1) [Col.int IntKind.i64 fun (j : Nat) => S.at' x1 j]))], [(0, (false, .cols mp [.int .i64 tp, .int .i64 vp, .int .i64 gp, .int .i64 wp])), (1, (false, .cols ml [.int .u8 tl]))]], 3⟩
noncomputable def q35 (ap np mp : Nat) (tp : Nat → Int) (vp : Nat → Int) (gp : Nat → Int) (wp : Nat → Int) (al nl ml : Nat) (tl : Nat → Int) : St35 → Option (St35 ⊕ Rt35)
  | .h0 x0 x1 => bif (decide (x0 < (↑np : Int)))
 then (bif (decide ((0 : Int) ≤ x0 ∧ x0 < (↑np : Int)))
 then (bif (decide (Int.toNat x0 + ap < mp))
 then (bif (decide (x0 < (↑nl : Int)))
 then (bif (decide ((0 : Int) ≤ x0 ∧ x0 < (↑nl : Int)))
 then (bif (decide (Int.toNat x0 + al < ml))
 then (bif (lim IntKind.i64 (tl (Int.toNat x0 + al)))
 then (bif (lim IntKind.i64 ((2 : Int) * wp (Int.toNat x0 + ap)))
 then (bif (lim IntKind.i64 ((2 : Int) * wp (Int.toNat x0 + ap) + (1 : Int)))
 then (bif (decide ((2 : Int) * wp (Int.toNat x0 + ap) + (1 : Int) = (0 : Int)))
 then (none)
 else (bif (lim IntKind.i64
 (Int.tmod (tl (Int.toNat x0 + al)) ((2 : Int) * wp (Int.toNat x0 + ap) + (1 : Int)) - wp (Int.toNat x0 + ap)))
 then (bif (decide (List.length x1 + 1 ≤ 1000000))
 then (bif (decide (List.length x1 ≤ List.length x1))
 then (bif (lim IntKind.i64 (x0 + (1 : Int)))
 then (some (.inl (.h0 (x0 + (1 : Int)) (S.snoc x1
 (Int.tmod (tl (Int.toNat x0 + al)) ((2 : Int) * wp (Int.toNat x0 + ap) + (1 : Int)) - wp (Int.toNat x0 + ap))))))
 else (none))
 else (none))
 else (none))
 else (none)))
 else (none))
 else (none))
 else (none))
 else (none))
 else (none))
 else (bif (decide (List.length x1 + 1 ≤ 1000000))
 then (bif (decide (List.length x1 ≤ List.length x1))
 then (bif (lim IntKind.i64 (x0 + (1 : Int)))
 then (some (.inl (.h0 (x0 + (1 : Int)) (S.snoc x1 (0 : Int)))))
 else (none))
 else (none))
 else (none)))
 else (none))
 else (none))
 else (some (.inr (x1)))
noncomputable def p35 (ap np mp : Nat) (tp : Nat → Int) (vp : Nat → Int) (gp : Nat → Int) (wp : Nat → Int) (al nl ml : Nat) (tl : Nat → Int) : Option (St35 ⊕ Rt35) := some (.inl (.h0 ((0 : Int)) ([])))
noncomputable def Te35 (test : Bool → Prop → Prop → Prop) (Kst : KS) (Kret : KR) (ap np mp : Nat) (tp : Nat → Int) (vp : Nat → Int) (gp : Nat → Int) (wp : Nat → Int) (al nl ml : Nat) (tl : Nat → Int) : Prop :=
  Kst (hd Try.f35 0) ([PV.loose (PA.mk (1) (1) al (0)) nl, PV.nils,
 PV.loose (PA.mk (0) (4) ap (0)) np, PV.int IntKind.i64 (↑np : Int),
 PV.int IntKind.i64 (0 : Int)]) ([[(1, false, Blk.cols ml [Col.int IntKind.u8 tl]),
 (0, false,
 Blk.cols mp
 [Col.int IntKind.i64 tp, Col.int IntKind.i64 vp, Col.int IntKind.i64 gp,
 Col.int IntKind.i64 wp])]]) (3)
set_option maxRecDepth 100000 in
theorem te35 (test : Bool → Prop → Prop → Prop) (Kst : KS) (Kret : KR) (ap np mp : Nat) (tp : Nat → Int) (vp : Nat → Int) (gp : Nat → Int) (wp : Nat → Int) (al nl ml : Nat) (tl : Nat → Int) : run test Try.env true noX true 400 ⟨35, [.cd (mkFn Try.f35).body], argT 0 [.agg [.loose ⟨0, 4, ap, 0⟩ np], .loose ⟨1, 1, al, 0⟩ nl], [[], [(0, (false, .cols mp [.int .i64 tp, .int .i64 vp, .int .i64 gp, .int .i64 wp])), (1, (false, .cols ml [.int .u8 tl]))]], 2⟩ (proj 2 [1, 5, 10, 11, 12] Kst Kret) =
  Te35 test Kst Kret ap np mp tp vp gp wp al nl ml tl := by kernel_rfl
noncomputable def T35_0 (test : Bool → Prop → Prop → Prop) (Kst : KS) (Kret : KR) (ap np mp : Nat) (tp : Nat → Int) (vp : Nat → Int) (gp : Nat → Int) (wp : Nat → Int) (al nl ml : Nat) (tl : Nat → Int) (x0 : Int) (x1 : List Int) : Prop :=
  test (decide (x0 < (↑np : Int)))
 (test (decide ((0 : Int) ≤ x0 ∧ x0 < (↑np : Int)))
 (test (decide (Int.toNat x0 + ap < mp))
 (test (decide (Int.toNat x0 + ap < mp))
 (test (decide (Int.toNat x0 + ap < mp))
 (test (decide (Int.toNat x0 + ap < mp))
 (test (decide (x0 < (↑nl : Int)))
 (test (decide ((0 : Int) ≤ x0 ∧ x0 < (↑nl : Int)))
 (test (decide (Int.toNat x0 + al < ml))
 (test (lim IntKind.i64 (tl (Int.toNat x0 + al)))
 (test (lim IntKind.i64 ((2 : Int) * wp (Int.toNat x0 + ap)))
 (test (lim IntKind.i64 ((2 : Int) * wp (Int.toNat x0 + ap) + (1 : Int)))
 (test (decide ((2 : Int) * wp (Int.toNat x0 + ap) + (1 : Int) = (0 : Int)))
 (False)
 (test (lim IntKind.i64
 (Int.tmod (tl (Int.toNat x0 + al)) ((2 : Int) * wp (Int.toNat x0 + ap) + (1 : Int)) - wp (Int.toNat x0 + ap)))
 (test (decide (List.length x1 + 1 ≤ 1000000))
 (test (decide (List.length x1 ≤ List.length x1))
 (test (true)
 (test (lim IntKind.i64 (x0 + (1 : Int)))
 (Kst (hd Try.f35 0) ([PV.loose (PA.mk (1) (1) al (0)) nl,
 PV.own (5) (1) (List.length x1 + 1),
 PV.loose (PA.mk (0) (4) ap (0)) np, PV.int IntKind.i64 (↑np : Int),
 PV.int IntKind.i64 (x0 + (1 : Int))]) ([[(1, false, Blk.cols ml [Col.int IntKind.u8 tl]),
 (0, false,
 Blk.cols mp
 [Col.int IntKind.i64 tp, Col.int IntKind.i64 vp, Col.int IntKind.i64 gp,
 Col.int IntKind.i64 wp]),
 (5, true,
 Blk.cols (List.length x1 + 1)
 [Col.int IntKind.i64 fun (j : Nat) =>
 bif Nat.blt j (List.length x1) then S.at' x1 j
 else
 Int.tmod (tl (Int.toNat x0 + al)) ((2 : Int) * wp (Int.toNat x0 + ap) + (1 : Int)) -
 wp (Int.toNat x0 + ap)])]]) (6))
 (False))
 (False))
 (False))
 (False))
 (False)))
 (False))
 (False))
 (False))
 (False))
 (False))
 (test (decide (List.length x1 + 1 ≤ 1000000))
 (test (decide (List.length x1 ≤ List.length x1))
 (test (true)
 (test (lim IntKind.i64 (x0 + (1 : Int)))
 (Kst (hd Try.f35 0) ([PV.loose (PA.mk (1) (1) al (0)) nl,
 PV.own (5) (1) (List.length x1 + 1),
 PV.loose (PA.mk (0) (4) ap (0)) np, PV.int IntKind.i64 (↑np : Int),
 PV.int IntKind.i64 (x0 + (1 : Int))]) ([[(1, false, Blk.cols ml [Col.int IntKind.u8 tl]),
 (0, false,
 Blk.cols mp
 [Col.int IntKind.i64 tp, Col.int IntKind.i64 vp, Col.int IntKind.i64 gp,
 Col.int IntKind.i64 wp]),
 (5, true,
 Blk.cols (List.length x1 + 1)
 [Col.int IntKind.i64 fun (j : Nat) =>
 bif Nat.blt j (List.length x1) then S.at' x1 j else (0 : Int)])]]) (6))
 (False))
 (False))
 (False))
 (False)))
 (False))
 (False))
 (False))
 (False))
 (False))
 (Kret (PV.own (2) (1) (List.length x1)) ([[(1, false, Blk.cols ml [Col.int IntKind.u8 tl]),
 (0, false,
 Blk.cols mp
 [Col.int IntKind.i64 tp, Col.int IntKind.i64 vp, Col.int IntKind.i64 gp,
 Col.int IntKind.i64 wp]),
 (2, true,
 Blk.cols (List.length x1) [Col.int IntKind.i64 fun (j : Nat) => S.at' x1 j])]]) (3))
set_option maxRecDepth 100000 in
theorem t35_0 (test : Bool → Prop → Prop → Prop) (Kst : KS) (Kret : KR) (ap np mp : Nat) (tp : Nat → Int) (vp : Nat → Int) (gp : Nat → Int) (wp : Nat → Int) (al nl ml : Nat) (tl : Nat → Int) (x0 : Int) (x1 : List Int) : run test Try.env true noX true 400 ⟨35, hd Try.f35 0, zipT [1, 5, 10, 11, 12] [PV.loose (PA.mk (1) (1) al (0)) nl,
 PV.own (2) (1) (List.length x1),
 PV.loose (PA.mk (0) (4) ap (0)) np, PV.int IntKind.i64 (↑np : Int),
 PV.int IntKind.i64 x0], [[(2, (true, Blk.cols (List.length x1) [Col.int IntKind.i64 fun (j : Nat) => S.at' x1 j]))], [(0, (false, .cols mp [.int .i64 tp, .int .i64 vp, .int .i64 gp, .int .i64 wp])), (1, (false, .cols ml [.int .u8 tl]))]], 3⟩ (proj 2 [1, 5, 10, 11, 12] Kst Kret) =
  T35_0 test Kst Kret ap np mp tp vp gp wp al nl ml tl x0 x1 := by kernel_rfl
set_option maxRecDepth 100000 in
theorem be35 (ap np mp : Nat) (tp : Nat → Int) (vp : Nat → Int) (gp : Nat → Int) (wp : Nat → Int) (al nl ml : Nat) (tl : Nat → Int) (Kst : KS) (Kret : KR) (x : St35 ⊕ Rt35) (hS : HS 2 400 ((I35 ap np mp tp vp gp wp al nl ml tl)) Kst x) (hR : HR 2 400 ((V35 ap np mp tp vp gp wp al nl ml tl)) (fun r => [newL (2 + 1) ((N35 ap np mp tp vp gp wp al nl ml tl) r) ++ [(0, (false, .cols mp [.int .i64 tp, .int .i64 vp, .int .i64 gp, .int .i64 wp])), (1, (false, .cols ml [.int .u8 tl]))]]) Kret x) (h : (some (.inl (.h0 ((0 : Int)) ([]))) : Option (St35 ⊕ Rt35)) = some x) : Te35 cond Kst Kret ap np mp tp vp gp wp al nl ml tl := by
  unfold Te35
  exact stop_at hS _ h (fun n => bif Nat.beq n 2 then 399 else n) rfl rfl rfl ⟨(rn_loose (use_lo rfl) rfl rfl rfl), ⟨(rn_own_nils rfl), ⟨(rn_loose (use_lo rfl) rfl rfl rfl), ⟨(rn_int rfl), ⟨(rn_int rfl), trivial⟩⟩⟩⟩⟩ rfl (entl_fresh (use_own rfl) (fresh_ok rfl) (entl_bor (use_lo rfl) rfl rfl (entl_bor (use_lo rfl) rfl rfl entl_nil)))
set_option maxRecDepth 100000 in
theorem b35_0 (ap np mp : Nat) (tp : Nat → Int) (vp : Nat → Int) (gp : Nat → Int) (wp : Nat → Int) (al nl ml : Nat) (tl : Nat → Int) (Kst : KS) (Kret : KR) (x : St35 ⊕ Rt35) (hS : HS 2 400 ((I35 ap np mp tp vp gp wp al nl ml tl)) Kst x) (hR : HR 2 400 ((V35 ap np mp tp vp gp wp al nl ml tl)) (fun r => [newL (2 + 1) ((N35 ap np mp tp vp gp wp al nl ml tl) r) ++ [(0, (false, .cols mp [.int .i64 tp, .int .i64 vp, .int .i64 gp, .int .i64 wp])), (1, (false, .cols ml [.int .u8 tl]))]]) Kret x) (x0 : Int) (x1 : List Int) (h : (bif (decide (x0 < (↑np : Int)))
 then (bif (decide ((0 : Int) ≤ x0 ∧ x0 < (↑np : Int)))
 then (bif (decide (Int.toNat x0 + ap < mp))
 then (bif (decide (x0 < (↑nl : Int)))
 then (bif (decide ((0 : Int) ≤ x0 ∧ x0 < (↑nl : Int)))
 then (bif (decide (Int.toNat x0 + al < ml))
 then (bif (lim IntKind.i64 (tl (Int.toNat x0 + al)))
 then (bif (lim IntKind.i64 ((2 : Int) * wp (Int.toNat x0 + ap)))
 then (bif (lim IntKind.i64 ((2 : Int) * wp (Int.toNat x0 + ap) + (1 : Int)))
 then (bif (decide ((2 : Int) * wp (Int.toNat x0 + ap) + (1 : Int) = (0 : Int)))
 then (none)
 else (bif (lim IntKind.i64
 (Int.tmod (tl (Int.toNat x0 + al)) ((2 : Int) * wp (Int.toNat x0 + ap) + (1 : Int)) - wp (Int.toNat x0 + ap)))
 then (bif (decide (List.length x1 + 1 ≤ 1000000))
 then (bif (decide (List.length x1 ≤ List.length x1))
 then (bif (lim IntKind.i64 (x0 + (1 : Int)))
 then (some (.inl (.h0 (x0 + (1 : Int)) (S.snoc x1
 (Int.tmod (tl (Int.toNat x0 + al)) ((2 : Int) * wp (Int.toNat x0 + ap) + (1 : Int)) - wp (Int.toNat x0 + ap))))))
 else (none))
 else (none))
 else (none))
 else (none)))
 else (none))
 else (none))
 else (none))
 else (none))
 else (none))
 else (bif (decide (List.length x1 + 1 ≤ 1000000))
 then (bif (decide (List.length x1 ≤ List.length x1))
 then (bif (lim IntKind.i64 (x0 + (1 : Int)))
 then (some (.inl (.h0 (x0 + (1 : Int)) (S.snoc x1 (0 : Int)))))
 else (none))
 else (none))
 else (none)))
 else (none))
 else (none))
 else (some (.inr (x1))) : Option (St35 ⊕ Rt35)) = some x) : T35_0 cond Kst Kret ap np mp tp vp gp wp al nl ml tl x0 x1 := by
  unfold T35_0
  exact bif_split h
   (fun c0 h => bif_split h
   (fun c1 h => bif_split h
   (fun c2 h => cond_yes c2 (cond_yes c2 (cond_yes c2 (bif_split h
   (fun c3 h => bif_split h
   (fun c4 h => bif_split h
   (fun c5 h => bif_split h
   (fun c6 h => bif_split h
   (fun c7 h => bif_split h
   (fun c8 h => bif_split h
   (fun c9 h => no_some h)
   (fun c9 h => bif_split h
   (fun c10 h => bif_split h
   (fun c11 h => bif_split h
   (fun c12 h => cond_yes rfl (bif_split h
   (fun c13 h => stop_at hS _ h (fun n => bif Nat.beq n 2 then 5 else n) rfl rfl rfl ⟨(rn_loose (use_lo rfl) rfl rfl rfl), ⟨(rn_own (use_own rfl) rfl (snoc_len' rfl)), ⟨(rn_loose (use_lo rfl) rfl rfl rfl), ⟨(rn_int rfl), ⟨(rn_int rfl), trivial⟩⟩⟩⟩⟩ rfl (entl_new (use_own rfl) rfl (Nat.le_of_eq (snoc_len' rfl)) (rcs_int (col_snoc' (fun (t : Int) => t) rfl (fun _ _ => rfl)) rcs_nil) (entl_bor (use_lo rfl) rfl rfl (entl_bor (use_lo rfl) rfl rfl entl_nil))))
   (fun c13 h => no_some h)))
   (fun c12 h => no_some h))
   (fun c11 h => no_some h))
   (fun c10 h => no_some h)))
   (fun c8 h => no_some h))
   (fun c7 h => no_some h))
   (fun c6 h => no_some h))
   (fun c5 h => no_some h))
   (fun c4 h => no_some h))
   (fun c3 h => bif_split h
   (fun c4 h => bif_split h
   (fun c5 h => cond_yes rfl (bif_split h
   (fun c6 h => stop_at hS _ h (fun n => bif Nat.beq n 2 then 5 else n) rfl rfl rfl ⟨(rn_loose (use_lo rfl) rfl rfl rfl), ⟨(rn_own (use_own rfl) rfl (snoc_len' rfl)), ⟨(rn_loose (use_lo rfl) rfl rfl rfl), ⟨(rn_int rfl), ⟨(rn_int rfl), trivial⟩⟩⟩⟩⟩ rfl (entl_new (use_own rfl) rfl (Nat.le_of_eq (snoc_len' rfl)) (rcs_int (col_snoc' (fun (t : Int) => t) rfl (fun _ _ => rfl)) rcs_nil) (entl_bor (use_lo rfl) rfl rfl (entl_bor (use_lo rfl) rfl rfl entl_nil))))
   (fun c6 h => no_some h)))
   (fun c5 h => no_some h))
   (fun c4 h => no_some h))))))
   (fun c2 h => no_some h))
   (fun c1 h => no_some h))
   (fun c0 h => ret_at hR _ h (fun n => bif Nat.beq n 3 then 2 else n) rfl rfl rfl (rn_own (use_own rfl) rfl rfl) rfl (entl_new (use_own rfl) rfl (Nat.le_of_eq rfl) (rcs_int (fun _ _ => rfl) rcs_nil) (entl_bor (use_lo rfl) rfl rfl (entl_bor (use_lo rfl) rfl rfl entl_nil))))
theorem a35 (ap np mp : Nat) (tp : Nat → Int) (vp : Nat → Int) (gp : Nat → Int) (wp : Nat → Int) (al nl ml : Nat) (tl : Nat → Int) {r : Rt35} (h : Goes ((q35 ap np mp tp vp gp wp al nl ml tl)) ((p35 ap np mp tp vp gp wp al nl ml tl)) r) : CallR Try.prog 35 [.agg [.loose ⟨0, 4, ap, 0⟩ np], .loose ⟨1, 1, al, 0⟩ nl] [[(0, (false, .cols mp [.int .i64 tp, .int .i64 vp, .int .i64 gp, .int .i64 wp])), (1, (false, .cols ml [.int .u8 tl]))]] 2 ((V35 ap np mp tp vp gp wp al nl ml tl) r) ((fun r => [newL (2 + 1) ((N35 ap np mp tp vp gp wp al nl ml tl) r) ++ [(0, (false, .cols mp [.int .i64 tp, .int .i64 vp, .int .i64 gp, .int .i64 wp])), (1, (false, .cols ml [.int .u8 tl]))]]) r) 400 ∧ ∃ F, Try.prog.funcs[35]? = some F ∧ F.body.isSome = true ∧ (F.name == "runtime.NumGoroutine") = false := by
  refine dec_calls (f := 35) (lo := 2) (hi := 400) (H := [[(0, (false, .cols mp [.int .i64 tp, .int .i64 vp, .int .i64 gp, .int .i64 wp])), (1, (false, .cols ml [.int .u8 tl]))]]) (args := [.agg [.loose ⟨0, 4, ap, 0⟩ np], .loose ⟨1, 1, al, 0⟩ nl]) Try.envOk Try.mixed noX_ok ((I35 ap np mp tp vp gp wp al nl ml tl)) ((V35 ap np mp tp vp gp wp al nl ml tl)) (fun r => [newL (2 + 1) ((N35 ap np mp tp vp gp wp al nl ml tl) r) ++ [(0, (false, .cols mp [.int .i64 tp, .int .i64 vp, .int .i64 gp, .int .i64 wp])), (1, (false, .cols ml [.int .u8 tl]))]]) (fn := mkFn Try.f35) (ts := [1, 5, 10, 11, 12]) (n := 400) rfl (by decide) (by simp) (names_of rfl) ?_ ?_ ?_ h
  · intro s; cases s <;> exact ⟨hd_ok _ _, by simp [I35], names_of rfl, Nat.le_of_ble_eq_true rfl⟩
  · intro Kst Kret x hS hR h
    exact Holds.eq (te35 cond Kst Kret ap np mp tp vp gp wp al nl ml tl) (be35 ap np mp tp vp gp wp al nl ml tl Kst Kret x hS hR h)
  · intro Kst Kret x hS hR s h
    cases s with
    | h0 x0 x1 => exact Holds.eq (t35_0 cond Kst Kret ap np mp tp vp gp wp al nl ml tl x0 x1) (b35_0 ap np mp tp vp gp wp al nl ml tl Kst Kret x hS hR x0 x1 h)
noncomputable def k35 : Con := ⟨35, [.agg [.list [.int .i64, .int .i64, .int .i64, .int .i64]], .one (.list [.int .u8])], fun (x : ((Nat × Nat × Nat × (Nat → Int) × (Nat → Int) × (Nat → Int) × (Nat → Int) × Unit) × Unit) × (Nat × Nat × Nat × (Nat → Int) × Unit) × Unit) => (fun (ap np mp : Nat) (tp : Nat → Int) (vp : Nat → Int) (gp : Nat → Int) (wp : Nat → Int) (al nl ml : Nat) (tl : Nat → Int) => decide (ap + np ≤ mp ∧ np ≤ 1000000 ∧ S.treE np (fun q => tp (q + ap)) (fun q => vp (q + ap)) (fun q => gp (q + ap)) (fun q => wp (q + ap)) = 0 ∧ al + nl ≤ ml ∧ nl ≤ 1000000 ∧ S.bytes nl (fun q => tl (q + al)) = true)) x.1.1.1 x.1.1.2.1 x.1.1.2.2.1 x.1.1.2.2.2.1 x.1.1.2.2.2.2.1 x.1.1.2.2.2.2.2.1 x.1.1.2.2.2.2.2.2.1 x.2.1.1 x.2.1.2.1 x.2.1.2.2.1 x.2.1.2.2.2.1, fun (x : ((Nat × Nat × Nat × (Nat → Int) × (Nat → Int) × (Nat → Int) × (Nat → Int) × Unit) × Unit) × (Nat × Nat × Nat × (Nat → Int) × Unit) × Unit) => (fun (ap np mp : Nat) (tp : Nat → Int) (vp : Nat → Int) (gp : Nat → Int) (wp : Nat → Int) (al nl ml : Nat) (tl : Nat → Int) => (V35 ap np mp tp vp gp wp al nl ml tl) (S.sprL np (fun q => wp (q + ap)) nl (fun q => tl (q + al)))) x.1.1.1 x.1.1.2.1 x.1.1.2.2.1 x.1.1.2.2.2.1 x.1.1.2.2.2.2.1 x.1.1.2.2.2.2.2.1 x.1.1.2.2.2.2.2.2.1 x.2.1.1 x.2.1.2.1 x.2.1.2.2.1 x.2.1.2.2.2.1, fun (x : ((Nat × Nat × Nat × (Nat → Int) × (Nat → Int) × (Nat → Int) × (Nat → Int) × Unit) × Unit) × (Nat × Nat × Nat × (Nat → Int) × Unit) × Unit) => (fun (ap np mp : Nat) (tp : Nat → Int) (vp : Nat → Int) (gp : Nat → Int) (wp : Nat → Int) (al nl ml : Nat) (tl : Nat → Int) => (N35 ap np mp tp vp gp wp al nl ml tl) (S.sprL np (fun q => wp (q + ap)) nl (fun q => tl (q + al)))) x.1.1.1 x.1.1.2.1 x.1.1.2.2.1 x.1.1.2.2.2.1 x.1.1.2.2.2.2.1 x.1.1.2.2.2.2.2.1 x.1.1.2.2.2.2.2.2.1 x.2.1.1 x.2.1.2.1 x.2.1.2.2.1 x.2.1.2.2.2.1, fun _ _ => .dead⟩
theorem spr_bnd {w y : Nat → Int} {m q : Nat} (hw : 0 ≤ w q) (hy : q < m → 0 ≤ y q) : -(w q) ≤ S.sprT w m y q ∧ S.sprT w m y q ≤ w q := by
  unfold S.sprT
  split
  · have := tmd (hy (by assumption)) (show 0 < 2 * w q + 1 by omega)
    omega
  · omega
theorem s35' (ap np mp : Nat) (tp : Nat → Int) (vp : Nat → Int) (gp : Nat → Int) (wp : Nat → Int) (al nl ml : Nat) (tl : Nat → Int) (hp : ap + np ≤ mp ∧ np ≤ 1000000 ∧ S.treE np (fun q => tp (q + ap)) (fun q => vp (q + ap)) (fun q => gp (q + ap)) (fun q => wp (q + ap)) = 0 ∧ al + nl ≤ ml ∧ nl ≤ 1000000 ∧ S.bytes nl (fun q => tl (q + al)) = true) : ∀ (k i : Nat) (L : List Int), i + k = np → Holds (L = S.mkl i (S.sprT (fun q => wp (q + ap)) nl (fun q => tl (q + al)))) → Comes (q35 ap np mp tp vp gp wp al nl ml tl) (.h0 (i : Int) L) (S.sprL np (fun q => wp (q + ap)) nl (fun q => tl (q + al))) := by
  obtain ⟨hp1, hp2, hp3, hp4, hp5, hp6⟩ := hp
  obtain ⟨v1, v2, v3, v4, v5, v6⟩ := tre_ok hp3
  have h0 := of_decide_eq_true hp6
  intro k
  induction k with
  | zero =>
    intro i L hi eL
    have hL : L.length = i := by rw [eL.get]; exact mkl_len
    apply Comes.of
    show Goes _ _ _
    (first | rw [q35] | unfold q35)
    repeat' first
      | with_reducible refine goes_if (fun h => ?_) (fun h => ?_) <;> (try simp only [lim64, decide_eq_true_eq, decide_eq_false_iff_not, Int.toNat_natCast, toNat_pred, toNat_succ, Option.getD_some, Option.getD_none, Bool.not_eq_true', Bool.not_eq_false', Bool.and_eq_true, Bool.or_eq_true, Bool.and_eq_false_iff, Bool.or_eq_false_iff, bne_iff_ne, beq_iff_eq, bne_eq_false_iff_eq, beq_eq_false_iff_ne, ne_eq, not_and, Int.not_le, Int.not_lt, ge_iff_le, gt_iff_lt, Nat.not_lt, Nat.not_le, Bool.not_eq_true, Bool.not_eq_false, Bool.true_eq_false, Bool.false_eq_true, not_false_eq_true, not_true_eq_false] at h)
      | exact goes_none.mpr (by omega)
    all_goals first | (exfalso; omega) | (obtain rfl : np = i := (by omega);  exact goes_inr.mpr eL.get)
  | succ k ih =>
    intro i L hi eL
    have hL : L.length = i := by rw [eL.get]; exact mkl_len
    have hv := v5 i (by omega)
    try dsimp only at hv
    have hc : i < nl → 0 ≤ tl (i + al) ∧ tl (i + al) ≤ 255 := fun h => h0 i h
    have hm : i < nl → _ := fun h => tmd (hc h).1 (show (0 : Int) < 2 * wp (i + ap) + 1 by omega)
    apply Comes.of
    show Goes _ _ _
    (first | rw [q35] | unfold q35)
    repeat' first
      | with_reducible refine goes_if (fun h => ?_) (fun h => ?_) <;> (try simp only [lim64, decide_eq_true_eq, decide_eq_false_iff_not, Int.toNat_natCast, toNat_pred, toNat_succ, Option.getD_some, Option.getD_none, Bool.not_eq_true', Bool.not_eq_false', Bool.and_eq_true, Bool.or_eq_true, Bool.and_eq_false_iff, Bool.or_eq_false_iff, bne_iff_ne, beq_iff_eq, bne_eq_false_iff_eq, beq_eq_false_iff_ne, ne_eq, not_and, Int.not_le, Int.not_lt, ge_iff_le, gt_iff_lt, Nat.not_lt, Nat.not_le, Bool.not_eq_true, Bool.not_eq_false, Bool.true_eq_false, Bool.false_eq_true, not_false_eq_true, not_true_eq_false] at h)
      | exact goes_none.mpr (by omega)
    all_goals first
      | (exfalso; omega)
      | (refine ih (i + 1) _ (by omega) ⟨?_⟩; rw [mkl_succ, ← eL.get]; first | (rw [show S.sprT (fun q => wp (q + ap)) nl (fun q => tl (q + al)) i = Int.tmod (tl (i + al)) (2 * wp (i + ap) + 1) - wp (i + ap) from if_pos (by omega)]; rfl) | (rw [show S.sprT (fun q => wp (q + ap)) nl (fun q => tl (q + al)) i = 0 from if_neg (by omega)]))
      | (refine ih (i + 1) _ (by omega) ⟨?_⟩ <;> (skip))
theorem s35 (ap np mp : Nat) (tp : Nat → Int) (vp : Nat → Int) (gp : Nat → Int) (wp : Nat → Int) (al nl ml : Nat) (tl : Nat → Int) (hp : ap + np ≤ mp ∧ np ≤ 1000000 ∧ S.treE np (fun q => tp (q + ap)) (fun q => vp (q + ap)) (fun q => gp (q + ap)) (fun q => wp (q + ap)) = 0 ∧ al + nl ≤ ml ∧ nl ≤ 1000000 ∧ S.bytes nl (fun q => tl (q + al)) = true) : Goes ((q35 ap np mp tp vp gp wp al nl ml tl)) ((p35 ap np mp tp vp gp wp al nl ml tl)) (S.sprL np (fun q => wp (q + ap)) nl (fun q => tl (q + al))) := by
  exact s35' ap np mp tp vp gp wp al nl ml tl hp np 0 [] (Nat.zero_add _) ⟨rfl⟩

theorem k35_ok : k35.ok Try.prog := by
  intro x hx
  obtain ⟨⟨⟨ap, np, mp, tp, vp, gp, wp, _⟩, _⟩, ⟨al, nl, ml, tl, _⟩, _⟩ := x
  obtain ⟨h1, h2⟩ := a35 ap np mp tp vp gp wp al nl ml tl (s35 ap np mp tp vp gp wp al nl ml tl (of_dec hx rfl))
  exact ⟨⟨400, (by decide : 2 + 1 + 1 ≤ 400), h1⟩, h2⟩
inductive St36 where
  | h0 (x0 : Int) (x1 : Int)
abbrev Rt36 := Int
noncomputable def V36 (aa na ma : Nat) (ta : Nat → Int) (r : Rt36) : PV := PV.int IntKind.i64 r
noncomputable def N36 (aa na ma : Nat) (ta : Nat → Int) (r : Rt36) : List Blk := []
noncomputable def I36 (aa na ma : Nat) (ta : Nat → Int) : St36 → Hd
  | .h0 x0 x1 => ⟨hd Try.f36 0, [PV.loose (PA.mk (0) (1) aa (0)) na, PV.int IntKind.i64 x0,
 PV.int IntKind.i64 x1], [[], [(0, (false, .cols ma [.int .i64 ta]))]], 1⟩
noncomputable def q36 (aa na ma : Nat) (ta : Nat → Int) : St36 → Option (St36 ⊕ Rt36)
  | .h0 x0 x1 => bif (decide (x1 < (↑na : Int)))
 then (bif (decide ((0 : Int) ≤ x1 ∧ x1 < (↑na : Int)))
 then (bif (decide (Int.toNat x1 + aa < ma))
 then (bif (lim IntKind.i64 (x1 + (1 : Int)))
 then (some (.inl (.h0 (Min.min x0 (ta (Int.toNat x1 + aa))) (x1 + (1 : Int)))))
 else (none))
 else (none))
 else (none))
 else (some (.inr (x0)))
noncomputable def p36 (aa na ma : Nat) (ta : Nat → Int) : Option (St36 ⊕ Rt36) := bif (decide ((↑na : Int) < (1 : Int)))
 then (none)
 else (bif (decide ((0 : Int) ≤ (0 : Int) ∧ (0 : Int) < (↑na : Int)))
 then (bif (decide (0 + aa < ma))
 then (some (.inl (.h0 (ta (0 + aa)) ((1 : Int)))))
 else (none))
 else (none))
noncomputable def Te36 (test : Bool → Prop → Prop → Prop) (Kst : KS) (Kret : KR) (aa na ma : Nat) (ta : Nat → Int) : Prop :=
  test (decide ((↑na : Int) < (1 : Int)))
 (False)
 (test (decide ((0 : Int) ≤ (0 : Int) ∧ (0 : Int) < (↑na : Int)))
 (test (decide (0 + aa < ma))
 (Kst (hd Try.f36 0) ([PV.loose (PA.mk (0) (1) aa (0)) na,
 PV.int IntKind.i64 (ta (0 + aa)), PV.int IntKind.i64 (1 : Int)]) ([[(0, false, Blk.cols ma [Col.int IntKind.i64 ta])]]) (1))
 (False))
 (False))
set_option maxRecDepth 100000 in
theorem te36 (test : Bool → Prop → Prop → Prop) (Kst : KS) (Kret : KR) (aa na ma : Nat) (ta : Nat → Int) : run test Try.env true noX true 400 ⟨36, [.cd (mkFn Try.f36).body], argT 0 [.loose ⟨0, 1, aa, 0⟩ na], [[], [(0, (false, .cols ma [.int .i64 ta]))]], 1⟩ (proj 1 [0, 3, 4] Kst Kret) =
  Te36 test Kst Kret aa na ma ta := by kernel_rfl
noncomputable def T36_0 (test : Bool → Prop → Prop → Prop) (Kst : KS) (Kret : KR) (aa na ma : Nat) (ta : Nat → Int) (x0 : Int) (x1 : Int) : Prop :=
  test (decide (x1 < (↑na : Int)))
 (test (decide ((0 : Int) ≤ x1 ∧ x1 < (↑na : Int)))
 (test (decide (Int.toNat x1 + aa < ma))
 (test (lim IntKind.i64 (x1 + (1 : Int)))
 (Kst (hd Try.f36 0) ([PV.loose (PA.mk (0) (1) aa (0)) na,
 PV.int IntKind.i64 (Min.min x0 (ta (Int.toNat x1 + aa))), PV.int IntKind.i64 (x1 + (1 : Int))]) ([[(0, false, Blk.cols ma [Col.int IntKind.i64 ta])]]) (1))
 (False))
 (False))
 (False))
 (Kret (PV.int IntKind.i64 x0) ([[(0, false, Blk.cols ma [Col.int IntKind.i64 ta])]]) (1))
set_option maxRecDepth 100000 in
theorem t36_0 (test : Bool → Prop → Prop → Prop) (Kst : KS) (Kret : KR) (aa na ma : Nat) (ta : Nat → Int) (x0 : Int) (x1 : Int) : run test Try.env true noX true 400 ⟨36, hd Try.f36 0, zipT [0, 3, 4] [PV.loose (PA.mk (0) (1) aa (0)) na, PV.int IntKind.i64 x0,
 PV.int IntKind.i64 x1], [[], [(0, (false, .cols ma [.int .i64 ta]))]], 1⟩ (proj 1 [0, 3, 4] Kst Kret) =
  T36_0 test Kst Kret aa na ma ta x0 x1 := by kernel_rfl
set_option maxRecDepth 100000 in
theorem be36 (aa na ma : Nat) (ta : Nat → Int) (Kst : KS) (Kret : KR) (x : St36 ⊕ Rt36) (hS : HS 1 400 ((I36 aa na ma ta)) Kst x) (hR : HR 1 400 ((V36 aa na ma ta)) (fun r => [newL (1 + 1) ((N36 aa na ma ta) r) ++ [(0, (false, .cols ma [.int .i64 ta]))]]) Kret x) (h : (bif (decide ((↑na : Int) < (1 : Int)))
 then (none)
 else (bif (decide ((0 : Int) ≤ (0 : Int) ∧ (0 : Int) < (↑na : Int)))
 then (bif (decide (0 + aa < ma))
 then (some (.inl (.h0 (ta (0 + aa)) ((1 : Int)))))
 else (none))
 else (none)) : Option (St36 ⊕ Rt36)) = some x) : Te36 cond Kst Kret aa na ma ta := by
  unfold Te36
  exact bif_split h
   (fun c0 h => no_some h)
   (fun c0 h => bif_split h
   (fun c1 h => bif_split h
   (fun c2 h => stop_at hS _ h (fun n => n) rfl rfl rfl ⟨(rn_loose (use_lo rfl) rfl rfl rfl), ⟨(rn_int rfl), ⟨(rn_int rfl), trivial⟩⟩⟩ rfl (entl_bor (use_lo rfl) rfl rfl entl_nil))
   (fun c2 h => no_some h))
   (fun c1 h => no_some h))
set_option maxRecDepth 100000 in
theorem b36_0 (aa na ma : Nat) (ta : Nat → Int) (Kst : KS) (Kret : KR) (x : St36 ⊕ Rt36) (hS : HS 1 400 ((I36 aa na ma ta)) Kst x) (hR : HR 1 400 ((V36 aa na ma ta)) (fun r => [newL (1 + 1) ((N36 aa na ma ta) r) ++ [(0, (false, .cols ma [.int .i64 ta]))]]) Kret x) (x0 : Int) (x1 : Int) (h : (bif (decide (x1 < (↑na : Int)))
 then (bif (decide ((0 : Int) ≤ x1 ∧ x1 < (↑na : Int)))
 then (bif (decide (Int.toNat x1 + aa < ma))
 then (bif (lim IntKind.i64 (x1 + (1 : Int)))
 then (some (.inl (.h0 (Min.min x0 (ta (Int.toNat x1 + aa))) (x1 + (1 : Int)))))
 else (none))
 else (none))
 else (none))
 else (some (.inr (x0))) : Option (St36 ⊕ Rt36)) = some x) : T36_0 cond Kst Kret aa na ma ta x0 x1 := by
  unfold T36_0
  exact bif_split h
   (fun c0 h => bif_split h
   (fun c1 h => bif_split h
   (fun c2 h => bif_split h
   (fun c3 h => stop_at hS _ h (fun n => n) rfl rfl rfl ⟨(rn_loose (use_lo rfl) rfl rfl rfl), ⟨(rn_int rfl), ⟨(rn_int rfl), trivial⟩⟩⟩ rfl (entl_bor (use_lo rfl) rfl rfl entl_nil))
   (fun c3 h => no_some h))
   (fun c2 h => no_some h))
   (fun c1 h => no_some h))
   (fun c0 h => ret_at hR _ h (fun n => n) rfl rfl rfl (rn_int rfl) rfl (entl_bor (use_lo rfl) rfl rfl entl_nil))
theorem a36 (aa na ma : Nat) (ta : Nat → Int) {r : Rt36} (h : Goes ((q36 aa na ma ta)) ((p36 aa na ma ta)) r) : CallR Try.prog 36 [.loose ⟨0, 1, aa, 0⟩ na] [[(0, (false, .cols ma [.int .i64 ta]))]] 1 ((V36 aa na ma ta) r) ((fun r => [newL (1 + 1) ((N36 aa na ma ta) r) ++ [(0, (false, .cols ma [.int .i64 ta]))]]) r) 400 ∧ ∃ F, Try.prog.funcs[36]? = some F ∧ F.body.isSome = true ∧ (F.name == "runtime.NumGoroutine") = false := by
  refine dec_calls (f := 36) (lo := 1) (hi := 400) (H := [[(0, (false, .cols ma [.int .i64 ta]))]]) (args := [.loose ⟨0, 1, aa, 0⟩ na]) Try.envOk Try.mixed noX_ok ((I36 aa na ma ta)) ((V36 aa na ma ta)) (fun r => [newL (1 + 1) ((N36 aa na ma ta) r) ++ [(0, (false, .cols ma [.int .i64 ta]))]]) (fn := mkFn Try.f36) (ts := [0, 3, 4]) (n := 400) rfl (by decide) (by simp) (names_of rfl) ?_ ?_ ?_ h
  · intro s; cases s <;> exact ⟨hd_ok _ _, by simp [I36], names_of rfl, Nat.le_of_ble_eq_true rfl⟩
  · intro Kst Kret x hS hR h
    exact Holds.eq (te36 cond Kst Kret aa na ma ta) (be36 aa na ma ta Kst Kret x hS hR h)
  · intro Kst Kret x hS hR s h
    cases s with
    | h0 x0 x1 => exact Holds.eq (t36_0 cond Kst Kret aa na ma ta x0 x1) (b36_0 aa na ma ta Kst Kret x hS hR x0 x1 h)
noncomputable def k36 : Con := ⟨36, [.one (.list [.int .i64])], fun (x : (Nat × Nat × Nat × (Nat → Int) × Unit) × Unit) => (fun (aa na ma : Nat) (ta : Nat → Int) => decide (aa + na ≤ ma ∧ na ≤ 1000000 ∧ 0 < na)) x.1.1 x.1.2.1 x.1.2.2.1 x.1.2.2.2.1, fun (x : (Nat × Nat × Nat × (Nat → Int) × Unit) × Unit) => (fun (aa na ma : Nat) (ta : Nat → Int) => (V36 aa na ma ta) (S.minN (fun j => ta (j + aa)) (na - 1))) x.1.1 x.1.2.1 x.1.2.2.1 x.1.2.2.2.1, fun (x : (Nat × Nat × Nat × (Nat → Int) × Unit) × Unit) => (fun (aa na ma : Nat) (ta : Nat → Int) => (N36 aa na ma ta) (S.minN (fun j => ta (j + aa)) (na - 1))) x.1.1 x.1.2.1 x.1.2.2.1 x.1.2.2.2.1, fun _ _ => .dead⟩
theorem s36' (aa na ma : Nat) (ta : Nat → Int) (hp : aa + na ≤ ma ∧ na ≤ 1000000 ∧ 0 < na) : ∀ k i : Nat, i + 1 + k = na → Comes (q36 aa na ma ta) (.h0 (S.minN (fun j => ta (j + aa)) i) ((i : Int) + 1)) (S.minN (fun j => ta (j + aa)) (na - 1)) := by
  obtain ⟨hp1, hp2, hp3⟩ := hp
  intro k
  induction k with
  | zero =>
    intro i hi
    obtain rfl : i = na - 1 := by omega
    apply Comes.of
    show Goes _ _ _
    (first | rw [q36] | unfold q36)
    repeat' first
      | with_reducible refine goes_if (fun h => ?_) (fun h => ?_) <;> (try simp only [lim64, decide_eq_true_eq, decide_eq_false_iff_not, Int.toNat_natCast, toNat_pred, toNat_succ, Option.getD_some, Option.getD_none, Bool.not_eq_true', Bool.not_eq_false', Bool.and_eq_true, Bool.or_eq_true, Bool.and_eq_false_iff, Bool.or_eq_false_iff, bne_iff_ne, beq_iff_eq, bne_eq_false_iff_eq, beq_eq_false_iff_ne, ne_eq, not_and, Int.not_le, Int.not_lt, ge_iff_le, gt_iff_lt, Nat.not_lt, Nat.not_le, Bool.not_eq_true, Bool.not_eq_false, Bool.true_eq_false, Bool.false_eq_true, not_false_eq_true, not_true_eq_false] at h)
      | exact goes_none.mpr (by omega)
    all_goals first | (exfalso; omega) | rfl
  | succ k ih =>
    intro i hi
    have ih := ih (i + 1) (by omega)
    apply Comes.of
    show Goes _ _ _
    (first | rw [q36] | unfold q36)
    repeat' first
      | with_reducible refine goes_if (fun h => ?_) (fun h => ?_) <;> (try simp only [lim64, decide_eq_true_eq, decide_eq_false_iff_not, Int.toNat_natCast, toNat_pred, toNat_succ, Option.getD_some, Option.getD_none, Bool.not_eq_true', Bool.not_eq_false', Bool.and_eq_true, Bool.or_eq_true, Bool.and_eq_false_iff, Bool.or_eq_false_iff, bne_iff_ne, beq_iff_eq, bne_eq_false_iff_eq, beq_eq_false_iff_ne, ne_eq, not_and, Int.not_le, Int.not_lt, ge_iff_le, gt_iff_lt, Nat.not_lt, Nat.not_le, Bool.not_eq_true, Bool.not_eq_false, Bool.true_eq_false, Bool.false_eq_true, not_false_eq_true, not_true_eq_false] at h)
      | exact goes_none.mpr (by omega)
    all_goals first | (exfalso; omega) | exact ih
theorem s36 (aa na ma : Nat) (ta : Nat → Int) (hp : aa + na ≤ ma ∧ na ≤ 1000000 ∧ 0 < na) : Goes ((q36 aa na ma ta)) ((p36 aa na ma ta)) (S.minN (fun j => ta (j + aa)) (na - 1)) := by
  have hm := s36' aa na ma ta hp (na - 1) 0 (by omega)
  obtain ⟨hp1, hp2, hp3⟩ := hp
  show Goes _ _ _
  unfold p36
  repeat' first
    | with_reducible refine goes_if (fun h => ?_) (fun h => ?_) <;> (try simp only [lim64, decide_eq_true_eq, decide_eq_false_iff_not, Int.toNat_natCast, toNat_pred, toNat_succ, Option.getD_some, Option.getD_none, Bool.not_eq_true', Bool.not_eq_false', Bool.and_eq_true, Bool.or_eq_true, Bool.and_eq_false_iff, Bool.or_eq_false_iff, bne_iff_ne, beq_iff_eq, bne_eq_false_iff_eq, beq_eq_false_iff_ne, ne_eq, not_and, Int.not_le, Int.not_lt, ge_iff_le, gt_iff_lt, Nat.not_lt, Nat.not_le, Bool.not_eq_true, Bool.not_eq_false, Bool.true_eq_false, Bool.false_eq_true, not_false_eq_true, not_true_eq_false] at h)
    | exact goes_none.mpr (by omega)
  all_goals first | (exfalso; omega) | exact hm

theorem k36_ok : k36.ok Try.prog := by
  intro x hx
  obtain ⟨⟨aa, na, ma, ta, _⟩, _⟩ := x
  obtain ⟨h1, h2⟩ := a36 aa na ma ta (s36 aa na ma ta (of_dec hx rfl))
  exact ⟨⟨400, (by decide : 1 + 1 + 0 ≤ 400), h1⟩, h2⟩

end Go.Ev
