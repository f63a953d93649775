/-
  Windows, in the program and in the reference.
-/
import Derived.Test.YtedbjnojogjnkaaW0
namespace Go.Ev
open Go.Proofs
set_option linter.unusedVariables false
set_option linter.unusedSimpArgs false
set_option maxRecDepth 100000
inductive St27 where
  | h0 (x0 : Int) (x1 : List (Int × Int × Bool))
abbrev Rt27 := Int × List (Int × Int × Bool)
noncomputable def V27 (ca : Int) (af : Int) (al nl ml : Nat) (tl : Nat → Int) (vl : Nat → Int) (gl : Nat → Bool) (ov : Int) (re : Int) (fz : Bool) (f0 : Int) (t0 : Int) (r : Rt27) : PV := PV.tup [PV.own (2) (3) (List.length r.2), PV.int IntKind.i64 r.1]
noncomputable def N27 (ca : Int) (af : Int) (al nl ml : Nat) (tl : Nat → Int) (vl : Nat → Int) (gl : Nat → Bool) (ov : Int) (re : Int) (fz : Bool) (f0 : Int) (t0 : Int) (r : Rt27) : List Blk := [Blk.cols (List.length r.2)
 [Col.int IntKind.i64 fun (j : Nat) => (S.at' r.2 j).1,
 Col.int IntKind.i64 fun (j : Nat) => (S.at' r.2 j).2.1,
 Col.bool fun (j : Nat) => (S.at' r.2 j).2.2]]
noncomputable def I27 (ca : Int) (af : Int) (al nl ml : Nat) (tl : Nat → Int) (vl : Nat → Int) (gl : Nat → Bool) (ov : Int) (re : Int) (fz : Bool) (f0 : Int) (t0 : Int) : St27 → Hd
  | .h0 x0 x1 => ⟨hd Try.f27 0, [PV.int IntKind.i64 f0, PV.int IntKind.i64 t0, PV.own (1) (3) (List.length x1),
 PV.loose (PA.mk (0) (3) al (0)) nl, PV.int IntKind.i64 (↑nl : Int),
 PV.int IntKind.i64 x0], [[(1, (true, Blk.cols (List.length x1)
 [Col.int IntKind.i64 fun (j : Nat) => (S.at' x1 j).1,
 Col.int IntKind.i64 fun (j : Nat) => (S.at' x1 j).2.1,
 Col.bool fun (j : Nat) => (S.at' x1 j).2.2]))], [(0, (false, .cols ml [.int .i64 tl, .int .i64 vl, .bool gl]))]], 2⟩
noncomputable def q27 (ca : Int) (af : Int) (al nl ml : Nat) (tl : Nat → Int) (vl : Nat → Int) (gl : Nat → Bool) (ov : Int) (re : Int) (fz : Bool) (f0 : Int) (t0 : Int) : St27 → Option (St27 ⊕ Rt27)
  | .h0 x0 x1 => bif (decide (x0 < (↑nl : Int)))
 then (bif (decide ((0 : Int) ≤ x0 ∧ x0 < (↑nl : Int)))
 then (bif (decide (Int.toNat x0 + al < ml))
 then (bif (decide (tl (Int.toNat x0 + al) ≥ f0))
 then (bif (decide (tl (Int.toNat x0 + al) < t0))
 then (bif (decide (List.length x1 + 1 ≤ 1000000))
 then (bif (decide (List.length x1 ≤ List.length x1))
 then (bif (lim IntKind.i64 (x0 + (1 : Int)))
 then (some (.inl (.h0 (x0 + (1 : Int)) (S.snoc x1 (tl (Int.toNat x0 + al), vl (Int.toNat x0 + al), gl (Int.toNat x0 + al))))))
 else (none))
 else (none))
 else (none))
 else (bif (lim IntKind.i64 (x0 + (1 : Int)))
 then (some (.inl (.h0 (x0 + (1 : Int)) (x1))))
 else (none)))
 else (bif (lim IntKind.i64 (x0 + (1 : Int)))
 then (some (.inl (.h0 (x0 + (1 : Int)) (x1))))
 else (none)))
 else (none))
 else (none))
 else (some (.inr ((0 : Int), x1)))
noncomputable def p27 (ca : Int) (af : Int) (al nl ml : Nat) (tl : Nat → Int) (vl : Nat → Int) (gl : Nat → Bool) (ov : Int) (re : Int) (fz : Bool) (f0 : Int) (t0 : Int) : Option (St27 ⊕ Rt27) := bif (decide (al + nl ≤ ml ∧ nl ≤ 1000000))
 then (bif (S.vB ca af nl (fun (j : Nat) => tl (j + al)) (fun (j : Nat) => vl (j + al)) ov re fz != (0 : Int))
 then (some (.inr (S.vB ca af nl (fun (j : Nat) => tl (j + al)) (fun (j : Nat) => vl (j + al)) ov re fz, [])))
 else (bif (decide (f0 < (0 : Int)))
 then (some (.inr ((6 : Int), [])))
 else (bif (decide (f0 > t0))
 then (some (.inr ((6 : Int), [])))
 else (bif (decide (t0 > (1099511627776 : Int)))
 then (some (.inr ((6 : Int), [])))
 else (some (.inl (.h0 ((0 : Int)) ([]))))))))
 else (none)
noncomputable def Te27 (test : Bool → Prop → Prop → Prop) (Kst : KS) (Kret : KR) (ca : Int) (af : Int) (al nl ml : Nat) (tl : Nat → Int) (vl : Nat → Int) (gl : Nat → Bool) (ov : Int) (re : Int) (fz : Bool) (f0 : Int) (t0 : Int) : Prop :=
  test (decide (al + nl ≤ ml ∧ nl ≤ 1000000))
 (test (S.vB ca af nl (fun (j : Nat) => tl (j + al)) (fun (j : Nat) => vl (j + al)) ov re fz != (0 : Int))
 (Kret (PV.tup
 [PV.nils,
 PV.int IntKind.i64
 (S.vB ca af nl (fun (j : Nat) => tl (j + al)) (fun (j : Nat) => vl (j + al)) ov re fz)]) ([[(0, false,
 Blk.cols ml [Col.int IntKind.i64 tl, Col.int IntKind.i64 vl, Col.bool gl])]]) (3))
 (test (decide (f0 < (0 : Int)))
 (Kret (PV.tup [PV.nils, PV.int IntKind.i64 (6 : Int)]) ([[(0, false,
 Blk.cols ml [Col.int IntKind.i64 tl, Col.int IntKind.i64 vl, Col.bool gl])]]) (3))
 (test (decide (f0 > t0))
 (Kret (PV.tup [PV.nils, PV.int IntKind.i64 (6 : Int)]) ([[(0, false,
 Blk.cols ml [Col.int IntKind.i64 tl, Col.int IntKind.i64 vl, Col.bool gl])]]) (3))
 (test (decide (t0 > (1099511627776 : Int)))
 (Kret (PV.tup [PV.nils, PV.int IntKind.i64 (6 : Int)]) ([[(0, false,
 Blk.cols ml [Col.int IntKind.i64 tl, Col.int IntKind.i64 vl, Col.bool gl])]]) (3))
 (Kst (hd Try.f27 0) ([PV.int IntKind.i64 f0, PV.int IntKind.i64 t0, PV.nils,
 PV.loose (PA.mk (0) (3) al (0)) nl, PV.int IntKind.i64 (↑nl : Int),
 PV.int IntKind.i64 (0 : Int)]) ([[(0, false,
 Blk.cols ml [Col.int IntKind.i64 tl, Col.int IntKind.i64 vl, Col.bool gl])]]) (3))))))
 (False)
set_option maxRecDepth 100000 in
theorem te27 (test : Bool → Prop → Prop → Prop) (Kst : KS) (Kret : KR) (ca : Int) (af : Int) (al nl ml : Nat) (tl : Nat → Int) (vl : Nat → Int) (gl : Nat → Bool) (ov : Int) (re : Int) (fz : Bool) (f0 : Int) (t0 : Int) : run test Try.env true (xG test) true 400 ⟨27, [.cd (mkFn Try.f27).body], argT 0 [.agg [.int .i64 ca, .int .i64 af, .loose ⟨0, 3, al, 0⟩ nl, .int .i64 ov, .int .i64 re, .bool fz], .int .i64 f0, .int .i64 t0], [[], [(0, (false, .cols ml [.int .i64 tl, .int .i64 vl, .bool gl]))]], 1⟩ (proj 1 [1, 2, 9, 29, 30, 31] Kst Kret) =
  Te27 test Kst Kret ca af al nl ml tl vl gl ov re fz f0 t0 := by kernel_rfl
noncomputable def T27_0 (test : Bool → Prop → Prop → Prop) (Kst : KS) (Kret : KR) (ca : Int) (af : Int) (al nl ml : Nat) (tl : Nat → Int) (vl : Nat → Int) (gl : Nat → Bool) (ov : Int) (re : Int) (fz : Bool) (f0 : Int) (t0 : Int) (x0 : Int) (x1 : List (Int × Int × Bool)) : Prop :=
  test (decide (x0 < (↑nl : Int)))
 (test (decide ((0 : Int) ≤ x0 ∧ x0 < (↑nl : Int)))
 (test (decide (Int.toNat x0 + al < ml))
 (test (decide (Int.toNat x0 + al < ml))
 (test (decide (Int.toNat x0 + al < ml))
 (test (decide (tl (Int.toNat x0 + al) ≥ f0))
 (test (decide (tl (Int.toNat x0 + al) < t0))
 (test (decide (List.length x1 + 1 ≤ 1000000))
 (test (decide (List.length x1 ≤ List.length x1))
 (test (true)
 (test (lim IntKind.i64 (x0 + (1 : Int)))
 (Kst (hd Try.f27 0) ([PV.int IntKind.i64 f0, PV.int IntKind.i64 t0,
 PV.own (4) (3) (List.length x1 + 1),
 PV.loose (PA.mk (0) (3) al (0)) nl, PV.int IntKind.i64 (↑nl : Int),
 PV.int IntKind.i64 (x0 + (1 : Int))]) ([[(0, false,
 Blk.cols ml [Col.int IntKind.i64 tl, Col.int IntKind.i64 vl, Col.bool gl]),
 (4, true,
 Blk.cols (List.length x1 + 1)
 [Col.int IntKind.i64 fun (j : Nat) =>
 bif Nat.blt j (List.length x1) then (S.at' x1 j).1 else tl (Int.toNat x0 + al),
 Col.int IntKind.i64 fun (j : Nat) =>
 bif Nat.blt j (List.length x1) then (S.at' x1 j).2.1 else vl (Int.toNat x0 + al),
 Col.bool fun (j : Nat) =>
 bif Nat.blt j (List.length x1) then (S.at' x1 j).2.2 else gl (Int.toNat x0 + al)])]]) (5))
 (False))
 (False))
 (False))
 (False))
 (test (lim IntKind.i64 (x0 + (1 : Int)))
 (Kst (hd Try.f27 0) ([PV.int IntKind.i64 f0, PV.int IntKind.i64 t0, PV.own (1) (3) (List.length x1),
 PV.loose (PA.mk (0) (3) al (0)) nl, PV.int IntKind.i64 (↑nl : Int),
 PV.int IntKind.i64 (x0 + (1 : Int))]) ([[(0, false,
 Blk.cols ml [Col.int IntKind.i64 tl, Col.int IntKind.i64 vl, Col.bool gl]),
 (1, true,
 Blk.cols (List.length x1)
 [Col.int IntKind.i64 fun (j : Nat) => (S.at' x1 j).1,
 Col.int IntKind.i64 fun (j : Nat) => (S.at' x1 j).2.1,
 Col.bool fun (j : Nat) => (S.at' x1 j).2.2])]]) (3))
 (False)))
 (test (lim IntKind.i64 (x0 + (1 : Int)))
 (Kst (hd Try.f27 0) ([PV.int IntKind.i64 f0, PV.int IntKind.i64 t0, PV.own (1) (3) (List.length x1),
 PV.loose (PA.mk (0) (3) al (0)) nl, PV.int IntKind.i64 (↑nl : Int),
 PV.int IntKind.i64 (x0 + (1 : Int))]) ([[(0, false,
 Blk.cols ml [Col.int IntKind.i64 tl, Col.int IntKind.i64 vl, Col.bool gl]),
 (1, true,
 Blk.cols (List.length x1)
 [Col.int IntKind.i64 fun (j : Nat) => (S.at' x1 j).1,
 Col.int IntKind.i64 fun (j : Nat) => (S.at' x1 j).2.1,
 Col.bool fun (j : Nat) => (S.at' x1 j).2.2])]]) (3))
 (False)))
 (False))
 (False))
 (False))
 (False))
 (Kret (PV.tup [PV.own (1) (3) (List.length x1), PV.int IntKind.i64 (0 : Int)]) ([[(0, false,
 Blk.cols ml [Col.int IntKind.i64 tl, Col.int IntKind.i64 vl, Col.bool gl]),
 (1, true,
 Blk.cols (List.length x1)
 [Col.int IntKind.i64 fun (j : Nat) => (S.at' x1 j).1,
 Col.int IntKind.i64 fun (j : Nat) => (S.at' x1 j).2.1,
 Col.bool fun (j : Nat) => (S.at' x1 j).2.2])]]) (2))
set_option maxRecDepth 100000 in
theorem t27_0 (test : Bool → Prop → Prop → Prop) (Kst : KS) (Kret : KR) (ca : Int) (af : Int) (al nl ml : Nat) (tl : Nat → Int) (vl : Nat → Int) (gl : Nat → Bool) (ov : Int) (re : Int) (fz : Bool) (f0 : Int) (t0 : Int) (x0 : Int) (x1 : List (Int × Int × Bool)) : run test Try.env true (xG test) true 400 ⟨27, hd Try.f27 0, zipT [1, 2, 9, 29, 30, 31] [PV.int IntKind.i64 f0, PV.int IntKind.i64 t0, PV.own (1) (3) (List.length x1),
 PV.loose (PA.mk (0) (3) al (0)) nl, PV.int IntKind.i64 (↑nl : Int),
 PV.int IntKind.i64 x0], [[(1, (true, Blk.cols (List.length x1)
 [Col.int IntKind.i64 fun (j : Nat) => (S.at' x1 j).1,
 Col.int IntKind.i64 fun (j : Nat) => (S.at' x1 j).2.1,
 Col.bool fun (j : Nat) => (S.at' x1 j).2.2]))], [(0, (false, .cols ml [.int .i64 tl, .int .i64 vl, .bool gl]))]], 2⟩ (proj 1 [1, 2, 9, 29, 30, 31] Kst Kret) =
  T27_0 test Kst Kret ca af al nl ml tl vl gl ov re fz f0 t0 x0 x1 := by kernel_rfl
set_option maxRecDepth 100000 in
theorem be27 (ca : Int) (af : Int) (al nl ml : Nat) (tl : Nat → Int) (vl : Nat → Int) (gl : Nat → Bool) (ov : Int) (re : Int) (fz : Bool) (f0 : Int) (t0 : Int) (Kst : KS) (Kret : KR) (x : St27 ⊕ Rt27) (hS : HS 1 400 ((I27 ca af al nl ml tl vl gl ov re fz f0 t0)) Kst x) (hR : HR 1 400 ((V27 ca af al nl ml tl vl gl ov re fz f0 t0)) (fun r => [newL (1 + 1) ((N27 ca af al nl ml tl vl gl ov re fz f0 t0) r) ++ [(0, (false, .cols ml [.int .i64 tl, .int .i64 vl, .bool gl]))]]) Kret x) (h : (bif (decide (al + nl ≤ ml ∧ nl ≤ 1000000))
 then (bif (S.vB ca af nl (fun (j : Nat) => tl (j + al)) (fun (j : Nat) => vl (j + al)) ov re fz != (0 : Int))
 then (some (.inr (S.vB ca af nl (fun (j : Nat) => tl (j + al)) (fun (j : Nat) => vl (j + al)) ov re fz, [])))
 else (bif (decide (f0 < (0 : Int)))
 then (some (.inr ((6 : Int), [])))
 else (bif (decide (f0 > t0))
 then (some (.inr ((6 : Int), [])))
 else (bif (decide (t0 > (1099511627776 : Int)))
 then (some (.inr ((6 : Int), [])))
 else (some (.inl (.h0 ((0 : Int)) ([]))))))))
 else (none) : Option (St27 ⊕ Rt27)) = some x) : Te27 cond Kst Kret ca af al nl ml tl vl gl ov re fz f0 t0 := by
  unfold Te27
  exact bif_split h
   (fun c0 h => bif_split h
   (fun c1 h => ret_at hR _ h (fun n => bif Nat.beq n 2 then 399 else n) rfl rfl rfl (rn_tup ⟨(rn_own_nils rfl), (rn_int rfl), trivial⟩) rfl (entl_fresh (use_own rfl) (fresh_ok rfl) (entl_bor (use_lo rfl) rfl rfl entl_nil)))
   (fun c1 h => bif_split h
   (fun c2 h => ret_at hR _ h (fun n => bif Nat.beq n 2 then 399 else n) rfl rfl rfl (rn_tup ⟨(rn_own_nils rfl), (rn_int rfl), trivial⟩) rfl (entl_fresh (use_own rfl) (fresh_ok rfl) (entl_bor (use_lo rfl) rfl rfl entl_nil)))
   (fun c2 h => bif_split h
   (fun c3 h => ret_at hR _ h (fun n => bif Nat.beq n 2 then 399 else n) rfl rfl rfl (rn_tup ⟨(rn_own_nils rfl), (rn_int rfl), trivial⟩) rfl (entl_fresh (use_own rfl) (fresh_ok rfl) (entl_bor (use_lo rfl) rfl rfl entl_nil)))
   (fun c3 h => bif_split h
   (fun c4 h => ret_at hR _ h (fun n => bif Nat.beq n 2 then 399 else n) rfl rfl rfl (rn_tup ⟨(rn_own_nils rfl), (rn_int rfl), trivial⟩) rfl (entl_fresh (use_own rfl) (fresh_ok rfl) (entl_bor (use_lo rfl) rfl rfl entl_nil)))
   (fun c4 h => stop_at hS _ h (fun n => bif Nat.beq n 1 then 399 else n) rfl rfl rfl ⟨(rn_int rfl), ⟨(rn_int rfl), ⟨(rn_own_nils rfl), ⟨(rn_loose (use_lo rfl) rfl rfl rfl), ⟨(rn_int rfl), ⟨(rn_int rfl), trivial⟩⟩⟩⟩⟩⟩ rfl (entl_fresh (use_own rfl) (fresh_ok rfl) (entl_bor (use_lo rfl) rfl rfl entl_nil)))))))
   (fun c0 h => no_some h)
set_option maxRecDepth 100000 in
theorem b27_0 (ca : Int) (af : Int) (al nl ml : Nat) (tl : Nat → Int) (vl : Nat → Int) (gl : Nat → Bool) (ov : Int) (re : Int) (fz : Bool) (f0 : Int) (t0 : Int) (Kst : KS) (Kret : KR) (x : St27 ⊕ Rt27) (hS : HS 1 400 ((I27 ca af al nl ml tl vl gl ov re fz f0 t0)) Kst x) (hR : HR 1 400 ((V27 ca af al nl ml tl vl gl ov re fz f0 t0)) (fun r => [newL (1 + 1) ((N27 ca af al nl ml tl vl gl ov re fz f0 t0) r) ++ [(0, (false, .cols ml [.int .i64 tl, .int .i64 vl, .bool gl]))]]) Kret x) (x0 : Int) (x1 : List (Int × Int × Bool)) (h : (bif (decide (x0 < (↑nl : Int)))
 then (bif (decide ((0 : Int) ≤ x0 ∧ x0 < (↑nl : Int)))
 then (bif (decide (Int.toNat x0 + al < ml))
 then (bif (decide (tl (Int.toNat x0 + al) ≥ f0))
 then (bif (decide (tl (Int.toNat x0 + al) < t0))
 then (bif (decide (List.length x1 + 1 ≤ 1000000))
 then (bif (decide (List.length x1 ≤ List.length x1))
 then (bif (lim IntKind.i64 (x0 + (1 : Int)))
 then (some (.inl (.h0 (x0 + (1 : Int)) (S.snoc x1 (tl (Int.toNat x0 + al), vl (Int.toNat x0 + al), gl (Int.toNat x0 + al))))))
 else (none))
 else (none))
 else (none))
 else (bif (lim IntKind.i64 (x0 + (1 : Int)))
 then (some (.inl (.h0 (x0 + (1 : Int)) (x1))))
 else (none)))
 else (bif (lim IntKind.i64 (x0 + (1 : Int)))
 then (some (.inl (.h0 (x0 + (1 : Int)) (x1))))
 else (none)))
 else (none))
 else (none))
 else (some (.inr ((0 : Int), x1))) : Option (St27 ⊕ Rt27)) = some x) : T27_0 cond Kst Kret ca af al nl ml tl vl gl ov re fz f0 t0 x0 x1 := by
  unfold T27_0
  exact bif_split h
   (fun c0 h => bif_split h
   (fun c1 h => bif_split h
   (fun c2 h => cond_yes c2 (cond_yes c2 (bif_split h
   (fun c3 h => bif_split h
   (fun c4 h => bif_split h
   (fun c5 h => bif_split h
   (fun c6 h => cond_yes rfl (bif_split h
   (fun c7 h => stop_at hS _ h (fun n => bif Nat.beq n 1 then 4 else n) rfl rfl rfl ⟨(rn_int rfl), ⟨(rn_int rfl), ⟨(rn_own (use_own rfl) rfl (snoc_len' rfl)), ⟨(rn_loose (use_lo rfl) rfl rfl rfl), ⟨(rn_int rfl), ⟨(rn_int rfl), trivial⟩⟩⟩⟩⟩⟩ rfl (entl_new (use_own rfl) rfl (Nat.le_of_eq (snoc_len' rfl)) (rcs_int (col_snoc' (fun (t : Int × Int × Bool) => t.1) rfl (fun _ _ => rfl)) (rcs_int (col_snoc' (fun (t : Int × Int × Bool) => t.2.1) rfl (fun _ _ => rfl)) (rcs_bool (col_snoc' (fun (t : Int × Int × Bool) => t.2.2) rfl (fun _ _ => rfl)) rcs_nil))) (entl_bor (use_lo rfl) rfl rfl entl_nil)))
   (fun c7 h => no_some h)))
   (fun c6 h => no_some h))
   (fun c5 h => no_some h))
   (fun c4 h => bif_split h
   (fun c5 h => stop_at hS _ h (fun n => bif Nat.beq n 1 then 1 else n) rfl rfl rfl ⟨(rn_int rfl), ⟨(rn_int rfl), ⟨(rn_own (use_own rfl) rfl rfl), ⟨(rn_loose (use_lo rfl) rfl rfl rfl), ⟨(rn_int rfl), ⟨(rn_int rfl), trivial⟩⟩⟩⟩⟩⟩ rfl (entl_new (use_own rfl) rfl (Nat.le_of_eq rfl) (rcs_int (fun _ _ => rfl) (rcs_int (fun _ _ => rfl) (rcs_bool (fun _ _ => rfl) rcs_nil))) (entl_bor (use_lo rfl) rfl rfl entl_nil)))
   (fun c5 h => no_some h)))
   (fun c3 h => bif_split h
   (fun c4 h => stop_at hS _ h (fun n => bif Nat.beq n 1 then 1 else n) rfl rfl rfl ⟨(rn_int rfl), ⟨(rn_int rfl), ⟨(rn_own (use_own rfl) rfl rfl), ⟨(rn_loose (use_lo rfl) rfl rfl rfl), ⟨(rn_int rfl), ⟨(rn_int rfl), trivial⟩⟩⟩⟩⟩⟩ rfl (entl_new (use_own rfl) rfl (Nat.le_of_eq rfl) (rcs_int (fun _ _ => rfl) (rcs_int (fun _ _ => rfl) (rcs_bool (fun _ _ => rfl) rcs_nil))) (entl_bor (use_lo rfl) rfl rfl entl_nil)))
   (fun c4 h => no_some h)))))
   (fun c2 h => no_some h))
   (fun c1 h => no_some h))
   (fun c0 h => ret_at hR _ h (fun n => bif Nat.beq n 2 then 1 else n) rfl rfl rfl (rn_tup ⟨(rn_own (use_own rfl) rfl rfl), (rn_int rfl), trivial⟩) rfl (entl_new (use_own rfl) rfl (Nat.le_of_eq rfl) (rcs_int (fun _ _ => rfl) (rcs_int (fun _ _ => rfl) (rcs_bool (fun _ _ => rfl) rcs_nil))) (entl_bor (use_lo rfl) rfl rfl entl_nil)))
theorem a27 (ca : Int) (af : Int) (al nl ml : Nat) (tl : Nat → Int) (vl : Nat → Int) (gl : Nat → Bool) (ov : Int) (re : Int) (fz : Bool) (f0 : Int) (t0 : Int) {r : Rt27} (h : Goes ((q27 ca af al nl ml tl vl gl ov re fz f0 t0)) ((p27 ca af al nl ml tl vl gl ov re fz f0 t0)) r) : CallR Try.prog 27 [.agg [.int .i64 ca, .int .i64 af, .loose ⟨0, 3, al, 0⟩ nl, .int .i64 ov, .int .i64 re, .bool fz], .int .i64 f0, .int .i64 t0] [[(0, (false, .cols ml [.int .i64 tl, .int .i64 vl, .bool gl]))]] 1 ((V27 ca af al nl ml tl vl gl ov re fz f0 t0) r) ((fun r => [newL (1 + 1) ((N27 ca af al nl ml tl vl gl ov re fz f0 t0) r) ++ [(0, (false, .cols ml [.int .i64 tl, .int .i64 vl, .bool gl]))]]) r) 400 ∧ ∃ F, Try.prog.funcs[27]? = some F ∧ F.body.isSome = true ∧ (F.name == "runtime.NumGoroutine") = false := by
  refine dec_calls (f := 27) (lo := 1) (hi := 400) (H := [[(0, (false, .cols ml [.int .i64 tl, .int .i64 vl, .bool gl]))]]) (args := [.agg [.int .i64 ca, .int .i64 af, .loose ⟨0, 3, al, 0⟩ nl, .int .i64 ov, .int .i64 re, .bool fz], .int .i64 f0, .int .i64 t0]) Try.envOk Try.mixed xG_ok ((I27 ca af al nl ml tl vl gl ov re fz f0 t0)) ((V27 ca af al nl ml tl vl gl ov re fz f0 t0)) (fun r => [newL (1 + 1) ((N27 ca af al nl ml tl vl gl ov re fz f0 t0) r) ++ [(0, (false, .cols ml [.int .i64 tl, .int .i64 vl, .bool gl]))]]) (fn := mkFn Try.f27) (ts := [1, 2, 9, 29, 30, 31]) (n := 400) rfl (by decide) (by simp) (names_of rfl) ?_ ?_ ?_ h
  · intro s; cases s <;> exact ⟨hd_ok _ _, by simp [I27], names_of rfl, Nat.le_of_ble_eq_true rfl⟩
  · intro Kst Kret x hS hR h
    exact Holds.eq (te27 cond Kst Kret ca af al nl ml tl vl gl ov re fz f0 t0) (be27 ca af al nl ml tl vl gl ov re fz f0 t0 Kst Kret x hS hR h)
  · intro Kst Kret x hS hR s h
    cases s with
    | h0 x0 x1 => exact Holds.eq (t27_0 cond Kst Kret ca af al nl ml tl vl gl ov re fz f0 t0 x0 x1) (b27_0 ca af al nl ml tl vl gl ov re fz f0 t0 Kst Kret x hS hR x0 x1 h)
noncomputable def k27 : Con := ⟨27, [.agg [.plain (.int .i64), .plain (.int .i64), .list [.int .i64, .int .i64, .bool], .plain (.int .i64), .plain (.int .i64), .plain (.bool)], .one (.plain (.int .i64)), .one (.plain (.int .i64))], fun (x : (Int × Int × (Nat × Nat × Nat × (Nat → Int) × (Nat → Int) × (Nat → Bool) × Unit) × Int × Int × Bool × Unit) × Int × Int × Unit) => (fun (ca : Int) (af : Int) (al nl ml : Nat) (tl : Nat → Int) (vl : Nat → Int) (gl : Nat → Bool) (ov : Int) (re : Int) (fz : Bool) (f0 : Int) (t0 : Int) => decide (al + nl ≤ ml ∧ nl ≤ 999999)) x.1.1 x.1.2.1 x.1.2.2.1.1 x.1.2.2.1.2.1 x.1.2.2.1.2.2.1 x.1.2.2.1.2.2.2.1 x.1.2.2.1.2.2.2.2.1 x.1.2.2.1.2.2.2.2.2.1 x.1.2.2.2.1 x.1.2.2.2.2.1 x.1.2.2.2.2.2.1 x.2.1 x.2.2.1, fun (x : (Int × Int × (Nat × Nat × Nat × (Nat → Int) × (Nat → Int) × (Nat → Bool) × Unit) × Int × Int × Bool × Unit) × Int × Int × Unit) => (fun (ca : Int) (af : Int) (al nl ml : Nat) (tl : Nat → Int) (vl : Nat → Int) (gl : Nat → Bool) (ov : Int) (re : Int) (fz : Bool) (f0 : Int) (t0 : Int) => (V27 ca af al nl ml tl vl gl ov re fz f0 t0) (S.winR ca af nl (fun j => tl (j + al)) (fun j => vl (j + al)) (fun j => gl (j + al)) ov re fz f0 t0)) x.1.1 x.1.2.1 x.1.2.2.1.1 x.1.2.2.1.2.1 x.1.2.2.1.2.2.1 x.1.2.2.1.2.2.2.1 x.1.2.2.1.2.2.2.2.1 x.1.2.2.1.2.2.2.2.2.1 x.1.2.2.2.1 x.1.2.2.2.2.1 x.1.2.2.2.2.2.1 x.2.1 x.2.2.1, fun (x : (Int × Int × (Nat × Nat × Nat × (Nat → Int) × (Nat → Int) × (Nat → Bool) × Unit) × Int × Int × Bool × Unit) × Int × Int × Unit) => (fun (ca : Int) (af : Int) (al nl ml : Nat) (tl : Nat → Int) (vl : Nat → Int) (gl : Nat → Bool) (ov : Int) (re : Int) (fz : Bool) (f0 : Int) (t0 : Int) => (N27 ca af al nl ml tl vl gl ov re fz f0 t0) (S.winR ca af nl (fun j => tl (j + al)) (fun j => vl (j + al)) (fun j => gl (j + al)) ov re fz f0 t0)) x.1.1 x.1.2.1 x.1.2.2.1.1 x.1.2.2.1.2.1 x.1.2.2.1.2.2.1 x.1.2.2.1.2.2.2.1 x.1.2.2.1.2.2.2.2.1 x.1.2.2.1.2.2.2.2.2.1 x.1.2.2.2.1 x.1.2.2.2.2.1 x.1.2.2.2.2.2.1 x.2.1 x.2.2.1, fun _ _ => .dead⟩
theorem s27' (ca : Int) (af : Int) (al nl ml : Nat) (tl : Nat → Int) (vl : Nat → Int) (gl : Nat → Bool) (ov : Int) (re : Int) (fz : Bool) (f0 : Int) (t0 : Int) (hp : al + nl ≤ ml ∧ nl ≤ 999999) : ∀ k i : Nat, i + k = nl → Comes (q27 ca af al nl ml tl vl gl ov re fz f0 t0) (.h0 (i : Int) ((S.mkl i (fun j => (tl (j + al), vl (j + al), gl (j + al)))).filter (S.inW f0 t0))) ((0 : Int), ((S.mkl nl (fun j => (tl (j + al), vl (j + al), gl (j + al)))).filter (S.inW f0 t0))) := by
  obtain ⟨hp1, hp2⟩ := hp
  intro k
  induction k with
  | zero =>
    intro i hi
    obtain rfl : i = nl := by omega
    apply Comes.of
    show Goes _ _ _
    (first | rw [q27] | unfold q27)
    repeat' first
      | with_reducible refine goes_if (fun h => ?_) (fun h => ?_) <;> (try simp only [lim64, decide_eq_true_eq, decide_eq_false_iff_not, Int.toNat_natCast, toNat_pred, toNat_succ, Option.getD_some, Option.getD_none, Bool.not_eq_true', Bool.not_eq_false', Bool.and_eq_true, Bool.or_eq_true, Bool.and_eq_false_iff, Bool.or_eq_false_iff, bne_iff_ne, beq_iff_eq, bne_eq_false_iff_eq, beq_eq_false_iff_ne, ne_eq, not_and, Int.not_le, Int.not_lt, ge_iff_le, gt_iff_lt, Nat.not_lt, Nat.not_le, Bool.not_eq_true, Bool.not_eq_false, Bool.true_eq_false, Bool.false_eq_true, not_false_eq_true, not_true_eq_false] at h)
      | exact goes_none.mpr (by omega)
    all_goals first | (exfalso; omega) | rfl
  | succ k ih =>
    intro i hi
    have ih := ih (i + 1) (by omega)
    have hl : ((S.mkl i (fun j => (tl (j + al), vl (j + al), gl (j + al)))).filter (S.inW f0 t0)).length ≤ i := Nat.le_trans (List.length_filter_le _ _) (Nat.le_of_eq mkl_len)
    rw [mkl_succ, filter_snoc] at ih
    by_cases hw : f0 ≤ tl (i + al) ∧ tl (i + al) < t0
    · have e1 : S.inW f0 t0 (tl (i + al), vl (i + al), gl (i + al)) = true := decide_eq_true hw
      simp only [e1, if_true] at ih
      apply Comes.of
      show Goes _ _ _
      (first | rw [q27] | unfold q27)
      repeat' first
        | with_reducible refine goes_if (fun h => ?_) (fun h => ?_) <;> (try simp only [lim64, decide_eq_true_eq, decide_eq_false_iff_not, Int.toNat_natCast, toNat_pred, toNat_succ, Option.getD_some, Option.getD_none, Bool.not_eq_true', Bool.not_eq_false', Bool.and_eq_true, Bool.or_eq_true, Bool.and_eq_false_iff, Bool.or_eq_false_iff, bne_iff_ne, beq_iff_eq, bne_eq_false_iff_eq, beq_eq_false_iff_ne, ne_eq, not_and, Int.not_le, Int.not_lt, ge_iff_le, gt_iff_lt, Nat.not_lt, Nat.not_le, Bool.not_eq_true, Bool.not_eq_false, Bool.true_eq_false, Bool.false_eq_true, not_false_eq_true, not_true_eq_false] at h)
        | exact goes_none.mpr (by omega)
      all_goals first | (exfalso; omega) | exact ih
    · have e1 : S.inW f0 t0 (tl (i + al), vl (i + al), gl (i + al)) = false := decide_eq_false hw
      simp only [e1, Bool.false_eq_true, if_false] at ih
      apply Comes.of
      show Goes _ _ _
      (first | rw [q27] | unfold q27)
      repeat' first
        | with_reducible refine goes_if (fun h => ?_) (fun h => ?_) <;> (try simp only [lim64, decide_eq_true_eq, decide_eq_false_iff_not, Int.toNat_natCast, toNat_pred, toNat_succ, Option.getD_some, Option.getD_none, Bool.not_eq_true', Bool.not_eq_false', Bool.and_eq_true, Bool.or_eq_true, Bool.and_eq_false_iff, Bool.or_eq_false_iff, bne_iff_ne, beq_iff_eq, bne_eq_false_iff_eq, beq_eq_false_iff_ne, ne_eq, not_and, Int.not_le, Int.not_lt, ge_iff_le, gt_iff_lt, Nat.not_lt, Nat.not_le, Bool.not_eq_true, Bool.not_eq_false, Bool.true_eq_false, Bool.false_eq_true, not_false_eq_true, not_true_eq_false] at h)
        | exact goes_none.mpr (by omega)
      all_goals first | (exfalso; omega) | exact ih
theorem s27 (ca : Int) (af : Int) (al nl ml : Nat) (tl : Nat → Int) (vl : Nat → Int) (gl : Nat → Bool) (ov : Int) (re : Int) (fz : Bool) (f0 : Int) (t0 : Int) (hp : al + nl ≤ ml ∧ nl ≤ 999999) : Goes ((q27 ca af al nl ml tl vl gl ov re fz f0 t0)) ((p27 ca af al nl ml tl vl gl ov re fz f0 t0)) (S.winR ca af nl (fun j => tl (j + al)) (fun j => vl (j + al)) (fun j => gl (j + al)) ov re fz f0 t0) := by
  have hm := s27' ca af al nl ml tl vl gl ov re fz f0 t0 hp nl 0 (by omega)
  obtain ⟨hp1, hp2⟩ := hp
  unfold S.winR
  generalize he : S.vB ca af nl (fun j => tl (j + al)) (fun j => vl (j + al)) ov re fz = e
  by_cases h0 : e = 0
  · rw [if_pos h0]
    show Goes _ _ _
    unfold p27; rw [he]
    repeat' first
      | with_reducible refine goes_if (fun h => ?_) (fun h => ?_) <;> (try simp only [lim64, decide_eq_true_eq, decide_eq_false_iff_not, Int.toNat_natCast, toNat_pred, toNat_succ, Option.getD_some, Option.getD_none, Bool.not_eq_true', Bool.not_eq_false', Bool.and_eq_true, Bool.or_eq_true, Bool.and_eq_false_iff, Bool.or_eq_false_iff, bne_iff_ne, beq_iff_eq, bne_eq_false_iff_eq, beq_eq_false_iff_ne, ne_eq, not_and, Int.not_le, Int.not_lt, ge_iff_le, gt_iff_lt, Nat.not_lt, Nat.not_le, Bool.not_eq_true, Bool.not_eq_false, Bool.true_eq_false, Bool.false_eq_true, not_false_eq_true, not_true_eq_false] at h)
      | exact goes_none.mpr (by omega)
    all_goals first | (exfalso; omega) | (rw [if_pos (by omega)]; exact hm) | (rw [if_neg (by omega)]; rfl)
  · rw [if_neg h0]
    show Goes _ _ _
    unfold p27; rw [he]
    repeat' first
      | with_reducible refine goes_if (fun h => ?_) (fun h => ?_) <;> (try simp only [lim64, decide_eq_true_eq, decide_eq_false_iff_not, Int.toNat_natCast, toNat_pred, toNat_succ, Option.getD_some, Option.getD_none, Bool.not_eq_true', Bool.not_eq_false', Bool.and_eq_true, Bool.or_eq_true, Bool.and_eq_false_iff, Bool.or_eq_false_iff, bne_iff_ne, beq_iff_eq, bne_eq_false_iff_eq, beq_eq_false_iff_ne, ne_eq, not_and, Int.not_le, Int.not_lt, ge_iff_le, gt_iff_lt, Nat.not_lt, Nat.not_le, Bool.not_eq_true, Bool.not_eq_false, Bool.true_eq_false, Bool.false_eq_true, not_false_eq_true, not_true_eq_false] at h)
      | exact goes_none.mpr (by omega)
    all_goals first | (exfalso; omega) | rfl

theorem k27_ok : k27.ok Try.prog := by
  intro x hx
  obtain ⟨⟨ca, af, ⟨al, nl, ml, tl, vl, gl, _⟩, ov, re, fz, _⟩, f0, t0, _⟩ := x
  obtain ⟨h1, h2⟩ := a27 ca af al nl ml tl vl gl ov re fz f0 t0 (s27 ca af al nl ml tl vl gl ov re fz f0 t0 (of_dec hx rfl))
  exact ⟨⟨400, (by decide : 1 + 1 + 1 ≤ 400), h1⟩, h2⟩
inductive St28 where
  | h0 (x0 : Int) (x1 : List (Int × Int × Bool))
abbrev Rt28 := Int × List (Int × Int × Bool)
noncomputable def V28 (ca : Int) (af : Int) (al nl ml : Nat) (tl : Nat → Int) (vl : Nat → Int) (gl : Nat → Bool) (ov : Int) (re : Int) (fz : Bool) (f0 : Int) (t0 : Int) (r : Rt28) : PV := PV.tup [PV.own (2) (3) (List.length r.2), PV.int IntKind.i64 r.1]
noncomputable def N28 (ca : Int) (af : Int) (al nl ml : Nat) (tl : Nat → Int) (vl : Nat → Int) (gl : Nat → Bool) (ov : Int) (re : Int) (fz : Bool) (f0 : Int) (t0 : Int) (r : Rt28) : List Blk := [Blk.cols (List.length r.2)
 [Col.int IntKind.i64 fun (j : Nat) => (S.at' r.2 j).1,
 Col.int IntKind.i64 fun (j : Nat) => (S.at' r.2 j).2.1,
 Col.bool fun (j : Nat) => (S.at' r.2 j).2.2]]
noncomputable def I28 (ca : Int) (af : Int) (al nl ml : Nat) (tl : Nat → Int) (vl : Nat → Int) (gl : Nat → Bool) (ov : Int) (re : Int) (fz : Bool) (f0 : Int) (t0 : Int) : St28 → Hd
  | .h0 x0 x1 => ⟨hd Try.f28 0, [PV.int IntKind.i64 f0, PV.int IntKind.i64 t0,
 PV.ptr (PA.mk (1) (0) (0) (0)),
 PV.own (2) (3) (List.length x1), PV.int IntKind.i64 x0], [[(1, (true, Blk.cells
 [PV.int IntKind.i64 ca, PV.int IntKind.i64 af,
 PV.loose (PA.mk (0) (3) al (0)) nl, PV.int IntKind.i64 ov,
 PV.int IntKind.i64 re, PV.bool fz])), (2, (true, Blk.cols (List.length x1)
 [Col.int IntKind.i64 fun (j : Nat) => (S.at' x1 j).1,
 Col.int IntKind.i64 fun (j : Nat) => (S.at' x1 j).2.1,
 Col.bool fun (j : Nat) => (S.at' x1 j).2.2]))], [(0, (false, .cols ml [.int .i64 tl, .int .i64 vl, .bool gl]))]], 3⟩
noncomputable def q28 (ca : Int) (af : Int) (al nl ml : Nat) (tl : Nat → Int) (vl : Nat → Int) (gl : Nat → Bool) (ov : Int) (re : Int) (fz : Bool) (f0 : Int) (t0 : Int) : St28 → Option (St28 ⊕ Rt28)
  | .h0 x0 x1 => bif (decide (x0 < (↑nl : Int)))
 then (bif (decide ((0 : Int) ≤ x0 ∧ x0 < (↑nl : Int)))
 then (bif (decide (Int.toNat x0 + al < ml))
 then (bif (decide (tl (Int.toNat x0 + al) ≥ f0))
 then (bif (decide (tl (Int.toNat x0 + al) < t0))
 then (bif (decide (List.length x1 + 1 ≤ 1000000))
 then (bif (decide (List.length x1 ≤ List.length x1))
 then (bif (lim IntKind.i64 (x0 + (1 : Int)))
 then (some (.inl (.h0 (x0 + (1 : Int)) (S.snoc x1 (tl (Int.toNat x0 + al), vl (Int.toNat x0 + al), gl (Int.toNat x0 + al))))))
 else (none))
 else (none))
 else (none))
 else (bif (lim IntKind.i64 (x0 + (1 : Int)))
 then (some (.inl (.h0 (x0 + (1 : Int)) (x1))))
 else (none)))
 else (bif (lim IntKind.i64 (x0 + (1 : Int)))
 then (some (.inl (.h0 (x0 + (1 : Int)) (x1))))
 else (none)))
 else (none))
 else (none))
 else (some (.inr ((0 : Int), x1)))
noncomputable def p28 (ca : Int) (af : Int) (al nl ml : Nat) (tl : Nat → Int) (vl : Nat → Int) (gl : Nat → Bool) (ov : Int) (re : Int) (fz : Bool) (f0 : Int) (t0 : Int) : Option (St28 ⊕ Rt28) := bif (decide (al + nl ≤ ml ∧ nl ≤ 1000000))
 then (bif (S.vB ca af nl (fun (j : Nat) => tl (j + al)) (fun (j : Nat) => vl (j + al)) ov re fz != (0 : Int))
 then (some (.inr (S.vB ca af nl (fun (j : Nat) => tl (j + al)) (fun (j : Nat) => vl (j + al)) ov re fz, [])))
 else (bif (decide (f0 < (0 : Int)))
 then (some (.inr ((6 : Int), [])))
 else (bif (decide (f0 > t0))
 then (some (.inr ((6 : Int), [])))
 else (bif (decide (t0 > (1099511627776 : Int)))
 then (some (.inr ((6 : Int), [])))
 else (some (.inl (.h0 ((0 : Int)) ([]))))))))
 else (none)
noncomputable def Te28 (test : Bool → Prop → Prop → Prop) (Kst : KS) (Kret : KR) (ca : Int) (af : Int) (al nl ml : Nat) (tl : Nat → Int) (vl : Nat → Int) (gl : Nat → Bool) (ov : Int) (re : Int) (fz : Bool) (f0 : Int) (t0 : Int) : Prop :=
  test (decide (al + nl ≤ ml ∧ nl ≤ 1000000))
 (test (S.vB ca af nl (fun (j : Nat) => tl (j + al)) (fun (j : Nat) => vl (j + al)) ov re fz != (0 : Int))
 (Kret (PV.tup
 [PV.nils,
 PV.int IntKind.i64
 (S.vB ca af nl (fun (j : Nat) => tl (j + al)) (fun (j : Nat) => vl (j + al)) ov re fz)]) ([[(0, false,
 Blk.cols ml [Col.int IntKind.i64 tl, Col.int IntKind.i64 vl, Col.bool gl])]]) (3))
 (test (decide (f0 < (0 : Int)))
 (Kret (PV.tup [PV.nils, PV.int IntKind.i64 (6 : Int)]) ([[(0, false,
 Blk.cols ml [Col.int IntKind.i64 tl, Col.int IntKind.i64 vl, Col.bool gl])]]) (3))
 (test (decide (f0 > t0))
 (Kret (PV.tup [PV.nils, PV.int IntKind.i64 (6 : Int)]) ([[(0, false,
 Blk.cols ml [Col.int IntKind.i64 tl, Col.int IntKind.i64 vl, Col.bool gl])]]) (3))
 (test (decide (t0 > (1099511627776 : Int)))
 (Kret (PV.tup [PV.nils, PV.int IntKind.i64 (6 : Int)]) ([[(0, false,
 Blk.cols ml [Col.int IntKind.i64 tl, Col.int IntKind.i64 vl, Col.bool gl])]]) (3))
 (Kst (hd Try.f28 0) ([PV.int IntKind.i64 f0, PV.int IntKind.i64 t0,
 PV.ptr (PA.mk (1) (0) (0) (0)), PV.nils,
 PV.int IntKind.i64 (0 : Int)]) ([[(0, false,
 Blk.cols ml [Col.int IntKind.i64 tl, Col.int IntKind.i64 vl, Col.bool gl]),
 (1, true,
 Blk.cells
 [PV.int IntKind.i64 ca, PV.int IntKind.i64 af,
 PV.loose (PA.mk (0) (3) al (0)) nl, PV.int IntKind.i64 ov,
 PV.int IntKind.i64 re, PV.bool fz])]]) (3))))))
 (False)
set_option maxRecDepth 100000 in
theorem te28 (test : Bool → Prop → Prop → Prop) (Kst : KS) (Kret : KR) (ca : Int) (af : Int) (al nl ml : Nat) (tl : Nat → Int) (vl : Nat → Int) (gl : Nat → Bool) (ov : Int) (re : Int) (fz : Bool) (f0 : Int) (t0 : Int) : run test Try.env true (xG test) true 400 ⟨28, [.cd (mkFn Try.f28).body], argT 0 [.agg [.int .i64 ca, .int .i64 af, .loose ⟨0, 3, al, 0⟩ nl, .int .i64 ov, .int .i64 re, .bool fz], .int .i64 f0, .int .i64 t0], [[], [(0, (false, .cols ml [.int .i64 tl, .int .i64 vl, .bool gl]))]], 1⟩ (proj 1 [1, 2, 3, 9, 10] Kst Kret) =
  Te28 test Kst Kret ca af al nl ml tl vl gl ov re fz f0 t0 := by kernel_rfl
noncomputable def T28_0 (test : Bool → Prop → Prop → Prop) (Kst : KS) (Kret : KR) (ca : Int) (af : Int) (al nl ml : Nat) (tl : Nat → Int) (vl : Nat → Int) (gl : Nat → Bool) (ov : Int) (re : Int) (fz : Bool) (f0 : Int) (t0 : Int) (x0 : Int) (x1 : List (Int × Int × Bool)) : Prop :=
  test (decide (x0 < (↑nl : Int)))
 (test (decide ((0 : Int) ≤ x0 ∧ x0 < (↑nl : Int)))
 (test (decide (Int.toNat x0 + al < ml))
 (test (decide (tl (Int.toNat x0 + al) ≥ f0))
 (test (decide ((0 : Int) ≤ x0 ∧ x0 < (↑nl : Int)))
 (test (decide (Int.toNat x0 + al < ml))
 (test (decide (tl (Int.toNat x0 + al) < t0))
 (test (decide ((0 : Int) ≤ x0 ∧ x0 < (↑nl : Int)))
 (test (decide (Int.toNat x0 + al < ml))
 (test (decide (Int.toNat x0 + al < ml))
 (test (decide (Int.toNat x0 + al < ml))
 (test (decide (List.length x1 + 1 ≤ 1000000))
 (test (decide (List.length x1 ≤ List.length x1))
 (test (true)
 (test (lim IntKind.i64 (x0 + (1 : Int)))
 (Kst (hd Try.f28 0) ([PV.int IntKind.i64 f0, PV.int IntKind.i64 t0,
 PV.ptr (PA.mk (1) (0) (0) (0)),
 PV.own (4) (3) (List.length x1 + 1), PV.int IntKind.i64 (x0 + (1 : Int))]) ([[(0, false,
 Blk.cols ml [Col.int IntKind.i64 tl, Col.int IntKind.i64 vl, Col.bool gl]),
 (4, true,
 Blk.cols (List.length x1 + 1)
 [Col.int IntKind.i64 fun (j : Nat) =>
 bif Nat.blt j (List.length x1) then (S.at' x1 j).1 else tl (Int.toNat x0 + al),
 Col.int IntKind.i64 fun (j : Nat) =>
 bif Nat.blt j (List.length x1) then (S.at' x1 j).2.1 else vl (Int.toNat x0 + al),
 Col.bool fun (j : Nat) =>
 bif Nat.blt j (List.length x1) then (S.at' x1 j).2.2 else gl (Int.toNat x0 + al)]),
 (1, true,
 Blk.cells
 [PV.int IntKind.i64 ca, PV.int IntKind.i64 af,
 PV.loose (PA.mk (0) (3) al (0)) nl, PV.int IntKind.i64 ov,
 PV.int IntKind.i64 re, PV.bool fz])]]) (5))
 (False))
 (False))
 (False))
 (False))
 (False))
 (False))
 (False))
 (False))
 (test (lim IntKind.i64 (x0 + (1 : Int)))
 (Kst (hd Try.f28 0) ([PV.int IntKind.i64 f0, PV.int IntKind.i64 t0,
 PV.ptr (PA.mk (1) (0) (0) (0)),
 PV.own (2) (3) (List.length x1), PV.int IntKind.i64 (x0 + (1 : Int))]) ([[(0, false,
 Blk.cols ml [Col.int IntKind.i64 tl, Col.int IntKind.i64 vl, Col.bool gl]),
 (2, true,
 Blk.cols (List.length x1)
 [Col.int IntKind.i64 fun (j : Nat) => (S.at' x1 j).1,
 Col.int IntKind.i64 fun (j : Nat) => (S.at' x1 j).2.1,
 Col.bool fun (j : Nat) => (S.at' x1 j).2.2]),
 (1, true,
 Blk.cells
 [PV.int IntKind.i64 ca, PV.int IntKind.i64 af,
 PV.loose (PA.mk (0) (3) al (0)) nl, PV.int IntKind.i64 ov,
 PV.int IntKind.i64 re, PV.bool fz])]]) (3))
 (False)))
 (False))
 (False))
 (test (lim IntKind.i64 (x0 + (1 : Int)))
 (Kst (hd Try.f28 0) ([PV.int IntKind.i64 f0, PV.int IntKind.i64 t0,
 PV.ptr (PA.mk (1) (0) (0) (0)),
 PV.own (2) (3) (List.length x1), PV.int IntKind.i64 (x0 + (1 : Int))]) ([[(0, false,
 Blk.cols ml [Col.int IntKind.i64 tl, Col.int IntKind.i64 vl, Col.bool gl]),
 (2, true,
 Blk.cols (List.length x1)
 [Col.int IntKind.i64 fun (j : Nat) => (S.at' x1 j).1,
 Col.int IntKind.i64 fun (j : Nat) => (S.at' x1 j).2.1,
 Col.bool fun (j : Nat) => (S.at' x1 j).2.2]),
 (1, true,
 Blk.cells
 [PV.int IntKind.i64 ca, PV.int IntKind.i64 af,
 PV.loose (PA.mk (0) (3) al (0)) nl, PV.int IntKind.i64 ov,
 PV.int IntKind.i64 re, PV.bool fz])]]) (3))
 (False)))
 (False))
 (False))
 (Kret (PV.tup [PV.own (2) (3) (List.length x1), PV.int IntKind.i64 (0 : Int)]) ([[(0, false,
 Blk.cols ml [Col.int IntKind.i64 tl, Col.int IntKind.i64 vl, Col.bool gl]),
 (2, true,
 Blk.cols (List.length x1)
 [Col.int IntKind.i64 fun (j : Nat) => (S.at' x1 j).1,
 Col.int IntKind.i64 fun (j : Nat) => (S.at' x1 j).2.1,
 Col.bool fun (j : Nat) => (S.at' x1 j).2.2])]]) (3))
set_option maxRecDepth 100000 in
theorem t28_0 (test : Bool → Prop → Prop → Prop) (Kst : KS) (Kret : KR) (ca : Int) (af : Int) (al nl ml : Nat) (tl : Nat → Int) (vl : Nat → Int) (gl : Nat → Bool) (ov : Int) (re : Int) (fz : Bool) (f0 : Int) (t0 : Int) (x0 : Int) (x1 : List (Int × Int × Bool)) : run test Try.env true (xG test) true 400 ⟨28, hd Try.f28 0, zipT [1, 2, 3, 9, 10] [PV.int IntKind.i64 f0, PV.int IntKind.i64 t0,
 PV.ptr (PA.mk (1) (0) (0) (0)),
 PV.own (2) (3) (List.length x1), PV.int IntKind.i64 x0], [[(1, (true, Blk.cells
 [PV.int IntKind.i64 ca, PV.int IntKind.i64 af,
 PV.loose (PA.mk (0) (3) al (0)) nl, PV.int IntKind.i64 ov,
 PV.int IntKind.i64 re, PV.bool fz])), (2, (true, Blk.cols (List.length x1)
 [Col.int IntKind.i64 fun (j : Nat) => (S.at' x1 j).1,
 Col.int IntKind.i64 fun (j : Nat) => (S.at' x1 j).2.1,
 Col.bool fun (j : Nat) => (S.at' x1 j).2.2]))], [(0, (false, .cols ml [.int .i64 tl, .int .i64 vl, .bool gl]))]], 3⟩ (proj 1 [1, 2, 3, 9, 10] Kst Kret) =
  T28_0 test Kst Kret ca af al nl ml tl vl gl ov re fz f0 t0 x0 x1 := by kernel_rfl
set_option maxRecDepth 100000 in
theorem be28 (ca : Int) (af : Int) (al nl ml : Nat) (tl : Nat → Int) (vl : Nat → Int) (gl : Nat → Bool) (ov : Int) (re : Int) (fz : Bool) (f0 : Int) (t0 : Int) (Kst : KS) (Kret : KR) (x : St28 ⊕ Rt28) (hS : HS 1 400 ((I28 ca af al nl ml tl vl gl ov re fz f0 t0)) Kst x) (hR : HR 1 400 ((V28 ca af al nl ml tl vl gl ov re fz f0 t0)) (fun r => [newL (1 + 1) ((N28 ca af al nl ml tl vl gl ov re fz f0 t0) r) ++ [(0, (false, .cols ml [.int .i64 tl, .int .i64 vl, .bool gl]))]]) Kret x) (h : (bif (decide (al + nl ≤ ml ∧ nl ≤ 1000000))
 then (bif (S.vB ca af nl (fun (j : Nat) => tl (j + al)) (fun (j : Nat) => vl (j + al)) ov re fz != (0 : Int))
 then (some (.inr (S.vB ca af nl (fun (j : Nat) => tl (j + al)) (fun (j : Nat) => vl (j + al)) ov re fz, [])))
 else (bif (decide (f0 < (0 : Int)))
 then (some (.inr ((6 : Int), [])))
 else (bif (decide (f0 > t0))
 then (some (.inr ((6 : Int), [])))
 else (bif (decide (t0 > (1099511627776 : Int)))
 then (some (.inr ((6 : Int), [])))
 else (some (.inl (.h0 ((0 : Int)) ([]))))))))
 else (none) : Option (St28 ⊕ Rt28)) = some x) : Te28 cond Kst Kret ca af al nl ml tl vl gl ov re fz f0 t0 := by
  unfold Te28
  exact bif_split h
   (fun c0 h => bif_split h
   (fun c1 h => ret_at hR _ h (fun n => bif Nat.beq n 2 then 399 else n) rfl rfl rfl (rn_tup ⟨(rn_own_nils rfl), (rn_int rfl), trivial⟩) rfl (entl_fresh (use_own rfl) (fresh_ok rfl) (entl_bor (use_lo rfl) rfl rfl entl_nil)))
   (fun c1 h => bif_split h
   (fun c2 h => ret_at hR _ h (fun n => bif Nat.beq n 2 then 399 else n) rfl rfl rfl (rn_tup ⟨(rn_own_nils rfl), (rn_int rfl), trivial⟩) rfl (entl_fresh (use_own rfl) (fresh_ok rfl) (entl_bor (use_lo rfl) rfl rfl entl_nil)))
   (fun c2 h => bif_split h
   (fun c3 h => ret_at hR _ h (fun n => bif Nat.beq n 2 then 399 else n) rfl rfl rfl (rn_tup ⟨(rn_own_nils rfl), (rn_int rfl), trivial⟩) rfl (entl_fresh (use_own rfl) (fresh_ok rfl) (entl_bor (use_lo rfl) rfl rfl entl_nil)))
   (fun c3 h => bif_split h
   (fun c4 h => ret_at hR _ h (fun n => bif Nat.beq n 2 then 399 else n) rfl rfl rfl (rn_tup ⟨(rn_own_nils rfl), (rn_int rfl), trivial⟩) rfl (entl_fresh (use_own rfl) (fresh_ok rfl) (entl_bor (use_lo rfl) rfl rfl entl_nil)))
   (fun c4 h => stop_at hS _ h (fun n => bif Nat.beq n 1 then 1 else bif Nat.beq n 2 then 399 else n) rfl rfl rfl ⟨(rn_int rfl), ⟨(rn_int rfl), ⟨(rn_ptr (use_own rfl) rfl rfl), ⟨(rn_own_nils rfl), ⟨(rn_int rfl), trivial⟩⟩⟩⟩⟩ rfl (entl_b (use_own rfl) rfl (by simp) (rb_cells ⟨(rn_int rfl), (rn_int rfl), (rn_loose (use_lo rfl) rfl rfl rfl), (rn_int rfl), (rn_int rfl), (rn_bool rfl), trivial⟩) (entl_fresh (use_own rfl) (fresh_ok rfl) (entl_bor (use_lo rfl) rfl rfl entl_nil))))))))
   (fun c0 h => no_some h)
set_option maxRecDepth 100000 in
theorem b28_0 (ca : Int) (af : Int) (al nl ml : Nat) (tl : Nat → Int) (vl : Nat → Int) (gl : Nat → Bool) (ov : Int) (re : Int) (fz : Bool) (f0 : Int) (t0 : Int) (Kst : KS) (Kret : KR) (x : St28 ⊕ Rt28) (hS : HS 1 400 ((I28 ca af al nl ml tl vl gl ov re fz f0 t0)) Kst x) (hR : HR 1 400 ((V28 ca af al nl ml tl vl gl ov re fz f0 t0)) (fun r => [newL (1 + 1) ((N28 ca af al nl ml tl vl gl ov re fz f0 t0) r) ++ [(0, (false, .cols ml [.int .i64 tl, .int .i64 vl, .bool gl]))]]) Kret x) (x0 : Int) (x1 : List (Int × Int × Bool)) (h : (bif (decide (x0 < (↑nl : Int)))
 then (bif (decide ((0 : Int) ≤ x0 ∧ x0 < (↑nl : Int)))
 then (bif (decide (Int.toNat x0 + al < ml))
 then (bif (decide (tl (Int.toNat x0 + al) ≥ f0))
 then (bif (decide (tl (Int.toNat x0 + al) < t0))
 then (bif (decide (List.length x1 + 1 ≤ 1000000))
 then (bif (decide (List.length x1 ≤ List.length x1))
 then (bif (lim IntKind.i64 (x0 + (1 : Int)))
 then (some (.inl (.h0 (x0 + (1 : Int)) (S.snoc x1 (tl (Int.toNat x0 + al), vl (Int.toNat x0 + al), gl (Int.toNat x0 + al))))))
 else (none))
 else (none))
 else (none))
 else (bif (lim IntKind.i64 (x0 + (1 : Int)))
 then (some (.inl (.h0 (x0 + (1 : Int)) (x1))))
 else (none)))
 else (bif (lim IntKind.i64 (x0 + (1 : Int)))
 then (some (.inl (.h0 (x0 + (1 : Int)) (x1))))
 else (none)))
 else (none))
 else (none))
 else (some (.inr ((0 : Int), x1))) : Option (St28 ⊕ Rt28)) = some x) : T28_0 cond Kst Kret ca af al nl ml tl vl gl ov re fz f0 t0 x0 x1 := by
  unfold T28_0
  exact bif_split h
   (fun c0 h => bif_split h
   (fun c1 h => bif_split h
   (fun c2 h => bif_split h
   (fun c3 h => cond_yes c1 (cond_yes c2 (bif_split h
   (fun c4 h => cond_yes c1 (cond_yes c2 (cond_yes c2 (cond_yes c2 (bif_split h
   (fun c5 h => bif_split h
   (fun c6 h => cond_yes rfl (bif_split h
   (fun c7 h => stop_at hS _ h (fun n => bif Nat.beq n 1 then 1 else bif Nat.beq n 2 then 4 else n) rfl rfl rfl ⟨(rn_int rfl), ⟨(rn_int rfl), ⟨(rn_ptr (use_own rfl) rfl rfl), ⟨(rn_own (use_own rfl) rfl (snoc_len' rfl)), ⟨(rn_int rfl), trivial⟩⟩⟩⟩⟩ rfl (entl_b (use_own rfl) rfl (by simp) (rb_cells ⟨(rn_int rfl), (rn_int rfl), (rn_loose (use_lo rfl) rfl rfl rfl), (rn_int rfl), (rn_int rfl), (rn_bool rfl), trivial⟩) (entl_new (use_own rfl) rfl (Nat.le_of_eq (snoc_len' rfl)) (rcs_int (col_snoc' (fun (t : Int × Int × Bool) => t.1) rfl (fun _ _ => rfl)) (rcs_int (col_snoc' (fun (t : Int × Int × Bool) => t.2.1) rfl (fun _ _ => rfl)) (rcs_bool (col_snoc' (fun (t : Int × Int × Bool) => t.2.2) rfl (fun _ _ => rfl)) rcs_nil))) (entl_bor (use_lo rfl) rfl rfl entl_nil))))
   (fun c7 h => no_some h)))
   (fun c6 h => no_some h))
   (fun c5 h => no_some h))))))
   (fun c4 h => bif_split h
   (fun c5 h => stop_at hS _ h (fun n => bif Nat.beq n 1 then 1 else bif Nat.beq n 2 then 2 else n) rfl rfl rfl ⟨(rn_int rfl), ⟨(rn_int rfl), ⟨(rn_ptr (use_own rfl) rfl rfl), ⟨(rn_own (use_own rfl) rfl rfl), ⟨(rn_int rfl), trivial⟩⟩⟩⟩⟩ rfl (entl_b (use_own rfl) rfl (by simp) (rb_cells ⟨(rn_int rfl), (rn_int rfl), (rn_loose (use_lo rfl) rfl rfl rfl), (rn_int rfl), (rn_int rfl), (rn_bool rfl), trivial⟩) (entl_new (use_own rfl) rfl (Nat.le_of_eq rfl) (rcs_int (fun _ _ => rfl) (rcs_int (fun _ _ => rfl) (rcs_bool (fun _ _ => rfl) rcs_nil))) (entl_bor (use_lo rfl) rfl rfl entl_nil))))
   (fun c5 h => no_some h)))))
   (fun c3 h => bif_split h
   (fun c4 h => stop_at hS _ h (fun n => bif Nat.beq n 1 then 1 else bif Nat.beq n 2 then 2 else n) rfl rfl rfl ⟨(rn_int rfl), ⟨(rn_int rfl), ⟨(rn_ptr (use_own rfl) rfl rfl), ⟨(rn_own (use_own rfl) rfl rfl), ⟨(rn_int rfl), trivial⟩⟩⟩⟩⟩ rfl (entl_b (use_own rfl) rfl (by simp) (rb_cells ⟨(rn_int rfl), (rn_int rfl), (rn_loose (use_lo rfl) rfl rfl rfl), (rn_int rfl), (rn_int rfl), (rn_bool rfl), trivial⟩) (entl_new (use_own rfl) rfl (Nat.le_of_eq rfl) (rcs_int (fun _ _ => rfl) (rcs_int (fun _ _ => rfl) (rcs_bool (fun _ _ => rfl) rcs_nil))) (entl_bor (use_lo rfl) rfl rfl entl_nil))))
   (fun c4 h => no_some h)))
   (fun c2 h => no_some h))
   (fun c1 h => no_some h))
   (fun c0 h => ret_at hR _ h (fun n => bif Nat.beq n 2 then 2 else n) rfl rfl rfl (rn_tup ⟨(rn_own (use_own rfl) rfl rfl), (rn_int rfl), trivial⟩) rfl (entl_new (use_own rfl) rfl (Nat.le_of_eq rfl) (rcs_int (fun _ _ => rfl) (rcs_int (fun _ _ => rfl) (rcs_bool (fun _ _ => rfl) rcs_nil))) (entl_bor (use_lo rfl) rfl rfl entl_nil)))
theorem a28 (ca : Int) (af : Int) (al nl ml : Nat) (tl : Nat → Int) (vl : Nat → Int) (gl : Nat → Bool) (ov : Int) (re : Int) (fz : Bool) (f0 : Int) (t0 : Int) {r : Rt28} (h : Goes ((q28 ca af al nl ml tl vl gl ov re fz f0 t0)) ((p28 ca af al nl ml tl vl gl ov re fz f0 t0)) r) : CallR Try.prog 28 [.agg [.int .i64 ca, .int .i64 af, .loose ⟨0, 3, al, 0⟩ nl, .int .i64 ov, .int .i64 re, .bool fz], .int .i64 f0, .int .i64 t0] [[(0, (false, .cols ml [.int .i64 tl, .int .i64 vl, .bool gl]))]] 1 ((V28 ca af al nl ml tl vl gl ov re fz f0 t0) r) ((fun r => [newL (1 + 1) ((N28 ca af al nl ml tl vl gl ov re fz f0 t0) r) ++ [(0, (false, .cols ml [.int .i64 tl, .int .i64 vl, .bool gl]))]]) r) 400 ∧ ∃ F, Try.prog.funcs[28]? = some F ∧ F.body.isSome = true ∧ (F.name == "runtime.NumGoroutine") = false := by
  refine dec_calls (f := 28) (lo := 1) (hi := 400) (H := [[(0, (false, .cols ml [.int .i64 tl, .int .i64 vl, .bool gl]))]]) (args := [.agg [.int .i64 ca, .int .i64 af, .loose ⟨0, 3, al, 0⟩ nl, .int .i64 ov, .int .i64 re, .bool fz], .int .i64 f0, .int .i64 t0]) Try.envOk Try.mixed xG_ok ((I28 ca af al nl ml tl vl gl ov re fz f0 t0)) ((V28 ca af al nl ml tl vl gl ov re fz f0 t0)) (fun r => [newL (1 + 1) ((N28 ca af al nl ml tl vl gl ov re fz f0 t0) r) ++ [(0, (false, .cols ml [.int .i64 tl, .int .i64 vl, .bool gl]))]]) (fn := mkFn Try.f28) (ts := [1, 2, 3, 9, 10]) (n := 400) rfl (by decide) (by simp) (names_of rfl) ?_ ?_ ?_ h
  · intro s; cases s <;> exact ⟨hd_ok _ _, by simp [I28], names_of rfl, Nat.le_of_ble_eq_true rfl⟩
  · intro Kst Kret x hS hR h
    exact Holds.eq (te28 cond Kst Kret ca af al nl ml tl vl gl ov re fz f0 t0) (be28 ca af al nl ml tl vl gl ov re fz f0 t0 Kst Kret x hS hR h)
  · intro Kst Kret x hS hR s h
    cases s with
    | h0 x0 x1 => exact Holds.eq (t28_0 cond Kst Kret ca af al nl ml tl vl gl ov re fz f0 t0 x0 x1) (b28_0 ca af al nl ml tl vl gl ov re fz f0 t0 Kst Kret x hS hR x0 x1 h)
noncomputable def k28 : Con := ⟨28, [.agg [.plain (.int .i64), .plain (.int .i64), .list [.int .i64, .int .i64, .bool], .plain (.int .i64), .plain (.int .i64), .plain (.bool)], .one (.plain (.int .i64)), .one (.plain (.int .i64))], fun (x : (Int × Int × (Nat × Nat × Nat × (Nat → Int) × (Nat → Int) × (Nat → Bool) × Unit) × Int × Int × Bool × Unit) × Int × Int × Unit) => (fun (ca : Int) (af : Int) (al nl ml : Nat) (tl : Nat → Int) (vl : Nat → Int) (gl : Nat → Bool) (ov : Int) (re : Int) (fz : Bool) (f0 : Int) (t0 : Int) => decide (al + nl ≤ ml ∧ nl ≤ 999999)) x.1.1 x.1.2.1 x.1.2.2.1.1 x.1.2.2.1.2.1 x.1.2.2.1.2.2.1 x.1.2.2.1.2.2.2.1 x.1.2.2.1.2.2.2.2.1 x.1.2.2.1.2.2.2.2.2.1 x.1.2.2.2.1 x.1.2.2.2.2.1 x.1.2.2.2.2.2.1 x.2.1 x.2.2.1, fun (x : (Int × Int × (Nat × Nat × Nat × (Nat → Int) × (Nat → Int) × (Nat → Bool) × Unit) × Int × Int × Bool × Unit) × Int × Int × Unit) => (fun (ca : Int) (af : Int) (al nl ml : Nat) (tl : Nat → Int) (vl : Nat → Int) (gl : Nat → Bool) (ov : Int) (re : Int) (fz : Bool) (f0 : Int) (t0 : Int) => (V28 ca af al nl ml tl vl gl ov re fz f0 t0) (S.winR ca af nl (fun j => tl (j + al)) (fun j => vl (j + al)) (fun j => gl (j + al)) ov re fz f0 t0)) x.1.1 x.1.2.1 x.1.2.2.1.1 x.1.2.2.1.2.1 x.1.2.2.1.2.2.1 x.1.2.2.1.2.2.2.1 x.1.2.2.1.2.2.2.2.1 x.1.2.2.1.2.2.2.2.2.1 x.1.2.2.2.1 x.1.2.2.2.2.1 x.1.2.2.2.2.2.1 x.2.1 x.2.2.1, fun (x : (Int × Int × (Nat × Nat × Nat × (Nat → Int) × (Nat → Int) × (Nat → Bool) × Unit) × Int × Int × Bool × Unit) × Int × Int × Unit) => (fun (ca : Int) (af : Int) (al nl ml : Nat) (tl : Nat → Int) (vl : Nat → Int) (gl : Nat → Bool) (ov : Int) (re : Int) (fz : Bool) (f0 : Int) (t0 : Int) => (N28 ca af al nl ml tl vl gl ov re fz f0 t0) (S.winR ca af nl (fun j => tl (j + al)) (fun j => vl (j + al)) (fun j => gl (j + al)) ov re fz f0 t0)) x.1.1 x.1.2.1 x.1.2.2.1.1 x.1.2.2.1.2.1 x.1.2.2.1.2.2.1 x.1.2.2.1.2.2.2.1 x.1.2.2.1.2.2.2.2.1 x.1.2.2.1.2.2.2.2.2.1 x.1.2.2.2.1 x.1.2.2.2.2.1 x.1.2.2.2.2.2.1 x.2.1 x.2.2.1, fun _ _ => .dead⟩
theorem s28' (ca : Int) (af : Int) (al nl ml : Nat) (tl : Nat → Int) (vl : Nat → Int) (gl : Nat → Bool) (ov : Int) (re : Int) (fz : Bool) (f0 : Int) (t0 : Int) (hp : al + nl ≤ ml ∧ nl ≤ 999999) : ∀ k i : Nat, i + k = nl → Comes (q28 ca af al nl ml tl vl gl ov re fz f0 t0) (.h0 (i : Int) ((S.mkl i (fun j => (tl (j + al), vl (j + al), gl (j + al)))).filter (S.inW f0 t0))) ((0 : Int), ((S.mkl nl (fun j => (tl (j + al), vl (j + al), gl (j + al)))).filter (S.inW f0 t0))) := by
  obtain ⟨hp1, hp2⟩ := hp
  intro k
  induction k with
  | zero =>
    intro i hi
    obtain rfl : i = nl := by omega
    apply Comes.of
    show Goes _ _ _
    (first | rw [q28] | unfold q28)
    repeat' first
      | with_reducible refine goes_if (fun h => ?_) (fun h => ?_) <;> (try simp only [lim64, decide_eq_true_eq, decide_eq_false_iff_not, Int.toNat_natCast, toNat_pred, toNat_succ, Option.getD_some, Option.getD_none, Bool.not_eq_true', Bool.not_eq_false', Bool.and_eq_true, Bool.or_eq_true, Bool.and_eq_false_iff, Bool.or_eq_false_iff, bne_iff_ne, beq_iff_eq, bne_eq_false_iff_eq, beq_eq_false_iff_ne, ne_eq, not_and, Int.not_le, Int.not_lt, ge_iff_le, gt_iff_lt, Nat.not_lt, Nat.not_le, Bool.not_eq_true, Bool.not_eq_false, Bool.true_eq_false, Bool.false_eq_true, not_false_eq_true, not_true_eq_false] at h)
      | exact goes_none.mpr (by omega)
    all_goals first | (exfalso; omega) | rfl
  | succ k ih =>
    intro i hi
    have ih := ih (i + 1) (by omega)
    have hl : ((S.mkl i (fun j => (tl (j + al), vl (j + al), gl (j + al)))).filter (S.inW f0 t0)).length ≤ i := Nat.le_trans (List.length_filter_le _ _) (Nat.le_of_eq mkl_len)
    rw [mkl_succ, filter_snoc] at ih
    by_cases hw : f0 ≤ tl (i + al) ∧ tl (i + al) < t0
    · have e1 : S.inW f0 t0 (tl (i + al), vl (i + al), gl (i + al)) = true := decide_eq_true hw
      simp only [e1, if_true] at ih
      apply Comes.of
      show Goes _ _ _
      (first | rw [q28] | unfold q28)
      repeat' first
        | with_reducible refine goes_if (fun h => ?_) (fun h => ?_) <;> (try simp only [lim64, decide_eq_true_eq, decide_eq_false_iff_not, Int.toNat_natCast, toNat_pred, toNat_succ, Option.getD_some, Option.getD_none, Bool.not_eq_true', Bool.not_eq_false', Bool.and_eq_true, Bool.or_eq_true, Bool.and_eq_false_iff, Bool.or_eq_false_iff, bne_iff_ne, beq_iff_eq, bne_eq_false_iff_eq, beq_eq_false_iff_ne, ne_eq, not_and, Int.not_le, Int.not_lt, ge_iff_le, gt_iff_lt, Nat.not_lt, Nat.not_le, Bool.not_eq_true, Bool.not_eq_false, Bool.true_eq_false, Bool.false_eq_true, not_false_eq_true, not_true_eq_false] at h)
        | exact goes_none.mpr (by omega)
      all_goals first | (exfalso; omega) | exact ih
    · have e1 : S.inW f0 t0 (tl (i + al), vl (i + al), gl (i + al)) = false := decide_eq_false hw
      simp only [e1, Bool.false_eq_true, if_false] at ih
      apply Comes.of
      show Goes _ _ _
      (first | rw [q28] | unfold q28)
      repeat' first
        | with_reducible refine goes_if (fun h => ?_) (fun h => ?_) <;> (try simp only [lim64, decide_eq_true_eq, decide_eq_false_iff_not, Int.toNat_natCast, toNat_pred, toNat_succ, Option.getD_some, Option.getD_none, Bool.not_eq_true', Bool.not_eq_false', Bool.and_eq_true, Bool.or_eq_true, Bool.and_eq_false_iff, Bool.or_eq_false_iff, bne_iff_ne, beq_iff_eq, bne_eq_false_iff_eq, beq_eq_false_iff_ne, ne_eq, not_and, Int.not_le, Int.not_lt, ge_iff_le, gt_iff_lt, Nat.not_lt, Nat.not_le, Bool.not_eq_true, Bool.not_eq_false, Bool.true_eq_false, Bool.false_eq_true, not_false_eq_true, not_true_eq_false] at h)
        | exact goes_none.mpr (by omega)
      all_goals first | (exfalso; omega) | exact ih
theorem s28 (ca : Int) (af : Int) (al nl ml : Nat) (tl : Nat → Int) (vl : Nat → Int) (gl : Nat → Bool) (ov : Int) (re : Int) (fz : Bool) (f0 : Int) (t0 : Int) (hp : al + nl ≤ ml ∧ nl ≤ 999999) : Goes ((q28 ca af al nl ml tl vl gl ov re fz f0 t0)) ((p28 ca af al nl ml tl vl gl ov re fz f0 t0)) (S.winR ca af nl (fun j => tl (j + al)) (fun j => vl (j + al)) (fun j => gl (j + al)) ov re fz f0 t0) := by
  have hm := s28' ca af al nl ml tl vl gl ov re fz f0 t0 hp nl 0 (by omega)
  obtain ⟨hp1, hp2⟩ := hp
  unfold S.winR
  generalize he : S.vB ca af nl (fun j => tl (j + al)) (fun j => vl (j + al)) ov re fz = e
  by_cases h0 : e = 0
  · rw [if_pos h0]
    show Goes _ _ _
    unfold p28; rw [he]
    repeat' first
      | with_reducible refine goes_if (fun h => ?_) (fun h => ?_) <;> (try simp only [lim64, decide_eq_true_eq, decide_eq_false_iff_not, Int.toNat_natCast, toNat_pred, toNat_succ, Option.getD_some, Option.getD_none, Bool.not_eq_true', Bool.not_eq_false', Bool.and_eq_true, Bool.or_eq_true, Bool.and_eq_false_iff, Bool.or_eq_false_iff, bne_iff_ne, beq_iff_eq, bne_eq_false_iff_eq, beq_eq_false_iff_ne, ne_eq, not_and, Int.not_le, Int.not_lt, ge_iff_le, gt_iff_lt, Nat.not_lt, Nat.not_le, Bool.not_eq_true, Bool.not_eq_false, Bool.true_eq_false, Bool.false_eq_true, not_false_eq_true, not_true_eq_false] at h)
      | exact goes_none.mpr (by omega)
    all_goals first | (exfalso; omega) | (rw [if_pos (by omega)]; exact hm) | (rw [if_neg (by omega)]; rfl)
  · rw [if_neg h0]
    show Goes _ _ _
    unfold p28; rw [he]
    repeat' first
      | with_reducible refine goes_if (fun h => ?_) (fun h => ?_) <;> (try simp only [lim64, decide_eq_true_eq, decide_eq_false_iff_not, Int.toNat_natCast, toNat_pred, toNat_succ, Option.getD_some, Option.getD_none, Bool.not_eq_true', Bool.not_eq_false', Bool.and_eq_true, Bool.or_eq_true, Bool.and_eq_false_iff, Bool.or_eq_false_iff, bne_iff_ne, beq_iff_eq, bne_eq_false_iff_eq, beq_eq_false_iff_ne, ne_eq, not_and, Int.not_le, Int.not_lt, ge_iff_le, gt_iff_lt, Nat.not_lt, Nat.not_le, Bool.not_eq_true, Bool.not_eq_false, Bool.true_eq_false, Bool.false_eq_true, not_false_eq_true, not_true_eq_false] at h)
      | exact goes_none.mpr (by omega)
    all_goals first | (exfalso; omega) | rfl

theorem k28_ok : k28.ok Try.prog := by
  intro x hx
  obtain ⟨⟨ca, af, ⟨al, nl, ml, tl, vl, gl, _⟩, ov, re, fz, _⟩, f0, t0, _⟩ := x
  obtain ⟨h1, h2⟩ := a28 ca af al nl ml tl vl gl ov re fz f0 t0 (s28 ca af al nl ml tl vl gl ov re fz f0 t0 (of_dec hx rfl))
  exact ⟨⟨400, (by decide : 1 + 1 + 1 ≤ 400), h1⟩, h2⟩
inductive St29 where
  | h0 (x0 : Int)
abbrev Rt29 := Bool
noncomputable def V29 (al nl ml : Nat) (tl : Nat → Int) (vl : Nat → Int) (gl : Nat → Bool) (ak nk mk : Nat) (tk : Nat → Int) (vk : Nat → Int) (gk : Nat → Bool) (r : Rt29) : PV := PV.bool r
noncomputable def N29 (al nl ml : Nat) (tl : Nat → Int) (vl : Nat → Int) (gl : Nat → Bool) (ak nk mk : Nat) (tk : Nat → Int) (vk : Nat → Int) (gk : Nat → Bool) (r : Rt29) : List Blk := []
noncomputable def I29 (al nl ml : Nat) (tl : Nat → Int) (vl : Nat → Int) (gl : Nat → Bool) (ak nk mk : Nat) (tk : Nat → Int) (vk : Nat → Int) (gk : Nat → Bool) : St29 → Hd
  | .h0 x0 => ⟨hd Try.f29 0, [PV.loose (PA.mk (0) (3) al (0)) nl,
 PV.loose (PA.mk (1) (3) ak (0)) nk, PV.int IntKind.i64 (↑nl : Int),
 PV.int IntKind.i64 x0], [[], [(0, (false, .cols ml [.int .i64 tl, .int .i64 vl, .bool gl])), (1, (false, .cols mk [.int .i64 tk, .int .i64 vk, .bool gk]))]], 2⟩
noncomputable def q29 (al nl ml : Nat) (tl : Nat → Int) (vl : Nat → Int) (gl : Nat → Bool) (ak nk mk : Nat) (tk : Nat → Int) (vk : Nat → Int) (gk : Nat → Bool) : St29 → Option (St29 ⊕ Rt29)
  | .h0 x0 => bif (decide (x0 < (↑nl : Int)))
 then (bif (decide ((0 : Int) ≤ x0 ∧ x0 < (↑nl : Int)))
 then (bif (decide (Int.toNat x0 + al < ml))
 then (bif (decide ((0 : Int) ≤ x0 ∧ x0 < (↑nk : Int)))
 then (bif (decide (Int.toNat x0 + ak < mk))
 then (bif (!(tl (Int.toNat x0 + al) == tk (Int.toNat x0 + ak) &&
 (vl (Int.toNat x0 + al) == vk (Int.toNat x0 + ak) &&
 (gl (Int.toNat x0 + al) == gk (Int.toNat x0 + ak) && true))))
 then (some (.inr (false)))
 else (bif (lim IntKind.i64 (x0 + (1 : Int)))
 then (some (.inl (.h0 (x0 + (1 : Int)))))
 else (none)))
 else (none))
 else (none))
 else (none))
 else (none))
 else (some (.inr (true)))
noncomputable def p29 (al nl ml : Nat) (tl : Nat → Int) (vl : Nat → Int) (gl : Nat → Bool) (ak nk mk : Nat) (tk : Nat → Int) (vk : Nat → Int) (gk : Nat → Bool) : Option (St29 ⊕ Rt29) := bif ((↑nl : Int) != (↑nk : Int))
 then (some (.inr (false)))
 else (some (.inl (.h0 ((0 : Int)))))
noncomputable def Te29 (test : Bool → Prop → Prop → Prop) (Kst : KS) (Kret : KR) (al nl ml : Nat) (tl : Nat → Int) (vl : Nat → Int) (gl : Nat → Bool) (ak nk mk : Nat) (tk : Nat → Int) (vk : Nat → Int) (gk : Nat → Bool) : Prop :=
  test ((↑nl : Int) != (↑nk : Int))
 (Kret (PV.tf false) ([[(1, false,
 Blk.cols mk [Col.int IntKind.i64 tk, Col.int IntKind.i64 vk, Col.bool gk]),
 (0, false,
 Blk.cols ml [Col.int IntKind.i64 tl, Col.int IntKind.i64 vl, Col.bool gl])]]) (2))
 (Kst (hd Try.f29 0) ([PV.loose (PA.mk (0) (3) al (0)) nl,
 PV.loose (PA.mk (1) (3) ak (0)) nk, PV.int IntKind.i64 (↑nl : Int),
 PV.int IntKind.i64 (0 : Int)]) ([[(1, false,
 Blk.cols mk [Col.int IntKind.i64 tk, Col.int IntKind.i64 vk, Col.bool gk]),
 (0, false,
 Blk.cols ml [Col.int IntKind.i64 tl, Col.int IntKind.i64 vl, Col.bool gl])]]) (2))
set_option maxRecDepth 100000 in
theorem te29 (test : Bool → Prop → Prop → Prop) (Kst : KS) (Kret : KR) (al nl ml : Nat) (tl : Nat → Int) (vl : Nat → Int) (gl : Nat → Bool) (ak nk mk : Nat) (tk : Nat → Int) (vk : Nat → Int) (gk : Nat → Bool) : run test Try.env true (xG test) true 400 ⟨29, [.cd (mkFn Try.f29).body], argT 0 [.loose ⟨0, 3, al, 0⟩ nl, .loose ⟨1, 3, ak, 0⟩ nk], [[], [(0, (false, .cols ml [.int .i64 tl, .int .i64 vl, .bool gl])), (1, (false, .cols mk [.int .i64 tk, .int .i64 vk, .bool gk]))]], 2⟩ (proj 2 [0, 1, 12, 13] Kst Kret) =
  Te29 test Kst Kret al nl ml tl vl gl ak nk mk tk vk gk := by kernel_rfl
noncomputable def T29_0 (test : Bool → Prop → Prop → Prop) (Kst : KS) (Kret : KR) (al nl ml : Nat) (tl : Nat → Int) (vl : Nat → Int) (gl : Nat → Bool) (ak nk mk : Nat) (tk : Nat → Int) (vk : Nat → Int) (gk : Nat → Bool) (x0 : Int) : Prop :=
  test (decide (x0 < (↑nl : Int)))
 (test (decide ((0 : Int) ≤ x0 ∧ x0 < (↑nl : Int)))
 (test (decide (Int.toNat x0 + al < ml))
 (test (decide (Int.toNat x0 + al < ml))
 (test (decide (Int.toNat x0 + al < ml))
 (test (decide ((0 : Int) ≤ x0 ∧ x0 < (↑nk : Int)))
 (test (decide (Int.toNat x0 + ak < mk))
 (test (decide (Int.toNat x0 + ak < mk))
 (test (decide (Int.toNat x0 + ak < mk))
 (test (!(tl (Int.toNat x0 + al) == tk (Int.toNat x0 + ak) &&
 (vl (Int.toNat x0 + al) == vk (Int.toNat x0 + ak) &&
 (gl (Int.toNat x0 + al) == gk (Int.toNat x0 + ak) && true))))
 (Kret (PV.tf false) ([[(1, false,
 Blk.cols mk [Col.int IntKind.i64 tk, Col.int IntKind.i64 vk, Col.bool gk]),
 (0, false,
 Blk.cols ml [Col.int IntKind.i64 tl, Col.int IntKind.i64 vl, Col.bool gl])]]) (2))
 (test (lim IntKind.i64 (x0 + (1 : Int)))
 (Kst (hd Try.f29 0) ([PV.loose (PA.mk (0) (3) al (0)) nl,
 PV.loose (PA.mk (1) (3) ak (0)) nk, PV.int IntKind.i64 (↑nl : Int),
 PV.int IntKind.i64 (x0 + (1 : Int))]) ([[(1, false,
 Blk.cols mk [Col.int IntKind.i64 tk, Col.int IntKind.i64 vk, Col.bool gk]),
 (0, false,
 Blk.cols ml [Col.int IntKind.i64 tl, Col.int IntKind.i64 vl, Col.bool gl])]]) (2))
 (False)))
 (False))
 (False))
 (False))
 (False))
 (False))
 (False))
 (False))
 (False))
 (Kret (PV.tf true) ([[(1, false,
 Blk.cols mk [Col.int IntKind.i64 tk, Col.int IntKind.i64 vk, Col.bool gk]),
 (0, false,
 Blk.cols ml [Col.int IntKind.i64 tl, Col.int IntKind.i64 vl, Col.bool gl])]]) (2))
set_option maxRecDepth 100000 in
theorem t29_0 (test : Bool → Prop → Prop → Prop) (Kst : KS) (Kret : KR) (al nl ml : Nat) (tl : Nat → Int) (vl : Nat → Int) (gl : Nat → Bool) (ak nk mk : Nat) (tk : Nat → Int) (vk : Nat → Int) (gk : Nat → Bool) (x0 : Int) : run test Try.env true (xG test) true 400 ⟨29, hd Try.f29 0, zipT [0, 1, 12, 13] [PV.loose (PA.mk (0) (3) al (0)) nl,
 PV.loose (PA.mk (1) (3) ak (0)) nk, PV.int IntKind.i64 (↑nl : Int),
 PV.int IntKind.i64 x0], [[], [(0, (false, .cols ml [.int .i64 tl, .int .i64 vl, .bool gl])), (1, (false, .cols mk [.int .i64 tk, .int .i64 vk, .bool gk]))]], 2⟩ (proj 2 [0, 1, 12, 13] Kst Kret) =
  T29_0 test Kst Kret al nl ml tl vl gl ak nk mk tk vk gk x0 := by kernel_rfl
set_option maxRecDepth 100000 in
theorem be29 (al nl ml : Nat) (tl : Nat → Int) (vl : Nat → Int) (gl : Nat → Bool) (ak nk mk : Nat) (tk : Nat → Int) (vk : Nat → Int) (gk : Nat → Bool) (Kst : KS) (Kret : KR) (x : St29 ⊕ Rt29) (hS : HS 2 400 ((I29 al nl ml tl vl gl ak nk mk tk vk gk)) Kst x) (hR : HR 2 400 ((V29 al nl ml tl vl gl ak nk mk tk vk gk)) (fun r => [newL (2 + 1) ((N29 al nl ml tl vl gl ak nk mk tk vk gk) r) ++ [(0, (false, .cols ml [.int .i64 tl, .int .i64 vl, .bool gl])), (1, (false, .cols mk [.int .i64 tk, .int .i64 vk, .bool gk]))]]) Kret x) (h : (bif ((↑nl : Int) != (↑nk : Int))
 then (some (.inr (false)))
 else (some (.inl (.h0 ((0 : Int))))) : Option (St29 ⊕ Rt29)) = some x) : Te29 cond Kst Kret al nl ml tl vl gl ak nk mk tk vk gk := by
  unfold Te29
  exact bif_split h
   (fun c0 h => ret_at hR _ h (fun n => n) rfl rfl rfl (rn_bool_tf rfl) rfl (entl_bor (use_lo rfl) rfl rfl (entl_bor (use_lo rfl) rfl rfl entl_nil)))
   (fun c0 h => stop_at hS _ h (fun n => n) rfl rfl rfl ⟨(rn_loose (use_lo rfl) rfl rfl rfl), ⟨(rn_loose (use_lo rfl) rfl rfl rfl), ⟨(rn_int rfl), ⟨(rn_int rfl), trivial⟩⟩⟩⟩ rfl (entl_bor (use_lo rfl) rfl rfl (entl_bor (use_lo rfl) rfl rfl entl_nil)))
set_option maxRecDepth 100000 in
theorem b29_0 (al nl ml : Nat) (tl : Nat → Int) (vl : Nat → Int) (gl : Nat → Bool) (ak nk mk : Nat) (tk : Nat → Int) (vk : Nat → Int) (gk : Nat → Bool) (Kst : KS) (Kret : KR) (x : St29 ⊕ Rt29) (hS : HS 2 400 ((I29 al nl ml tl vl gl ak nk mk tk vk gk)) Kst x) (hR : HR 2 400 ((V29 al nl ml tl vl gl ak nk mk tk vk gk)) (fun r => [newL (2 + 1) ((N29 al nl ml tl vl gl ak nk mk tk vk gk) r) ++ [(0, (false, .cols ml [.int .i64 tl, .int .i64 vl, .bool gl])), (1, (false, .cols mk [.int .i64 tk, .int .i64 vk, .bool gk]))]]) Kret x) (x0 : Int) (h : (bif (decide (x0 < (↑nl : Int)))
 then (bif (decide ((0 : Int) ≤ x0 ∧ x0 < (↑nl : Int)))
 then (bif (decide (Int.toNat x0 + al < ml))
 then (bif (decide ((0 : Int) ≤ x0 ∧ x0 < (↑nk : Int)))
 then (bif (decide (Int.toNat x0 + ak < mk))
 then (bif (!(tl (Int.toNat x0 + al) == tk (Int.toNat x0 + ak) &&
 (vl (Int.toNat x0 + al) == vk (Int.toNat x0 + ak) &&
 (gl (Int.toNat x0 + al) == gk (Int.toNat x0 + ak) && true))))
 then (some (.inr (false)))
 else (bif (lim IntKind.i64 (x0 + (1 : Int)))
 then (some (.inl (.h0 (x0 + (1 : Int)))))
 else (none)))
 else (none))
 else (none))
 else (none))
 else (none))
 else (some (.inr (true))) : Option (St29 ⊕ Rt29)) = some x) : T29_0 cond Kst Kret al nl ml tl vl gl ak nk mk tk vk gk x0 := by
  unfold T29_0
  exact bif_split h
   (fun c0 h => bif_split h
   (fun c1 h => bif_split h
   (fun c2 h => cond_yes c2 (cond_yes c2 (bif_split h
   (fun c3 h => bif_split h
   (fun c4 h => cond_yes c4 (cond_yes c4 (bif_split h
   (fun c5 h => ret_at hR _ h (fun n => n) rfl rfl rfl (rn_bool_tf rfl) rfl (entl_bor (use_lo rfl) rfl rfl (entl_bor (use_lo rfl) rfl rfl entl_nil)))
   (fun c5 h => bif_split h
   (fun c6 h => stop_at hS _ h (fun n => n) rfl rfl rfl ⟨(rn_loose (use_lo rfl) rfl rfl rfl), ⟨(rn_loose (use_lo rfl) rfl rfl rfl), ⟨(rn_int rfl), ⟨(rn_int rfl), trivial⟩⟩⟩⟩ rfl (entl_bor (use_lo rfl) rfl rfl (entl_bor (use_lo rfl) rfl rfl entl_nil)))
   (fun c6 h => no_some h)))))
   (fun c4 h => no_some h))
   (fun c3 h => no_some h))))
   (fun c2 h => no_some h))
   (fun c1 h => no_some h))
   (fun c0 h => ret_at hR _ h (fun n => n) rfl rfl rfl (rn_bool_tf rfl) rfl (entl_bor (use_lo rfl) rfl rfl (entl_bor (use_lo rfl) rfl rfl entl_nil)))
theorem a29 (al nl ml : Nat) (tl : Nat → Int) (vl : Nat → Int) (gl : Nat → Bool) (ak nk mk : Nat) (tk : Nat → Int) (vk : Nat → Int) (gk : Nat → Bool) {r : Rt29} (h : Goes ((q29 al nl ml tl vl gl ak nk mk tk vk gk)) ((p29 al nl ml tl vl gl ak nk mk tk vk gk)) r) : CallR Try.prog 29 [.loose ⟨0, 3, al, 0⟩ nl, .loose ⟨1, 3, ak, 0⟩ nk] [[(0, (false, .cols ml [.int .i64 tl, .int .i64 vl, .bool gl])), (1, (false, .cols mk [.int .i64 tk, .int .i64 vk, .bool gk]))]] 2 ((V29 al nl ml tl vl gl ak nk mk tk vk gk) r) ((fun r => [newL (2 + 1) ((N29 al nl ml tl vl gl ak nk mk tk vk gk) r) ++ [(0, (false, .cols ml [.int .i64 tl, .int .i64 vl, .bool gl])), (1, (false, .cols mk [.int .i64 tk, .int .i64 vk, .bool gk]))]]) r) 400 ∧ ∃ F, Try.prog.funcs[29]? = some F ∧ F.body.isSome = true ∧ (F.name == "runtime.NumGoroutine") = false := by
  refine dec_calls (f := 29) (lo := 2) (hi := 400) (H := [[(0, (false, .cols ml [.int .i64 tl, .int .i64 vl, .bool gl])), (1, (false, .cols mk [.int .i64 tk, .int .i64 vk, .bool gk]))]]) (args := [.loose ⟨0, 3, al, 0⟩ nl, .loose ⟨1, 3, ak, 0⟩ nk]) Try.envOk Try.mixed xG_ok ((I29 al nl ml tl vl gl ak nk mk tk vk gk)) ((V29 al nl ml tl vl gl ak nk mk tk vk gk)) (fun r => [newL (2 + 1) ((N29 al nl ml tl vl gl ak nk mk tk vk gk) r) ++ [(0, (false, .cols ml [.int .i64 tl, .int .i64 vl, .bool gl])), (1, (false, .cols mk [.int .i64 tk, .int .i64 vk, .bool gk]))]]) (fn := mkFn Try.f29) (ts := [0, 1, 12, 13]) (n := 400) rfl (by decide) (by simp) (names_of rfl) ?_ ?_ ?_ h
  · intro s; cases s <;> exact ⟨hd_ok _ _, by simp [I29], names_of rfl, Nat.le_of_ble_eq_true rfl⟩
  · intro Kst Kret x hS hR h
    exact Holds.eq (te29 cond Kst Kret al nl ml tl vl gl ak nk mk tk vk gk) (be29 al nl ml tl vl gl ak nk mk tk vk gk Kst Kret x hS hR h)
  · intro Kst Kret x hS hR s h
    cases s with
    | h0 x0 => exact Holds.eq (t29_0 cond Kst Kret al nl ml tl vl gl ak nk mk tk vk gk x0) (b29_0 al nl ml tl vl gl ak nk mk tk vk gk Kst Kret x hS hR x0 h)
noncomputable def k29 : Con := ⟨29, [.one (.list [.int .i64, .int .i64, .bool]), .one (.list [.int .i64, .int .i64, .bool])], fun (x : (Nat × Nat × Nat × (Nat → Int) × (Nat → Int) × (Nat → Bool) × Unit) × (Nat × Nat × Nat × (Nat → Int) × (Nat → Int) × (Nat → Bool) × Unit) × Unit) => (fun (al nl ml : Nat) (tl : Nat → Int) (vl : Nat → Int) (gl : Nat → Bool) (ak nk mk : Nat) (tk : Nat → Int) (vk : Nat → Int) (gk : Nat → Bool) => decide (al + nl ≤ ml ∧ nl ≤ 1000000 ∧ ak + nk ≤ mk ∧ nk ≤ 1000000)) x.1.1 x.1.2.1 x.1.2.2.1 x.1.2.2.2.1 x.1.2.2.2.2.1 x.1.2.2.2.2.2.1 x.2.1.1 x.2.1.2.1 x.2.1.2.2.1 x.2.1.2.2.2.1 x.2.1.2.2.2.2.1 x.2.1.2.2.2.2.2.1, fun (x : (Nat × Nat × Nat × (Nat → Int) × (Nat → Int) × (Nat → Bool) × Unit) × (Nat × Nat × Nat × (Nat → Int) × (Nat → Int) × (Nat → Bool) × Unit) × Unit) => (fun (al nl ml : Nat) (tl : Nat → Int) (vl : Nat → Int) (gl : Nat → Bool) (ak nk mk : Nat) (tk : Nat → Int) (vk : Nat → Int) (gk : Nat → Bool) => (V29 al nl ml tl vl gl ak nk mk tk vk gk) (decide ((S.mkl nl fun j => (tl (j + al), vl (j + al), gl (j + al))) = (S.mkl nk fun j => (tk (j + ak), vk (j + ak), gk (j + ak)))))) x.1.1 x.1.2.1 x.1.2.2.1 x.1.2.2.2.1 x.1.2.2.2.2.1 x.1.2.2.2.2.2.1 x.2.1.1 x.2.1.2.1 x.2.1.2.2.1 x.2.1.2.2.2.1 x.2.1.2.2.2.2.1 x.2.1.2.2.2.2.2.1, fun (x : (Nat × Nat × Nat × (Nat → Int) × (Nat → Int) × (Nat → Bool) × Unit) × (Nat × Nat × Nat × (Nat → Int) × (Nat → Int) × (Nat → Bool) × Unit) × Unit) => (fun (al nl ml : Nat) (tl : Nat → Int) (vl : Nat → Int) (gl : Nat → Bool) (ak nk mk : Nat) (tk : Nat → Int) (vk : Nat → Int) (gk : Nat → Bool) => (N29 al nl ml tl vl gl ak nk mk tk vk gk) (decide ((S.mkl nl fun j => (tl (j + al), vl (j + al), gl (j + al))) = (S.mkl nk fun j => (tk (j + ak), vk (j + ak), gk (j + ak)))))) x.1.1 x.1.2.1 x.1.2.2.1 x.1.2.2.2.1 x.1.2.2.2.2.1 x.1.2.2.2.2.2.1 x.2.1.1 x.2.1.2.1 x.2.1.2.2.1 x.2.1.2.2.2.1 x.2.1.2.2.2.2.1 x.2.1.2.2.2.2.2.1, fun _ _ => .dead⟩
theorem s29' (al nl ml : Nat) (tl : Nat → Int) (vl : Nat → Int) (gl : Nat → Bool) (ak nk mk : Nat) (tk : Nat → Int) (vk : Nat → Int) (gk : Nat → Bool) (hp : al + nl ≤ ml ∧ nl ≤ 1000000 ∧ ak + nk ≤ mk ∧ nk ≤ 1000000) (hn : nl = nk) : ∀ d i : Nat, i + d = nl → (∀ j, j < i → (tl (j + al), vl (j + al), gl (j + al)) = (tk (j + ak), vk (j + ak), gk (j + ak))) → Comes (q29 al nl ml tl vl gl ak nk mk tk vk gk) (.h0 (i : Int)) (decide ((S.mkl nl fun j => (tl (j + al), vl (j + al), gl (j + al))) = (S.mkl nk fun j => (tk (j + ak), vk (j + ak), gk (j + ak))))) := by
  obtain ⟨hp1, hp2, hp3, hp4⟩ := hp
  intro d
  induction d with
  | zero =>
    intro i hi hj
    apply Comes.of
    show Goes _ _ _
    (first | rw [q29] | unfold q29)
    repeat' first
      | with_reducible refine goes_if (fun h => ?_) (fun h => ?_) <;> (try simp only [lim64, decide_eq_true_eq, decide_eq_false_iff_not, Int.toNat_natCast, toNat_pred, toNat_succ, Option.getD_some, Option.getD_none, Bool.not_eq_true', Bool.not_eq_false', Bool.and_eq_true, Bool.or_eq_true, Bool.and_eq_false_iff, Bool.or_eq_false_iff, bne_iff_ne, beq_iff_eq, bne_eq_false_iff_eq, beq_eq_false_iff_ne, ne_eq, not_and, Int.not_le, Int.not_lt, ge_iff_le, gt_iff_lt, Nat.not_lt, Nat.not_le, Bool.not_eq_true, Bool.not_eq_false, Bool.true_eq_false, Bool.false_eq_true, not_false_eq_true, not_true_eq_false] at h)
      | exact goes_none.mpr (by omega)
    all_goals first | (exfalso; omega) | (refine goes_inr.mpr ?_; exact (decide_eq_true (mkl_inj.2 ⟨hn, fun j h => hj j (by omega)⟩)).symm)
  | succ d ih =>
    intro i hi hj
    have ih := ih (i + 1) (by omega)
    apply Comes.of
    show Goes _ _ _
    (first | rw [q29] | unfold q29)
    repeat' first
      | with_reducible refine goes_if (fun h => ?_) (fun h => ?_) <;> (try simp only [lim64, decide_eq_true_eq, decide_eq_false_iff_not, Int.toNat_natCast, toNat_pred, toNat_succ, Option.getD_some, Option.getD_none, Bool.not_eq_true', Bool.not_eq_false', Bool.and_eq_true, Bool.or_eq_true, Bool.and_eq_false_iff, Bool.or_eq_false_iff, bne_iff_ne, beq_iff_eq, bne_eq_false_iff_eq, beq_eq_false_iff_ne, ne_eq, not_and, Int.not_le, Int.not_lt, ge_iff_le, gt_iff_lt, Nat.not_lt, Nat.not_le, Bool.not_eq_true, Bool.not_eq_false, Bool.true_eq_false, Bool.false_eq_true, not_false_eq_true, not_true_eq_false] at h)
      | exact goes_none.mpr (by omega)
    all_goals first
      | (exfalso; omega)
      | (refine goes_inr.mpr ?_
         refine (decide_eq_false fun h' => ?_).symm
         have := (mkl_inj.1 h').2 i (by omega)
         simp only [Prod.mk.injEq] at this
         simp_all)
      | (refine ih fun j h' => ?_
         rcases Nat.lt_or_ge j i with h'' | h''
         · exact hj j h''
         · obtain rfl : j = i := by omega
           simp_all)
theorem s29 (al nl ml : Nat) (tl : Nat → Int) (vl : Nat → Int) (gl : Nat → Bool) (ak nk mk : Nat) (tk : Nat → Int) (vk : Nat → Int) (gk : Nat → Bool) (hp : al + nl ≤ ml ∧ nl ≤ 1000000 ∧ ak + nk ≤ mk ∧ nk ≤ 1000000) : Goes ((q29 al nl ml tl vl gl ak nk mk tk vk gk)) ((p29 al nl ml tl vl gl ak nk mk tk vk gk)) (decide ((S.mkl nl fun j => (tl (j + al), vl (j + al), gl (j + al))) = (S.mkl nk fun j => (tk (j + ak), vk (j + ak), gk (j + ak))))) := by
  by_cases hn : nl = nk
  · show Goes _ _ _
    unfold p29
    repeat' first
      | with_reducible refine goes_if (fun h => ?_) (fun h => ?_) <;> (try simp only [lim64, decide_eq_true_eq, decide_eq_false_iff_not, Int.toNat_natCast, toNat_pred, toNat_succ, Option.getD_some, Option.getD_none, Bool.not_eq_true', Bool.not_eq_false', Bool.and_eq_true, Bool.or_eq_true, Bool.and_eq_false_iff, Bool.or_eq_false_iff, bne_iff_ne, beq_iff_eq, bne_eq_false_iff_eq, beq_eq_false_iff_ne, ne_eq, not_and, Int.not_le, Int.not_lt, ge_iff_le, gt_iff_lt, Nat.not_lt, Nat.not_le, Bool.not_eq_true, Bool.not_eq_false, Bool.true_eq_false, Bool.false_eq_true, not_false_eq_true, not_true_eq_false] at h)
      | exact goes_none.mpr (by omega)
    all_goals first | (exfalso; omega) | exact s29' al nl ml tl vl gl ak nk mk tk vk gk hp hn nl 0 (by omega) (fun j h => absurd h (by omega))
  · show Goes _ _ _
    unfold p29
    repeat' first
      | with_reducible refine goes_if (fun h => ?_) (fun h => ?_) <;> (try simp only [lim64, decide_eq_true_eq, decide_eq_false_iff_not, Int.toNat_natCast, toNat_pred, toNat_succ, Option.getD_some, Option.getD_none, Bool.not_eq_true', Bool.not_eq_false', Bool.and_eq_true, Bool.or_eq_true, Bool.and_eq_false_iff, Bool.or_eq_false_iff, bne_iff_ne, beq_iff_eq, bne_eq_false_iff_eq, beq_eq_false_iff_ne, ne_eq, not_and, Int.not_le, Int.not_lt, ge_iff_le, gt_iff_lt, Nat.not_lt, Nat.not_le, Bool.not_eq_true, Bool.not_eq_false, Bool.true_eq_false, Bool.false_eq_true, not_false_eq_true, not_true_eq_false] at h)
      | exact goes_none.mpr (by omega)
    all_goals first | (exfalso; omega) | (refine goes_inr.mpr ?_; exact (decide_eq_false fun h' => hn (mkl_inj.1 h').1).symm)

theorem k29_ok : k29.ok Try.prog := by
  intro x hx
  obtain ⟨⟨al, nl, ml, tl, vl, gl, _⟩, ⟨ak, nk, mk, tk, vk, gk, _⟩, _⟩ := x
  obtain ⟨h1, h2⟩ := a29 al nl ml tl vl gl ak nk mk tk vk gk (s29 al nl ml tl vl gl ak nk mk tk vk gk (of_dec hx rfl))
  exact ⟨⟨400, (by decide : 2 + 1 + 0 ≤ 400), h1⟩, h2⟩
noncomputable def xH (test : Bool → Prop → Prop → Prop) : Ext := consX test [k11, k27, k28, k29, k32, k13, k22]
theorem xH_ok : ExtOk Try.prog (xH cond) := consX_ok ⟨k11_ok, k27_ok, k28_ok, k29_ok, k32_ok, k13_ok, k22_ok, trivial⟩

end Go.Ev
