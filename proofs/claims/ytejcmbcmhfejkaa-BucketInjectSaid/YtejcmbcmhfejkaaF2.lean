/-
  Inject.
-/
import Derived.Test.YtejcmbcmhfejkaaF1
import Derived.Test.YtejcmbcmhfejkaaC1x
namespace Go.Ev
open Go.Proofs
set_option linter.unusedVariables false
set_option linter.unusedSimpArgs false
set_option maxRecDepth 100000
inductive St27 where
  | h0 (x0 : Int) (x1 : List Bool)
abbrev Rt27 := Int × Int × List Int
noncomputable def V27 (hr : Int) (al nl ml : Nat) (tl : Nat → Int) (fa : Int) (nu : Int) (z : Int) (r : Rt27) : PV := PV.tup
 [PV.agg [PV.int IntKind.i64 r.1, PV.own (2) (1) (List.length r.2.2)],
 PV.int IntKind.i64 r.2.1]
noncomputable def N27 (hr : Int) (al nl ml : Nat) (tl : Nat → Int) (fa : Int) (nu : Int) (z : Int) (r : Rt27) : List Blk := [Blk.cols (List.length r.2.2) [Col.int IntKind.i64 fun (j : Nat) => S.at' r.2.2 j]]
noncomputable def I27 (hr : Int) (al nl ml : Nat) (tl : Nat → Int) (fa : Int) (nu : Int) (z : Int) : St27 → Hd
  | .h0 x0 x1 => ⟨hd Try.f27 0, [PV.int IntKind.i64 fa, PV.int IntKind.i64 z,
 PV.ptr (PA.mk (1) (0) (0) (0)),
 PV.ptr (PA.mk (2) (0) (0) (0)),
 PV.own (3) (1) (List.length x1), PV.int IntKind.i64 nu, PV.int IntKind.i64 x0], [[(1, (true, Blk.cells [PV.int IntKind.i64 hr, PV.loose (PA.mk (0) (1) al (0)) nl])), (2, (true, Blk.cells [PV.int IntKind.i64 (0 : Int), PV.nils])), (3, (true, Blk.cols (List.length x1) [Col.bool fun (j : Nat) => S.at' x1 j]))], [(0, (false, .cols ml [.int .i64 tl]))]], 4⟩
noncomputable def q27 (hr : Int) (al nl ml : Nat) (tl : Nat → Int) (fa : Int) (nu : Int) (z : Int) : St27 → Option (St27 ⊕ Rt27)
  | .h0 x0 x1 => bif (decide (x0 < nu))
 then (bif (lim IntKind.i64 (x0 * z))
 then (bif (lim IntKind.i64 (fa + x0 * z))
 then (bif (decide (hr = (0 : Int)))
 then (none)
 else (bif (decide ((0 : Int) ≤ Int.tmod (fa + x0 * z) hr ∧ Int.tmod (fa + x0 * z) hr < (↑(List.length x1) : Int)))
 then (bif (decide (Int.toNat (Int.tmod (fa + x0 * z) hr) < List.length x1))
 then (bif (S.at' x1 (Int.toNat (Int.tmod (fa + x0 * z) hr)))
 then (some (.inr ((0 : Int), (12 : Int), [])))
 else (bif (lim IntKind.i64 (x0 + (1 : Int)))
 then (some (.inl (.h0 (x0 + (1 : Int)) (S.mkl (List.length x1) fun (j : Nat) =>
 bif Nat.beq j (Int.toNat (Int.tmod (fa + x0 * z) hr)) then true else S.at' x1 j))))
 else (none)))
 else (none))
 else (none)))
 else (none))
 else (none))
 else (bif (decide (0 + List.length x1 ≤ List.length x1 ∧ List.length x1 ≤ 999999))
 then (some (.inr ((↑(List.length x1) : Int), (0 : Int), S.posP (fun (j : Nat) => S.at' x1 j) (List.length x1))))
 else (none))
noncomputable def p27 (hr : Int) (al nl ml : Nat) (tl : Nat → Int) (fa : Int) (nu : Int) (z : Int) : Option (St27 ⊕ Rt27) := bif (decide (al + nl ≤ ml ∧ nl ≤ 1000000))
 then (bif ((S.filE hr nl fun (j : Nat) => tl (j + al)) != (0 : Int))
 then (some (.inr ((0 : Int), S.filE hr nl fun (j : Nat) => tl (j + al), [])))
 else (bif (decide (fa ≥ (0 : Int)))
 then (bif (decide (fa < hr))
 then (bif (decide (nu < (1 : Int)))
 then (some (.inr ((0 : Int), (6 : Int), [])))
 else (bif (decide (nu > hr))
 then (some (.inr ((0 : Int), (6 : Int), [])))
 else (bif (decide (z < (1 : Int)))
 then (some (.inr ((0 : Int), (6 : Int), [])))
 else (bif (decide (z > hr))
 then (some (.inr ((0 : Int), (6 : Int), [])))
 else (bif (decide (al + nl ≤ ml ∧ nl ≤ 1000000 ∧ (S.filE hr nl fun (j : Nat) => tl (j + al)) = (0 : Int)))
 then (some (.inl (.h0 ((0 : Int)) (S.mkl (Int.toNat hr) fun (j : Nat) => S.inB (fun (j : Nat) => tl (j + al)) nl j))))
 else (none))))))
 else (some (.inr ((0 : Int), (6 : Int), []))))
 else (some (.inr ((0 : Int), (6 : Int), [])))))
 else (none)
noncomputable def Te27 (test : Bool → Prop → Prop → Prop) (Kst : KS) (Kret : KR) (hr : Int) (al nl ml : Nat) (tl : Nat → Int) (fa : Int) (nu : Int) (z : Int) : Prop :=
  test (decide (al + nl ≤ ml ∧ nl ≤ 1000000))
 (test ((S.filE hr nl fun (j : Nat) => tl (j + al)) != (0 : Int))
 (Kret (PV.tup
 [PV.agg [PV.int IntKind.i64 (0 : Int), PV.nils],
 PV.int IntKind.i64 (S.filE hr nl fun (j : Nat) => tl (j + al))]) ([[(0, false, Blk.cols ml [Col.int IntKind.i64 tl])]]) (4))
 (test (decide (fa ≥ (0 : Int)))
 (test (decide (fa < hr))
 (test (decide (nu < (1 : Int)))
 (Kret (PV.tup
 [PV.agg [PV.int IntKind.i64 (0 : Int), PV.nils], PV.int IntKind.i64 (6 : Int)]) ([[(0, false, Blk.cols ml [Col.int IntKind.i64 tl])]]) (4))
 (test (decide (nu > hr))
 (Kret (PV.tup
 [PV.agg [PV.int IntKind.i64 (0 : Int), PV.nils], PV.int IntKind.i64 (6 : Int)]) ([[(0, false, Blk.cols ml [Col.int IntKind.i64 tl])]]) (4))
 (test (decide (z < (1 : Int)))
 (Kret (PV.tup
 [PV.agg [PV.int IntKind.i64 (0 : Int), PV.nils], PV.int IntKind.i64 (6 : Int)]) ([[(0, false, Blk.cols ml [Col.int IntKind.i64 tl])]]) (4))
 (test (decide (z > hr))
 (Kret (PV.tup
 [PV.agg [PV.int IntKind.i64 (0 : Int), PV.nils], PV.int IntKind.i64 (6 : Int)]) ([[(0, false, Blk.cols ml [Col.int IntKind.i64 tl])]]) (4))
 (test (decide (al + nl ≤ ml ∧ nl ≤ 1000000 ∧ (S.filE hr nl fun (j : Nat) => tl (j + al)) = (0 : Int)))
 (Kst (hd Try.f27 0) ([PV.int IntKind.i64 fa, PV.int IntKind.i64 z,
 PV.ptr (PA.mk (1) (0) (0) (0)),
 PV.ptr (PA.mk (2) (0) (0) (0)),
 PV.own (5) (1)
 (List.length (S.mkl (Int.toNat hr) fun (j : Nat) => S.inB (fun (j : Nat) => tl (j + al)) nl j)),
 PV.int IntKind.i64 nu, PV.int IntKind.i64 (0 : Int)]) ([[(0, false, Blk.cols ml [Col.int IntKind.i64 tl]),
 (5, true,
 Blk.cols
 (List.length (S.mkl (Int.toNat hr) fun (j : Nat) => S.inB (fun (j : Nat) => tl (j + al)) nl j))
 [Col.bool fun (j : Nat) =>
 S.at' (S.mkl (Int.toNat hr) fun (j : Nat) => S.inB (fun (j : Nat) => tl (j + al)) nl j)
 j]),
 (2, true, Blk.cells [PV.int IntKind.i64 (0 : Int), PV.nils]),
 (1, true,
 Blk.cells
 [PV.int IntKind.i64 hr, PV.loose (PA.mk (0) (1) al (0)) nl])]]) (6))
 (False))))))
 (Kret (PV.tup
 [PV.agg [PV.int IntKind.i64 (0 : Int), PV.nils], PV.int IntKind.i64 (6 : Int)]) ([[(0, false, Blk.cols ml [Col.int IntKind.i64 tl])]]) (4)))
 (Kret (PV.tup
 [PV.agg [PV.int IntKind.i64 (0 : Int), PV.nils], PV.int IntKind.i64 (6 : Int)]) ([[(0, false, Blk.cols ml [Col.int IntKind.i64 tl])]]) (4))))
 (False)
set_option maxRecDepth 100000 in
theorem te27 (test : Bool → Prop → Prop → Prop) (Kst : KS) (Kret : KR) (hr : Int) (al nl ml : Nat) (tl : Nat → Int) (fa : Int) (nu : Int) (z : Int) : run test Try.env true (xT test) true 400 ⟨27, [.cd (mkFn Try.f27).body], argT 0 [.agg [.int .i64 hr, .loose ⟨0, 1, al, 0⟩ nl], .int .i64 fa, .int .i64 nu, .int .i64 z], [[], [(0, (false, .cols ml [.int .i64 tl]))]], 1⟩ (proj 1 [1, 3, 4, 8, 11, 48, 49] Kst Kret) =
  Te27 test Kst Kret hr al nl ml tl fa nu z := by kernel_rfl
noncomputable def T27_0 (test : Bool → Prop → Prop → Prop) (Kst : KS) (Kret : KR) (hr : Int) (al nl ml : Nat) (tl : Nat → Int) (fa : Int) (nu : Int) (z : Int) (x0 : Int) (x1 : List Bool) : Prop :=
  test (decide (x0 < nu))
 (test (lim IntKind.i64 (x0 * z))
 (test (lim IntKind.i64 (fa + x0 * z))
 (test (decide (hr = (0 : Int)))
 (False)
 (test (decide ((0 : Int) ≤ Int.tmod (fa + x0 * z) hr ∧ Int.tmod (fa + x0 * z) hr < (↑(List.length x1) : Int)))
 (test (decide (Int.toNat (Int.tmod (fa + x0 * z) hr) < List.length x1))
 (test (S.at' x1 (Int.toNat (Int.tmod (fa + x0 * z) hr)))
 (Kret (PV.tup
 [PV.agg [PV.int IntKind.i64 (0 : Int), PV.nils], PV.int IntKind.i64 (12 : Int)]) ([[(0, false, Blk.cols ml [Col.int IntKind.i64 tl])]]) (4))
 (test (decide ((0 : Int) ≤ Int.tmod (fa + x0 * z) hr ∧ Int.tmod (fa + x0 * z) hr < (↑(List.length x1) : Int)))
 (test (decide (Int.toNat (Int.tmod (fa + x0 * z) hr) < List.length x1))
 (test (lim IntKind.i64 (x0 + (1 : Int)))
 (Kst (hd Try.f27 0) ([PV.int IntKind.i64 fa, PV.int IntKind.i64 z,
 PV.ptr (PA.mk (1) (0) (0) (0)),
 PV.ptr (PA.mk (2) (0) (0) (0)),
 PV.own (3) (1) (List.length x1), PV.int IntKind.i64 nu,
 PV.int IntKind.i64 (x0 + (1 : Int))]) ([[(0, false, Blk.cols ml [Col.int IntKind.i64 tl]),
 (3, true,
 Blk.cols (List.length x1)
 [Col.bool fun (j : Nat) =>
 bif Nat.beq j (Int.toNat (Int.tmod (fa + x0 * z) hr)) then true else S.at' x1 j]),
 (2, true, Blk.cells [PV.int IntKind.i64 (0 : Int), PV.nils]),
 (1, true,
 Blk.cells
 [PV.int IntKind.i64 hr, PV.loose (PA.mk (0) (1) al (0)) nl])]]) (4))
 (False))
 (False))
 (False)))
 (False))
 (False)))
 (False))
 (False))
 (test (decide (0 + List.length x1 ≤ List.length x1 ∧ List.length x1 ≤ 999999))
 (Kret (PV.tup
 [PV.agg
 [PV.int IntKind.i64 (↑(List.length x1) : Int),
 PV.own (5) (1)
 (List.length (S.posP (fun (j : Nat) => S.at' x1 j) (List.length x1)))],
 PV.int IntKind.i64 (0 : Int)]) ([[(0, false, Blk.cols ml [Col.int IntKind.i64 tl]),
 (5, true,
 Blk.cols (List.length (S.posP (fun (j : Nat) => S.at' x1 j) (List.length x1)))
 [Col.int IntKind.i64 fun (j : Nat) =>
 S.at' (S.posP (fun (j : Nat) => S.at' x1 j) (List.length x1)) j])]]) (6))
 (False))
set_option maxRecDepth 100000 in
theorem t27_0 (test : Bool → Prop → Prop → Prop) (Kst : KS) (Kret : KR) (hr : Int) (al nl ml : Nat) (tl : Nat → Int) (fa : Int) (nu : Int) (z : Int) (x0 : Int) (x1 : List Bool) : run test Try.env true (xT test) true 400 ⟨27, hd Try.f27 0, zipT [1, 3, 4, 8, 11, 48, 49] [PV.int IntKind.i64 fa, PV.int IntKind.i64 z,
 PV.ptr (PA.mk (1) (0) (0) (0)),
 PV.ptr (PA.mk (2) (0) (0) (0)),
 PV.own (3) (1) (List.length x1), PV.int IntKind.i64 nu, PV.int IntKind.i64 x0], [[(1, (true, Blk.cells [PV.int IntKind.i64 hr, PV.loose (PA.mk (0) (1) al (0)) nl])), (2, (true, Blk.cells [PV.int IntKind.i64 (0 : Int), PV.nils])), (3, (true, Blk.cols (List.length x1) [Col.bool fun (j : Nat) => S.at' x1 j]))], [(0, (false, .cols ml [.int .i64 tl]))]], 4⟩ (proj 1 [1, 3, 4, 8, 11, 48, 49] Kst Kret) =
  T27_0 test Kst Kret hr al nl ml tl fa nu z x0 x1 := by kernel_rfl
set_option maxRecDepth 100000 in
theorem be27 (hr : Int) (al nl ml : Nat) (tl : Nat → Int) (fa : Int) (nu : Int) (z : Int) (Kst : KS) (Kret : KR) (x : St27 ⊕ Rt27) (hS : HS 1 400 ((I27 hr al nl ml tl fa nu z)) Kst x) (hR : HR 1 400 ((V27 hr al nl ml tl fa nu z)) (fun r => [newL (1 + 1) ((N27 hr al nl ml tl fa nu z) r) ++ [(0, (false, .cols ml [.int .i64 tl]))]]) Kret x) (h : (bif (decide (al + nl ≤ ml ∧ nl ≤ 1000000))
 then (bif ((S.filE hr nl fun (j : Nat) => tl (j + al)) != (0 : Int))
 then (some (.inr ((0 : Int), S.filE hr nl fun (j : Nat) => tl (j + al), [])))
 else (bif (decide (fa ≥ (0 : Int)))
 then (bif (decide (fa < hr))
 then (bif (decide (nu < (1 : Int)))
 then (some (.inr ((0 : Int), (6 : Int), [])))
 else (bif (decide (nu > hr))
 then (some (.inr ((0 : Int), (6 : Int), [])))
 else (bif (decide (z < (1 : Int)))
 then (some (.inr ((0 : Int), (6 : Int), [])))
 else (bif (decide (z > hr))
 then (some (.inr ((0 : Int), (6 : Int), [])))
 else (bif (decide (al + nl ≤ ml ∧ nl ≤ 1000000 ∧ (S.filE hr nl fun (j : Nat) => tl (j + al)) = (0 : Int)))
 then (some (.inl (.h0 ((0 : Int)) (S.mkl (Int.toNat hr) fun (j : Nat) => S.inB (fun (j : Nat) => tl (j + al)) nl j))))
 else (none))))))
 else (some (.inr ((0 : Int), (6 : Int), []))))
 else (some (.inr ((0 : Int), (6 : Int), [])))))
 else (none) : Option (St27 ⊕ Rt27)) = some x) : Te27 cond Kst Kret hr al nl ml tl fa nu z := by
  unfold Te27
  exact bif_split h
   (fun c0 h => bif_split h
   (fun c1 h => ret_at hR _ h (fun n => bif Nat.beq n 2 then 399 else n) rfl rfl rfl (rn_tup ⟨(rn_agg ⟨(rn_int rfl), (rn_own_nils rfl), trivial⟩), (rn_int rfl), trivial⟩) rfl (entl_fresh (use_own rfl) (fresh_ok rfl) (entl_bor (use_lo rfl) rfl rfl entl_nil)))
   (fun c1 h => bif_split h
   (fun c2 h => bif_split h
   (fun c3 h => bif_split h
   (fun c4 h => ret_at hR _ h (fun n => bif Nat.beq n 2 then 399 else n) rfl rfl rfl (rn_tup ⟨(rn_agg ⟨(rn_int rfl), (rn_own_nils rfl), trivial⟩), (rn_int rfl), trivial⟩) rfl (entl_fresh (use_own rfl) (fresh_ok rfl) (entl_bor (use_lo rfl) rfl rfl entl_nil)))
   (fun c4 h => bif_split h
   (fun c5 h => ret_at hR _ h (fun n => bif Nat.beq n 2 then 399 else n) rfl rfl rfl (rn_tup ⟨(rn_agg ⟨(rn_int rfl), (rn_own_nils rfl), trivial⟩), (rn_int rfl), trivial⟩) rfl (entl_fresh (use_own rfl) (fresh_ok rfl) (entl_bor (use_lo rfl) rfl rfl entl_nil)))
   (fun c5 h => bif_split h
   (fun c6 h => ret_at hR _ h (fun n => bif Nat.beq n 2 then 399 else n) rfl rfl rfl (rn_tup ⟨(rn_agg ⟨(rn_int rfl), (rn_own_nils rfl), trivial⟩), (rn_int rfl), trivial⟩) rfl (entl_fresh (use_own rfl) (fresh_ok rfl) (entl_bor (use_lo rfl) rfl rfl entl_nil)))
   (fun c6 h => bif_split h
   (fun c7 h => ret_at hR _ h (fun n => bif Nat.beq n 2 then 399 else n) rfl rfl rfl (rn_tup ⟨(rn_agg ⟨(rn_int rfl), (rn_own_nils rfl), trivial⟩), (rn_int rfl), trivial⟩) rfl (entl_fresh (use_own rfl) (fresh_ok rfl) (entl_bor (use_lo rfl) rfl rfl entl_nil)))
   (fun c7 h => bif_split h
   (fun c8 h => stop_at hS _ h (fun n => bif Nat.beq n 1 then 1 else bif Nat.beq n 2 then 2 else bif Nat.beq n 3 then 5 else n) rfl rfl rfl ⟨(rn_int rfl), ⟨(rn_int rfl), ⟨(rn_ptr (use_own rfl) rfl rfl), ⟨(rn_ptr (use_own rfl) rfl rfl), ⟨(rn_own (use_own rfl) rfl rfl), ⟨(rn_int rfl), ⟨(rn_int rfl), trivial⟩⟩⟩⟩⟩⟩⟩ rfl (entl_b (use_own rfl) rfl (by simp) (rb_cells ⟨(rn_int rfl), (rn_loose (use_lo rfl) rfl rfl rfl), trivial⟩) (entl_b (use_own rfl) rfl (by simp) (rb_cells ⟨(rn_int rfl), rn_nils, trivial⟩) (entl_new (use_own rfl) rfl (Nat.le_of_eq rfl) (rcs_bool (fun _ _ => rfl) rcs_nil) (entl_bor (use_lo rfl) rfl rfl entl_nil)))))
   (fun c8 h => no_some h))))))
   (fun c3 h => ret_at hR _ h (fun n => bif Nat.beq n 2 then 399 else n) rfl rfl rfl (rn_tup ⟨(rn_agg ⟨(rn_int rfl), (rn_own_nils rfl), trivial⟩), (rn_int rfl), trivial⟩) rfl (entl_fresh (use_own rfl) (fresh_ok rfl) (entl_bor (use_lo rfl) rfl rfl entl_nil))))
   (fun c2 h => ret_at hR _ h (fun n => bif Nat.beq n 2 then 399 else n) rfl rfl rfl (rn_tup ⟨(rn_agg ⟨(rn_int rfl), (rn_own_nils rfl), trivial⟩), (rn_int rfl), trivial⟩) rfl (entl_fresh (use_own rfl) (fresh_ok rfl) (entl_bor (use_lo rfl) rfl rfl entl_nil)))))
   (fun c0 h => no_some h)
set_option maxRecDepth 100000 in
theorem b27_0 (hr : Int) (al nl ml : Nat) (tl : Nat → Int) (fa : Int) (nu : Int) (z : Int) (Kst : KS) (Kret : KR) (x : St27 ⊕ Rt27) (hS : HS 1 400 ((I27 hr al nl ml tl fa nu z)) Kst x) (hR : HR 1 400 ((V27 hr al nl ml tl fa nu z)) (fun r => [newL (1 + 1) ((N27 hr al nl ml tl fa nu z) r) ++ [(0, (false, .cols ml [.int .i64 tl]))]]) Kret x) (x0 : Int) (x1 : List Bool) (h : (bif (decide (x0 < nu))
 then (bif (lim IntKind.i64 (x0 * z))
 then (bif (lim IntKind.i64 (fa + x0 * z))
 then (bif (decide (hr = (0 : Int)))
 then (none)
 else (bif (decide ((0 : Int) ≤ Int.tmod (fa + x0 * z) hr ∧ Int.tmod (fa + x0 * z) hr < (↑(List.length x1) : Int)))
 then (bif (decide (Int.toNat (Int.tmod (fa + x0 * z) hr) < List.length x1))
 then (bif (S.at' x1 (Int.toNat (Int.tmod (fa + x0 * z) hr)))
 then (some (.inr ((0 : Int), (12 : Int), [])))
 else (bif (lim IntKind.i64 (x0 + (1 : Int)))
 then (some (.inl (.h0 (x0 + (1 : Int)) (S.mkl (List.length x1) fun (j : Nat) =>
 bif Nat.beq j (Int.toNat (Int.tmod (fa + x0 * z) hr)) then true else S.at' x1 j))))
 else (none)))
 else (none))
 else (none)))
 else (none))
 else (none))
 else (bif (decide (0 + List.length x1 ≤ List.length x1 ∧ List.length x1 ≤ 999999))
 then (some (.inr ((↑(List.length x1) : Int), (0 : Int), S.posP (fun (j : Nat) => S.at' x1 j) (List.length x1))))
 else (none)) : Option (St27 ⊕ Rt27)) = some x) : T27_0 cond Kst Kret hr al nl ml tl fa nu z x0 x1 := by
  unfold T27_0
  exact bif_split h
   (fun c0 h => bif_split h
   (fun c1 h => bif_split h
   (fun c2 h => bif_split h
   (fun c3 h => no_some h)
   (fun c3 h => bif_split h
   (fun c4 h => bif_split h
   (fun c5 h => bif_split h
   (fun c6 h => ret_at hR _ h (fun n => bif Nat.beq n 2 then 399 else n) rfl rfl rfl (rn_tup ⟨(rn_agg ⟨(rn_int rfl), (rn_own_nils rfl), trivial⟩), (rn_int rfl), trivial⟩) rfl (entl_fresh (use_own rfl) (fresh_ok rfl) (entl_bor (use_lo rfl) rfl rfl entl_nil)))
   (fun c6 h => cond_yes c4 (cond_yes c5 (bif_split h
   (fun c7 h => stop_at hS _ h (fun n => bif Nat.beq n 1 then 1 else bif Nat.beq n 2 then 2 else bif Nat.beq n 3 then 3 else n) rfl rfl rfl ⟨(rn_int rfl), ⟨(rn_int rfl), ⟨(rn_ptr (use_own rfl) rfl rfl), ⟨(rn_ptr (use_own rfl) rfl rfl), ⟨(rn_own (use_own rfl) rfl mkl_len), ⟨(rn_int rfl), ⟨(rn_int rfl), trivial⟩⟩⟩⟩⟩⟩⟩ rfl (entl_b (use_own rfl) rfl (by simp) (rb_cells ⟨(rn_int rfl), (rn_loose (use_lo rfl) rfl rfl rfl), trivial⟩) (entl_b (use_own rfl) rfl (by simp) (rb_cells ⟨(rn_int rfl), rn_nils, trivial⟩) (entl_new (use_own rfl) rfl (Nat.le_of_eq mkl_len) (rcs_bool (fun _ hj => col_mkl (fun (t : Bool) => t) hj) rcs_nil) (entl_bor (use_lo rfl) rfl rfl entl_nil)))))
   (fun c7 h => no_some h)))))
   (fun c5 h => no_some h))
   (fun c4 h => no_some h)))
   (fun c2 h => no_some h))
   (fun c1 h => no_some h))
   (fun c0 h => bif_split h
   (fun c1 h => ret_at hR _ h (fun n => bif Nat.beq n 2 then 5 else n) rfl rfl rfl (rn_tup ⟨(rn_agg ⟨(rn_int rfl), (rn_own (use_own rfl) rfl rfl), trivial⟩), (rn_int rfl), trivial⟩) rfl (entl_new (use_own rfl) rfl (Nat.le_of_eq rfl) (rcs_int (fun _ _ => rfl) rcs_nil) (entl_bor (use_lo rfl) rfl rfl entl_nil)))
   (fun c1 h => no_some h))
theorem a27 (hr : Int) (al nl ml : Nat) (tl : Nat → Int) (fa : Int) (nu : Int) (z : Int) {r : Rt27} (h : Goes ((q27 hr al nl ml tl fa nu z)) ((p27 hr al nl ml tl fa nu z)) r) : CallR Try.prog 27 [.agg [.int .i64 hr, .loose ⟨0, 1, al, 0⟩ nl], .int .i64 fa, .int .i64 nu, .int .i64 z] [[(0, (false, .cols ml [.int .i64 tl]))]] 1 ((V27 hr al nl ml tl fa nu z) r) ((fun r => [newL (1 + 1) ((N27 hr al nl ml tl fa nu z) r) ++ [(0, (false, .cols ml [.int .i64 tl]))]]) r) 400 ∧ ∃ F, Try.prog.funcs[27]? = some F ∧ F.body.isSome = true ∧ (F.name == "runtime.NumGoroutine") = false := by
  refine dec_calls (f := 27) (lo := 1) (hi := 400) (H := [[(0, (false, .cols ml [.int .i64 tl]))]]) (args := [.agg [.int .i64 hr, .loose ⟨0, 1, al, 0⟩ nl], .int .i64 fa, .int .i64 nu, .int .i64 z]) Try.envOk Try.mixed xT_ok ((I27 hr al nl ml tl fa nu z)) ((V27 hr al nl ml tl fa nu z)) (fun r => [newL (1 + 1) ((N27 hr al nl ml tl fa nu z) r) ++ [(0, (false, .cols ml [.int .i64 tl]))]]) (fn := mkFn Try.f27) (ts := [1, 3, 4, 8, 11, 48, 49]) (n := 400) rfl (by decide) (by simp) (names_of rfl) ?_ ?_ ?_ h
  · intro s; cases s <;> exact ⟨hd_ok _ _, by simp [I27], names_of rfl, Nat.le_of_ble_eq_true rfl⟩
  · intro Kst Kret x hS hR h
    exact Holds.eq (te27 cond Kst Kret hr al nl ml tl fa nu z) (be27 hr al nl ml tl fa nu z Kst Kret x hS hR h)
  · intro Kst Kret x hS hR s h
    cases s with
    | h0 x0 x1 => exact Holds.eq (t27_0 cond Kst Kret hr al nl ml tl fa nu z x0 x1) (b27_0 hr al nl ml tl fa nu z Kst Kret x hS hR x0 x1 h)
noncomputable def k27 : Con := ⟨27, [.agg [.plain (.int .i64), .list [.int .i64]], .one (.plain (.int .i64)), .one (.plain (.int .i64)), .one (.plain (.int .i64))], fun (x : (Int × (Nat × Nat × Nat × (Nat → Int) × Unit) × Unit) × Int × Int × Int × Unit) => (fun (hr : Int) (al nl ml : Nat) (tl : Nat → Int) (fa : Int) (nu : Int) (z : Int) => decide (al + nl ≤ ml ∧ nl ≤ 1000000)) x.1.1 x.1.2.1.1 x.1.2.1.2.1 x.1.2.1.2.2.1 x.1.2.1.2.2.2.1 x.2.1 x.2.2.1 x.2.2.2.1, fun (x : (Int × (Nat × Nat × Nat × (Nat → Int) × Unit) × Unit) × Int × Int × Int × Unit) => (fun (hr : Int) (al nl ml : Nat) (tl : Nat → Int) (fa : Int) (nu : Int) (z : Int) => (V27 hr al nl ml tl fa nu z) (S.injS hr nl (fun j => tl (j + al)) fa nu z)) x.1.1 x.1.2.1.1 x.1.2.1.2.1 x.1.2.1.2.2.1 x.1.2.1.2.2.2.1 x.2.1 x.2.2.1 x.2.2.2.1, fun (x : (Int × (Nat × Nat × Nat × (Nat → Int) × Unit) × Unit) × Int × Int × Int × Unit) => (fun (hr : Int) (al nl ml : Nat) (tl : Nat → Int) (fa : Int) (nu : Int) (z : Int) => (N27 hr al nl ml tl fa nu z) (S.injS hr nl (fun j => tl (j + al)) fa nu z)) x.1.1 x.1.2.1.1 x.1.2.1.2.1 x.1.2.1.2.2.1 x.1.2.1.2.2.2.1 x.2.1 x.2.2.1 x.2.2.2.1, fun _ _ => .dead⟩
theorem s27' (hr : Int) (al nl ml : Nat) (tl : Nat → Int) (fa : Int) (nu : Int) (z : Int) (hp : al + nl ≤ ml ∧ nl ≤ 1000000) (hh : 1 ≤ hr ∧ hr ≤ 2000) (ha : 0 ≤ fa ∧ fa < hr) (hn : 1 ≤ nu ∧ nu ≤ hr) (hz : 1 ≤ z ∧ z ≤ hr) : ∀ (k i : Nat) (L : List Bool), i + k = nu.toNat → L.length = hr.toNat → Comes (q27 hr al nl ml tl fa nu z) (.h0 (i : Int) L) (S.injK (S.injP hr fa z) i k L) := by
  obtain ⟨hp1, hp2⟩ := hp
  intro k
  induction k with
  | zero =>
    intro i L hi hL
    apply Comes.of
    show Goes _ _ _
    (first | rw [q27] | unfold q27)
    repeat' first
      | with_reducible refine goes_if (fun h => ?_) (fun h => ?_) <;> (try simp only [lim64, decide_eq_true_eq, decide_eq_false_iff_not, Int.toNat_natCast, toNat_pred, toNat_succ, Option.getD_some, Option.getD_none, Bool.not_eq_true', Bool.not_eq_false', Bool.and_eq_true, Bool.or_eq_true, Bool.and_eq_false_iff, Bool.or_eq_false_iff, bne_iff_ne, beq_iff_eq, bne_eq_false_iff_eq, beq_eq_false_iff_ne, ne_eq, not_and, Int.not_le, Int.not_lt, ge_iff_le, gt_iff_lt, Nat.not_lt, Nat.not_le, Bool.not_eq_true, Bool.not_eq_false, Bool.true_eq_false, Bool.false_eq_true, not_false_eq_true, not_true_eq_false] at h)
      | exact goes_none.mpr (by omega)
    all_goals first | (exfalso; omega) | exact goes_inr.mpr rfl
  | succ k ih =>
    intro i L hi hL
    have e0 : S.injK (S.injP hr fa z) i (k + 1) L = if S.at' L (Int.tmod (fa + (i : Int) * z) hr).toNat = true then (0, 12, []) else S.injK (S.injP hr fa z) (i + 1) k (S.mkl L.length fun j => bif j.beq (Int.tmod (fa + (i : Int) * z) hr).toNat then true else S.at' L j) := rfl
    have hm := mul_bnd (k := (i : Int)) (h := z) (by omega) (by omega)
    have htm := tmod_lt (n := fa + (i : Int) * z) (h := hr) (by omega)
    have htg : 0 ≤ Int.tmod (fa + (i : Int) * z) hr := tmod_ge (by omega)
    rw [e0]
    apply Comes.of
    show Goes _ _ _
    (first | rw [q27] | unfold q27)
    repeat' first
      | with_reducible refine goes_if (fun h => ?_) (fun h => ?_) <;> (try simp only [lim64, decide_eq_true_eq, decide_eq_false_iff_not, Int.toNat_natCast, toNat_pred, toNat_succ, Option.getD_some, Option.getD_none, Bool.not_eq_true', Bool.not_eq_false', Bool.and_eq_true, Bool.or_eq_true, Bool.and_eq_false_iff, Bool.or_eq_false_iff, bne_iff_ne, beq_iff_eq, bne_eq_false_iff_eq, beq_eq_false_iff_ne, ne_eq, not_and, Int.not_le, Int.not_lt, ge_iff_le, gt_iff_lt, Nat.not_lt, Nat.not_le, Bool.not_eq_true, Bool.not_eq_false, Bool.true_eq_false, Bool.false_eq_true, not_false_eq_true, not_true_eq_false] at h)
      | exact goes_none.mpr (by omega)
    all_goals first
      | (exfalso; omega)
      | (rw [if_pos (by assumption)]; exact goes_inr.mpr rfl)
      | (rw [if_neg (by simp only [Bool.not_eq_true]; assumption)]; exact ih (i + 1) _ (by omega) (mkl_len.trans hL))
theorem s27 (hr : Int) (al nl ml : Nat) (tl : Nat → Int) (fa : Int) (nu : Int) (z : Int) (hp : al + nl ≤ ml ∧ nl ≤ 1000000) : Goes ((q27 hr al nl ml tl fa nu z)) ((p27 hr al nl ml tl fa nu z)) (S.injS hr nl (fun j => tl (j + al)) fa nu z) := by
  unfold S.injS
  by_cases h0 : S.filE hr nl (fun j => tl (j + al)) = 0
  · rw [if_pos h0]
    obtain ⟨v1, v2, v3, v4⟩ := fil_ok h0
    by_cases hv : (0 ≤ fa ∧ fa < hr) ∧ (1 ≤ nu ∧ nu ≤ hr) ∧ 1 ≤ z ∧ z ≤ hr
    · rw [if_pos hv]
      have hm := s27' hr al nl ml tl fa nu z hp ⟨v1, v2⟩ hv.1 hv.2.1 hv.2.2 nu.toNat 0 (S.mkl hr.toNat fun j => S.inB (fun j => tl (j + al)) nl j) (by omega) mkl_len
      show Goes _ _ _
      unfold p27
      repeat' first
        | with_reducible refine goes_if (fun h => ?_) (fun h => ?_) <;> (try simp only [lim64, decide_eq_true_eq, decide_eq_false_iff_not, Int.toNat_natCast, toNat_pred, toNat_succ, Option.getD_some, Option.getD_none, Bool.not_eq_true', Bool.not_eq_false', Bool.and_eq_true, Bool.or_eq_true, Bool.and_eq_false_iff, Bool.or_eq_false_iff, bne_iff_ne, beq_iff_eq, bne_eq_false_iff_eq, beq_eq_false_iff_ne, ne_eq, not_and, Int.not_le, Int.not_lt, ge_iff_le, gt_iff_lt, Nat.not_lt, Nat.not_le, Bool.not_eq_true, Bool.not_eq_false, Bool.true_eq_false, Bool.false_eq_true, not_false_eq_true, not_true_eq_false] at h)
        | exact goes_none.mpr (by omega)
      all_goals first | (exfalso; omega) | exact hm
    · rw [if_neg hv]
      show Goes _ _ _
      unfold p27
      repeat' first
        | with_reducible refine goes_if (fun h => ?_) (fun h => ?_) <;> (try simp only [lim64, decide_eq_true_eq, decide_eq_false_iff_not, Int.toNat_natCast, toNat_pred, toNat_succ, Option.getD_some, Option.getD_none, Bool.not_eq_true', Bool.not_eq_false', Bool.and_eq_true, Bool.or_eq_true, Bool.and_eq_false_iff, Bool.or_eq_false_iff, bne_iff_ne, beq_iff_eq, bne_eq_false_iff_eq, beq_eq_false_iff_ne, ne_eq, not_and, Int.not_le, Int.not_lt, ge_iff_le, gt_iff_lt, Nat.not_lt, Nat.not_le, Bool.not_eq_true, Bool.not_eq_false, Bool.true_eq_false, Bool.false_eq_true, not_false_eq_true, not_true_eq_false] at h)
        | exact goes_none.mpr (by omega)
      all_goals first | (exfalso; omega) | rfl
  · rw [if_neg h0]
    show Goes _ _ _
    unfold p27
    repeat' first
      | with_reducible refine goes_if (fun h => ?_) (fun h => ?_) <;> (try simp only [lim64, decide_eq_true_eq, decide_eq_false_iff_not, Int.toNat_natCast, toNat_pred, toNat_succ, Option.getD_some, Option.getD_none, Bool.not_eq_true', Bool.not_eq_false', Bool.and_eq_true, Bool.or_eq_true, Bool.and_eq_false_iff, Bool.or_eq_false_iff, bne_iff_ne, beq_iff_eq, bne_eq_false_iff_eq, beq_eq_false_iff_ne, ne_eq, not_and, Int.not_le, Int.not_lt, ge_iff_le, gt_iff_lt, Nat.not_lt, Nat.not_le, Bool.not_eq_true, Bool.not_eq_false, Bool.true_eq_false, Bool.false_eq_true, not_false_eq_true, not_true_eq_false] at h)
      | exact goes_none.mpr (by omega)
    all_goals first | (exfalso; omega) | rfl

theorem k27_ok : k27.ok Try.prog := by
  intro x hx
  obtain ⟨⟨hr, ⟨al, nl, ml, tl, _⟩, _⟩, fa, nu, z, _⟩ := x
  obtain ⟨h1, h2⟩ := a27 hr al nl ml tl fa nu z (s27 hr al nl ml tl fa nu z (of_dec hx rfl))
  exact ⟨⟨400, (by decide : 1 + 1 + 1 ≤ 400), h1⟩, h2⟩
inductive St28 where
  | h0 (x0 : Int) (x1 : List Bool)
abbrev Rt28 := Int × Int × List Int
noncomputable def V28 (hr : Int) (al nl ml : Nat) (tl : Nat → Int) (fa : Int) (nu : Int) (z : Int) (r : Rt28) : PV := PV.tup
 [PV.agg [PV.int IntKind.i64 r.1, PV.own (2) (1) (List.length r.2.2)],
 PV.int IntKind.i64 r.2.1]
noncomputable def N28 (hr : Int) (al nl ml : Nat) (tl : Nat → Int) (fa : Int) (nu : Int) (z : Int) (r : Rt28) : List Blk := [Blk.cols (List.length r.2.2) [Col.int IntKind.i64 fun (j : Nat) => S.at' r.2.2 j]]
noncomputable def I28 (hr : Int) (al nl ml : Nat) (tl : Nat → Int) (fa : Int) (nu : Int) (z : Int) : St28 → Hd
  | .h0 x0 x1 => ⟨hd Try.f28 0, [PV.int IntKind.i64 fa, PV.int IntKind.i64 nu, PV.int IntKind.i64 z,
 PV.ptr (PA.mk (1) (0) (0) (0)), PV.int IntKind.i64 hr,
 PV.own (2) (1) (List.length x1), PV.int IntKind.i64 x0], [[(1, (true, Blk.cells [PV.int IntKind.i64 (0 : Int), PV.nils])), (2, (true, Blk.cols (List.length x1) [Col.bool fun (j : Nat) => S.at' x1 j]))], [(0, (false, .cols ml [.int .i64 tl]))]], 3⟩
noncomputable def q28 (hr : Int) (al nl ml : Nat) (tl : Nat → Int) (fa : Int) (nu : Int) (z : Int) : St28 → Option (St28 ⊕ Rt28)
  | .h0 x0 x1 => bif (decide (x0 < nu))
 then (bif (lim IntKind.i64 (x0 * z))
 then (bif (lim IntKind.i64 (fa + x0 * z))
 then (bif (decide (hr = (0 : Int)))
 then (none)
 else (bif (decide ((0 : Int) ≤ Int.tmod (fa + x0 * z) hr ∧ Int.tmod (fa + x0 * z) hr < (↑(List.length x1) : Int)))
 then (bif (decide (Int.toNat (Int.tmod (fa + x0 * z) hr) < List.length x1))
 then (bif (S.at' x1 (Int.toNat (Int.tmod (fa + x0 * z) hr)))
 then (some (.inr ((0 : Int), (12 : Int), [])))
 else (bif (lim IntKind.i64 (x0 + (1 : Int)))
 then (some (.inl (.h0 (x0 + (1 : Int)) (S.mkl (List.length x1) fun (j : Nat) =>
 bif Nat.beq j (Int.toNat (Int.tmod (fa + x0 * z) hr)) then true else S.at' x1 j))))
 else (none)))
 else (none))
 else (none)))
 else (none))
 else (none))
 else (bif (decide (0 + List.length x1 ≤ List.length x1 ∧ List.length x1 ≤ 999999))
 then (some (.inr ((↑(List.length x1) : Int), (0 : Int), S.posP (fun (j : Nat) => S.at' x1 j) (List.length x1))))
 else (none))
noncomputable def p28 (hr : Int) (al nl ml : Nat) (tl : Nat → Int) (fa : Int) (nu : Int) (z : Int) : Option (St28 ⊕ Rt28) := bif (decide (al + nl ≤ ml ∧ nl ≤ 1000000))
 then (bif ((S.filE hr nl fun (j : Nat) => tl (j + al)) != (0 : Int))
 then (some (.inr ((0 : Int), S.filE hr nl fun (j : Nat) => tl (j + al), [])))
 else (bif (decide (fa < (0 : Int)))
 then (some (.inr ((0 : Int), (6 : Int), [])))
 else (bif (decide (fa ≥ hr))
 then (some (.inr ((0 : Int), (6 : Int), [])))
 else (bif (decide (nu < (1 : Int)))
 then (some (.inr ((0 : Int), (6 : Int), [])))
 else (bif (decide (nu > hr))
 then (some (.inr ((0 : Int), (6 : Int), [])))
 else (bif (decide (z < (1 : Int)))
 then (some (.inr ((0 : Int), (6 : Int), [])))
 else (bif (decide (z > hr))
 then (some (.inr ((0 : Int), (6 : Int), [])))
 else (bif (decide (al + nl ≤ ml ∧ nl ≤ 1000000 ∧ (S.filE hr nl fun (j : Nat) => tl (j + al)) = (0 : Int)))
 then (some (.inl (.h0 ((0 : Int)) (S.mkl (Int.toNat hr) fun (j : Nat) => S.inB (fun (j : Nat) => tl (j + al)) nl j))))
 else (none)))))))))
 else (none)
noncomputable def Te28 (test : Bool → Prop → Prop → Prop) (Kst : KS) (Kret : KR) (hr : Int) (al nl ml : Nat) (tl : Nat → Int) (fa : Int) (nu : Int) (z : Int) : Prop :=
  test (decide (al + nl ≤ ml ∧ nl ≤ 1000000))
 (test ((S.filE hr nl fun (j : Nat) => tl (j + al)) != (0 : Int))
 (Kret (PV.tup
 [PV.agg [PV.int IntKind.i64 (0 : Int), PV.nils],
 PV.int IntKind.i64 (S.filE hr nl fun (j : Nat) => tl (j + al))]) ([[(0, false, Blk.cols ml [Col.int IntKind.i64 tl])]]) (4))
 (test (decide (fa < (0 : Int)))
 (Kret (PV.tup
 [PV.agg [PV.int IntKind.i64 (0 : Int), PV.nils], PV.int IntKind.i64 (6 : Int)]) ([[(0, false, Blk.cols ml [Col.int IntKind.i64 tl])]]) (4))
 (test (decide (fa ≥ hr))
 (Kret (PV.tup
 [PV.agg [PV.int IntKind.i64 (0 : Int), PV.nils], PV.int IntKind.i64 (6 : Int)]) ([[(0, false, Blk.cols ml [Col.int IntKind.i64 tl])]]) (4))
 (test (decide (nu < (1 : Int)))
 (Kret (PV.tup
 [PV.agg [PV.int IntKind.i64 (0 : Int), PV.nils], PV.int IntKind.i64 (6 : Int)]) ([[(0, false, Blk.cols ml [Col.int IntKind.i64 tl])]]) (4))
 (test (decide (nu > hr))
 (Kret (PV.tup
 [PV.agg [PV.int IntKind.i64 (0 : Int), PV.nils], PV.int IntKind.i64 (6 : Int)]) ([[(0, false, Blk.cols ml [Col.int IntKind.i64 tl])]]) (4))
 (test (decide (z < (1 : Int)))
 (Kret (PV.tup
 [PV.agg [PV.int IntKind.i64 (0 : Int), PV.nils], PV.int IntKind.i64 (6 : Int)]) ([[(0, false, Blk.cols ml [Col.int IntKind.i64 tl])]]) (4))
 (test (decide (z > hr))
 (Kret (PV.tup
 [PV.agg [PV.int IntKind.i64 (0 : Int), PV.nils], PV.int IntKind.i64 (6 : Int)]) ([[(0, false, Blk.cols ml [Col.int IntKind.i64 tl])]]) (4))
 (test (decide (al + nl ≤ ml ∧ nl ≤ 1000000 ∧ (S.filE hr nl fun (j : Nat) => tl (j + al)) = (0 : Int)))
 (Kst (hd Try.f28 0) ([PV.int IntKind.i64 fa, PV.int IntKind.i64 nu, PV.int IntKind.i64 z,
 PV.ptr (PA.mk (2) (0) (0) (0)), PV.int IntKind.i64 hr,
 PV.own (5) (1)
 (List.length (S.mkl (Int.toNat hr) fun (j : Nat) => S.inB (fun (j : Nat) => tl (j + al)) nl j)),
 PV.int IntKind.i64 (0 : Int)]) ([[(0, false, Blk.cols ml [Col.int IntKind.i64 tl]),
 (5, true,
 Blk.cols
 (List.length (S.mkl (Int.toNat hr) fun (j : Nat) => S.inB (fun (j : Nat) => tl (j + al)) nl j))
 [Col.bool fun (j : Nat) =>
 S.at' (S.mkl (Int.toNat hr) fun (j : Nat) => S.inB (fun (j : Nat) => tl (j + al)) nl j)
 j]),
 (2, true, Blk.cells [PV.int IntKind.i64 (0 : Int), PV.nils])]]) (6))
 (False)))))))))
 (False)
set_option maxRecDepth 100000 in
theorem te28 (test : Bool → Prop → Prop → Prop) (Kst : KS) (Kret : KR) (hr : Int) (al nl ml : Nat) (tl : Nat → Int) (fa : Int) (nu : Int) (z : Int) : run test Try.env true (xT test) true 400 ⟨28, [.cd (mkFn Try.f28).body], argT 0 [.agg [.int .i64 hr, .loose ⟨0, 1, al, 0⟩ nl], .int .i64 fa, .int .i64 nu, .int .i64 z], [[], [(0, (false, .cols ml [.int .i64 tl]))]], 1⟩ (proj 1 [1, 2, 3, 8, 11, 12, 13] Kst Kret) =
  Te28 test Kst Kret hr al nl ml tl fa nu z := by kernel_rfl
noncomputable def T28_0 (test : Bool → Prop → Prop → Prop) (Kst : KS) (Kret : KR) (hr : Int) (al nl ml : Nat) (tl : Nat → Int) (fa : Int) (nu : Int) (z : Int) (x0 : Int) (x1 : List Bool) : Prop :=
  test (decide (x0 < nu))
 (test (lim IntKind.i64 (x0 * z))
 (test (lim IntKind.i64 (fa + x0 * z))
 (test (decide (hr = (0 : Int)))
 (False)
 (test (decide ((0 : Int) ≤ Int.tmod (fa + x0 * z) hr ∧ Int.tmod (fa + x0 * z) hr < (↑(List.length x1) : Int)))
 (test (decide (Int.toNat (Int.tmod (fa + x0 * z) hr) < List.length x1))
 (test (S.at' x1 (Int.toNat (Int.tmod (fa + x0 * z) hr)))
 (Kret (PV.tup
 [PV.agg [PV.int IntKind.i64 (0 : Int), PV.nils], PV.int IntKind.i64 (12 : Int)]) ([[(0, false, Blk.cols ml [Col.int IntKind.i64 tl])]]) (3))
 (test (decide ((0 : Int) ≤ Int.tmod (fa + x0 * z) hr ∧ Int.tmod (fa + x0 * z) hr < (↑(List.length x1) : Int)))
 (test (decide (Int.toNat (Int.tmod (fa + x0 * z) hr) < List.length x1))
 (test (lim IntKind.i64 (x0 + (1 : Int)))
 (Kst (hd Try.f28 0) ([PV.int IntKind.i64 fa, PV.int IntKind.i64 nu, PV.int IntKind.i64 z,
 PV.ptr (PA.mk (1) (0) (0) (0)), PV.int IntKind.i64 hr,
 PV.own (2) (1) (List.length x1), PV.int IntKind.i64 (x0 + (1 : Int))]) ([[(0, false, Blk.cols ml [Col.int IntKind.i64 tl]),
 (2, true,
 Blk.cols (List.length x1)
 [Col.bool fun (j : Nat) =>
 bif Nat.beq j (Int.toNat (Int.tmod (fa + x0 * z) hr)) then true else S.at' x1 j]),
 (1, true, Blk.cells [PV.int IntKind.i64 (0 : Int), PV.nils])]]) (3))
 (False))
 (False))
 (False)))
 (False))
 (False)))
 (False))
 (False))
 (test (decide (0 + List.length x1 ≤ List.length x1 ∧ List.length x1 ≤ 999999))
 (Kret (PV.tup
 [PV.agg
 [PV.int IntKind.i64 (↑(List.length x1) : Int),
 PV.own (4) (1)
 (List.length (S.posP (fun (j : Nat) => S.at' x1 j) (List.length x1)))],
 PV.int IntKind.i64 (0 : Int)]) ([[(0, false, Blk.cols ml [Col.int IntKind.i64 tl]),
 (4, true,
 Blk.cols (List.length (S.posP (fun (j : Nat) => S.at' x1 j) (List.length x1)))
 [Col.int IntKind.i64 fun (j : Nat) =>
 S.at' (S.posP (fun (j : Nat) => S.at' x1 j) (List.length x1)) j])]]) (5))
 (False))
set_option maxRecDepth 100000 in
theorem t28_0 (test : Bool → Prop → Prop → Prop) (Kst : KS) (Kret : KR) (hr : Int) (al nl ml : Nat) (tl : Nat → Int) (fa : Int) (nu : Int) (z : Int) (x0 : Int) (x1 : List Bool) : run test Try.env true (xT test) true 400 ⟨28, hd Try.f28 0, zipT [1, 2, 3, 8, 11, 12, 13] [PV.int IntKind.i64 fa, PV.int IntKind.i64 nu, PV.int IntKind.i64 z,
 PV.ptr (PA.mk (1) (0) (0) (0)), PV.int IntKind.i64 hr,
 PV.own (2) (1) (List.length x1), PV.int IntKind.i64 x0], [[(1, (true, Blk.cells [PV.int IntKind.i64 (0 : Int), PV.nils])), (2, (true, Blk.cols (List.length x1) [Col.bool fun (j : Nat) => S.at' x1 j]))], [(0, (false, .cols ml [.int .i64 tl]))]], 3⟩ (proj 1 [1, 2, 3, 8, 11, 12, 13] Kst Kret) =
  T28_0 test Kst Kret hr al nl ml tl fa nu z x0 x1 := by kernel_rfl
set_option maxRecDepth 100000 in
theorem be28 (hr : Int) (al nl ml : Nat) (tl : Nat → Int) (fa : Int) (nu : Int) (z : Int) (Kst : KS) (Kret : KR) (x : St28 ⊕ Rt28) (hS : HS 1 400 ((I28 hr al nl ml tl fa nu z)) Kst x) (hR : HR 1 400 ((V28 hr al nl ml tl fa nu z)) (fun r => [newL (1 + 1) ((N28 hr al nl ml tl fa nu z) r) ++ [(0, (false, .cols ml [.int .i64 tl]))]]) Kret x) (h : (bif (decide (al + nl ≤ ml ∧ nl ≤ 1000000))
 then (bif ((S.filE hr nl fun (j : Nat) => tl (j + al)) != (0 : Int))
 then (some (.inr ((0 : Int), S.filE hr nl fun (j : Nat) => tl (j + al), [])))
 else (bif (decide (fa < (0 : Int)))
 then (some (.inr ((0 : Int), (6 : Int), [])))
 else (bif (decide (fa ≥ hr))
 then (some (.inr ((0 : Int), (6 : Int), [])))
 else (bif (decide (nu < (1 : Int)))
 then (some (.inr ((0 : Int), (6 : Int), [])))
 else (bif (decide (nu > hr))
 then (some (.inr ((0 : Int), (6 : Int), [])))
 else (bif (decide (z < (1 : Int)))
 then (some (.inr ((0 : Int), (6 : Int), [])))
 else (bif (decide (z > hr))
 then (some (.inr ((0 : Int), (6 : Int), [])))
 else (bif (decide (al + nl ≤ ml ∧ nl ≤ 1000000 ∧ (S.filE hr nl fun (j : Nat) => tl (j + al)) = (0 : Int)))
 then (some (.inl (.h0 ((0 : Int)) (S.mkl (Int.toNat hr) fun (j : Nat) => S.inB (fun (j : Nat) => tl (j + al)) nl j))))
 else (none)))))))))
 else (none) : Option (St28 ⊕ Rt28)) = some x) : Te28 cond Kst Kret hr al nl ml tl fa nu z := by
  unfold Te28
  exact bif_split h
   (fun c0 h => bif_split h
   (fun c1 h => ret_at hR _ h (fun n => bif Nat.beq n 2 then 399 else n) rfl rfl rfl (rn_tup ⟨(rn_agg ⟨(rn_int rfl), (rn_own_nils rfl), trivial⟩), (rn_int rfl), trivial⟩) rfl (entl_fresh (use_own rfl) (fresh_ok rfl) (entl_bor (use_lo rfl) rfl rfl entl_nil)))
   (fun c1 h => bif_split h
   (fun c2 h => ret_at hR _ h (fun n => bif Nat.beq n 2 then 399 else n) rfl rfl rfl (rn_tup ⟨(rn_agg ⟨(rn_int rfl), (rn_own_nils rfl), trivial⟩), (rn_int rfl), trivial⟩) rfl (entl_fresh (use_own rfl) (fresh_ok rfl) (entl_bor (use_lo rfl) rfl rfl entl_nil)))
   (fun c2 h => bif_split h
   (fun c3 h => ret_at hR _ h (fun n => bif Nat.beq n 2 then 399 else n) rfl rfl rfl (rn_tup ⟨(rn_agg ⟨(rn_int rfl), (rn_own_nils rfl), trivial⟩), (rn_int rfl), trivial⟩) rfl (entl_fresh (use_own rfl) (fresh_ok rfl) (entl_bor (use_lo rfl) rfl rfl entl_nil)))
   (fun c3 h => bif_split h
   (fun c4 h => ret_at hR _ h (fun n => bif Nat.beq n 2 then 399 else n) rfl rfl rfl (rn_tup ⟨(rn_agg ⟨(rn_int rfl), (rn_own_nils rfl), trivial⟩), (rn_int rfl), trivial⟩) rfl (entl_fresh (use_own rfl) (fresh_ok rfl) (entl_bor (use_lo rfl) rfl rfl entl_nil)))
   (fun c4 h => bif_split h
   (fun c5 h => ret_at hR _ h (fun n => bif Nat.beq n 2 then 399 else n) rfl rfl rfl (rn_tup ⟨(rn_agg ⟨(rn_int rfl), (rn_own_nils rfl), trivial⟩), (rn_int rfl), trivial⟩) rfl (entl_fresh (use_own rfl) (fresh_ok rfl) (entl_bor (use_lo rfl) rfl rfl entl_nil)))
   (fun c5 h => bif_split h
   (fun c6 h => ret_at hR _ h (fun n => bif Nat.beq n 2 then 399 else n) rfl rfl rfl (rn_tup ⟨(rn_agg ⟨(rn_int rfl), (rn_own_nils rfl), trivial⟩), (rn_int rfl), trivial⟩) rfl (entl_fresh (use_own rfl) (fresh_ok rfl) (entl_bor (use_lo rfl) rfl rfl entl_nil)))
   (fun c6 h => bif_split h
   (fun c7 h => ret_at hR _ h (fun n => bif Nat.beq n 2 then 399 else n) rfl rfl rfl (rn_tup ⟨(rn_agg ⟨(rn_int rfl), (rn_own_nils rfl), trivial⟩), (rn_int rfl), trivial⟩) rfl (entl_fresh (use_own rfl) (fresh_ok rfl) (entl_bor (use_lo rfl) rfl rfl entl_nil)))
   (fun c7 h => bif_split h
   (fun c8 h => stop_at hS _ h (fun n => bif Nat.beq n 1 then 2 else bif Nat.beq n 2 then 5 else n) rfl rfl rfl ⟨(rn_int rfl), ⟨(rn_int rfl), ⟨(rn_int rfl), ⟨(rn_ptr (use_own rfl) rfl rfl), ⟨(rn_int rfl), ⟨(rn_own (use_own rfl) rfl rfl), ⟨(rn_int rfl), trivial⟩⟩⟩⟩⟩⟩⟩ rfl (entl_b (use_own rfl) rfl (by simp) (rb_cells ⟨(rn_int rfl), rn_nils, trivial⟩) (entl_new (use_own rfl) rfl (Nat.le_of_eq rfl) (rcs_bool (fun _ _ => rfl) rcs_nil) (entl_bor (use_lo rfl) rfl rfl entl_nil))))
   (fun c8 h => no_some h)))))))))
   (fun c0 h => no_some h)
set_option maxRecDepth 100000 in
theorem b28_0 (hr : Int) (al nl ml : Nat) (tl : Nat → Int) (fa : Int) (nu : Int) (z : Int) (Kst : KS) (Kret : KR) (x : St28 ⊕ Rt28) (hS : HS 1 400 ((I28 hr al nl ml tl fa nu z)) Kst x) (hR : HR 1 400 ((V28 hr al nl ml tl fa nu z)) (fun r => [newL (1 + 1) ((N28 hr al nl ml tl fa nu z) r) ++ [(0, (false, .cols ml [.int .i64 tl]))]]) Kret x) (x0 : Int) (x1 : List Bool) (h : (bif (decide (x0 < nu))
 then (bif (lim IntKind.i64 (x0 * z))
 then (bif (lim IntKind.i64 (fa + x0 * z))
 then (bif (decide (hr = (0 : Int)))
 then (none)
 else (bif (decide ((0 : Int) ≤ Int.tmod (fa + x0 * z) hr ∧ Int.tmod (fa + x0 * z) hr < (↑(List.length x1) : Int)))
 then (bif (decide (Int.toNat (Int.tmod (fa + x0 * z) hr) < List.length x1))
 then (bif (S.at' x1 (Int.toNat (Int.tmod (fa + x0 * z) hr)))
 then (some (.inr ((0 : Int), (12 : Int), [])))
 else (bif (lim IntKind.i64 (x0 + (1 : Int)))
 then (some (.inl (.h0 (x0 + (1 : Int)) (S.mkl (List.length x1) fun (j : Nat) =>
 bif Nat.beq j (Int.toNat (Int.tmod (fa + x0 * z) hr)) then true else S.at' x1 j))))
 else (none)))
 else (none))
 else (none)))
 else (none))
 else (none))
 else (bif (decide (0 + List.length x1 ≤ List.length x1 ∧ List.length x1 ≤ 999999))
 then (some (.inr ((↑(List.length x1) : Int), (0 : Int), S.posP (fun (j : Nat) => S.at' x1 j) (List.length x1))))
 else (none)) : Option (St28 ⊕ Rt28)) = some x) : T28_0 cond Kst Kret hr al nl ml tl fa nu z x0 x1 := by
  unfold T28_0
  exact bif_split h
   (fun c0 h => bif_split h
   (fun c1 h => bif_split h
   (fun c2 h => bif_split h
   (fun c3 h => no_some h)
   (fun c3 h => bif_split h
   (fun c4 h => bif_split h
   (fun c5 h => bif_split h
   (fun c6 h => ret_at hR _ h (fun n => bif Nat.beq n 2 then 399 else n) rfl rfl rfl (rn_tup ⟨(rn_agg ⟨(rn_int rfl), (rn_own_nils rfl), trivial⟩), (rn_int rfl), trivial⟩) rfl (entl_fresh (use_own rfl) (fresh_ok rfl) (entl_bor (use_lo rfl) rfl rfl entl_nil)))
   (fun c6 h => cond_yes c4 (cond_yes c5 (bif_split h
   (fun c7 h => stop_at hS _ h (fun n => bif Nat.beq n 1 then 1 else bif Nat.beq n 2 then 2 else n) rfl rfl rfl ⟨(rn_int rfl), ⟨(rn_int rfl), ⟨(rn_int rfl), ⟨(rn_ptr (use_own rfl) rfl rfl), ⟨(rn_int rfl), ⟨(rn_own (use_own rfl) rfl mkl_len), ⟨(rn_int rfl), trivial⟩⟩⟩⟩⟩⟩⟩ rfl (entl_b (use_own rfl) rfl (by simp) (rb_cells ⟨(rn_int rfl), rn_nils, trivial⟩) (entl_new (use_own rfl) rfl (Nat.le_of_eq mkl_len) (rcs_bool (fun _ hj => col_mkl (fun (t : Bool) => t) hj) rcs_nil) (entl_bor (use_lo rfl) rfl rfl entl_nil))))
   (fun c7 h => no_some h)))))
   (fun c5 h => no_some h))
   (fun c4 h => no_some h)))
   (fun c2 h => no_some h))
   (fun c1 h => no_some h))
   (fun c0 h => bif_split h
   (fun c1 h => ret_at hR _ h (fun n => bif Nat.beq n 2 then 4 else n) rfl rfl rfl (rn_tup ⟨(rn_agg ⟨(rn_int rfl), (rn_own (use_own rfl) rfl rfl), trivial⟩), (rn_int rfl), trivial⟩) rfl (entl_new (use_own rfl) rfl (Nat.le_of_eq rfl) (rcs_int (fun _ _ => rfl) rcs_nil) (entl_bor (use_lo rfl) rfl rfl entl_nil)))
   (fun c1 h => no_some h))
theorem a28 (hr : Int) (al nl ml : Nat) (tl : Nat → Int) (fa : Int) (nu : Int) (z : Int) {r : Rt28} (h : Goes ((q28 hr al nl ml tl fa nu z)) ((p28 hr al nl ml tl fa nu z)) r) : CallR Try.prog 28 [.agg [.int .i64 hr, .loose ⟨0, 1, al, 0⟩ nl], .int .i64 fa, .int .i64 nu, .int .i64 z] [[(0, (false, .cols ml [.int .i64 tl]))]] 1 ((V28 hr al nl ml tl fa nu z) r) ((fun r => [newL (1 + 1) ((N28 hr al nl ml tl fa nu z) r) ++ [(0, (false, .cols ml [.int .i64 tl]))]]) r) 400 ∧ ∃ F, Try.prog.funcs[28]? = some F ∧ F.body.isSome = true ∧ (F.name == "runtime.NumGoroutine") = false := by
  refine dec_calls (f := 28) (lo := 1) (hi := 400) (H := [[(0, (false, .cols ml [.int .i64 tl]))]]) (args := [.agg [.int .i64 hr, .loose ⟨0, 1, al, 0⟩ nl], .int .i64 fa, .int .i64 nu, .int .i64 z]) Try.envOk Try.mixed xT_ok ((I28 hr al nl ml tl fa nu z)) ((V28 hr al nl ml tl fa nu z)) (fun r => [newL (1 + 1) ((N28 hr al nl ml tl fa nu z) r) ++ [(0, (false, .cols ml [.int .i64 tl]))]]) (fn := mkFn Try.f28) (ts := [1, 2, 3, 8, 11, 12, 13]) (n := 400) rfl (by decide) (by simp) (names_of rfl) ?_ ?_ ?_ h
  · intro s; cases s <;> exact ⟨hd_ok _ _, by simp [I28], names_of rfl, Nat.le_of_ble_eq_true rfl⟩
  · intro Kst Kret x hS hR h
    exact Holds.eq (te28 cond Kst Kret hr al nl ml tl fa nu z) (be28 hr al nl ml tl fa nu z Kst Kret x hS hR h)
  · intro Kst Kret x hS hR s h
    cases s with
    | h0 x0 x1 => exact Holds.eq (t28_0 cond Kst Kret hr al nl ml tl fa nu z x0 x1) (b28_0 hr al nl ml tl fa nu z Kst Kret x hS hR x0 x1 h)
noncomputable def k28 : Con := ⟨28, [.agg [.plain (.int .i64), .list [.int .i64]], .one (.plain (.int .i64)), .one (.plain (.int .i64)), .one (.plain (.int .i64))], fun (x : (Int × (Nat × Nat × Nat × (Nat → Int) × Unit) × Unit) × Int × Int × Int × Unit) => (fun (hr : Int) (al nl ml : Nat) (tl : Nat → Int) (fa : Int) (nu : Int) (z : Int) => decide (al + nl ≤ ml ∧ nl ≤ 1000000)) x.1.1 x.1.2.1.1 x.1.2.1.2.1 x.1.2.1.2.2.1 x.1.2.1.2.2.2.1 x.2.1 x.2.2.1 x.2.2.2.1, fun (x : (Int × (Nat × Nat × Nat × (Nat → Int) × Unit) × Unit) × Int × Int × Int × Unit) => (fun (hr : Int) (al nl ml : Nat) (tl : Nat → Int) (fa : Int) (nu : Int) (z : Int) => (V28 hr al nl ml tl fa nu z) (S.injS hr nl (fun j => tl (j + al)) fa nu z)) x.1.1 x.1.2.1.1 x.1.2.1.2.1 x.1.2.1.2.2.1 x.1.2.1.2.2.2.1 x.2.1 x.2.2.1 x.2.2.2.1, fun (x : (Int × (Nat × Nat × Nat × (Nat → Int) × Unit) × Unit) × Int × Int × Int × Unit) => (fun (hr : Int) (al nl ml : Nat) (tl : Nat → Int) (fa : Int) (nu : Int) (z : Int) => (N28 hr al nl ml tl fa nu z) (S.injS hr nl (fun j => tl (j + al)) fa nu z)) x.1.1 x.1.2.1.1 x.1.2.1.2.1 x.1.2.1.2.2.1 x.1.2.1.2.2.2.1 x.2.1 x.2.2.1 x.2.2.2.1, fun _ _ => .dead⟩
theorem s28' (hr : Int) (al nl ml : Nat) (tl : Nat → Int) (fa : Int) (nu : Int) (z : Int) (hp : al + nl ≤ ml ∧ nl ≤ 1000000) (hh : 1 ≤ hr ∧ hr ≤ 2000) (ha : 0 ≤ fa ∧ fa < hr) (hn : 1 ≤ nu ∧ nu ≤ hr) (hz : 1 ≤ z ∧ z ≤ hr) : ∀ (k i : Nat) (L : List Bool), i + k = nu.toNat → L.length = hr.toNat → Comes (q28 hr al nl ml tl fa nu z) (.h0 (i : Int) L) (S.injK (S.injP hr fa z) i k L) := by
  obtain ⟨hp1, hp2⟩ := hp
  intro k
  induction k with
  | zero =>
    intro i L hi hL
    apply Comes.of
    show Goes _ _ _
    (first | rw [q28] | unfold q28)
    repeat' first
      | with_reducible refine goes_if (fun h => ?_) (fun h => ?_) <;> (try simp only [lim64, decide_eq_true_eq, decide_eq_false_iff_not, Int.toNat_natCast, toNat_pred, toNat_succ, Option.getD_some, Option.getD_none, Bool.not_eq_true', Bool.not_eq_false', Bool.and_eq_true, Bool.or_eq_true, Bool.and_eq_false_iff, Bool.or_eq_false_iff, bne_iff_ne, beq_iff_eq, bne_eq_false_iff_eq, beq_eq_false_iff_ne, ne_eq, not_and, Int.not_le, Int.not_lt, ge_iff_le, gt_iff_lt, Nat.not_lt, Nat.not_le, Bool.not_eq_true, Bool.not_eq_false, Bool.true_eq_false, Bool.false_eq_true, not_false_eq_true, not_true_eq_false] at h)
      | exact goes_none.mpr (by omega)
    all_goals first | (exfalso; omega) | exact goes_inr.mpr rfl
  | succ k ih =>
    intro i L hi hL
    have e0 : S.injK (S.injP hr fa z) i (k + 1) L = if S.at' L (Int.tmod (fa + (i : Int) * z) hr).toNat = true then (0, 12, []) else S.injK (S.injP hr fa z) (i + 1) k (S.mkl L.length fun j => bif j.beq (Int.tmod (fa + (i : Int) * z) hr).toNat then true else S.at' L j) := rfl
    have hm := mul_bnd (k := (i : Int)) (h := z) (by omega) (by omega)
    have htm := tmod_lt (n := fa + (i : Int) * z) (h := hr) (by omega)
    have htg : 0 ≤ Int.tmod (fa + (i : Int) * z) hr := tmod_ge (by omega)
    rw [e0]
    apply Comes.of
    show Goes _ _ _
    (first | rw [q28] | unfold q28)
    repeat' first
      | with_reducible refine goes_if (fun h => ?_) (fun h => ?_) <;> (try simp only [lim64, decide_eq_true_eq, decide_eq_false_iff_not, Int.toNat_natCast, toNat_pred, toNat_succ, Option.getD_some, Option.getD_none, Bool.not_eq_true', Bool.not_eq_false', Bool.and_eq_true, Bool.or_eq_true, Bool.and_eq_false_iff, Bool.or_eq_false_iff, bne_iff_ne, beq_iff_eq, bne_eq_false_iff_eq, beq_eq_false_iff_ne, ne_eq, not_and, Int.not_le, Int.not_lt, ge_iff_le, gt_iff_lt, Nat.not_lt, Nat.not_le, Bool.not_eq_true, Bool.not_eq_false, Bool.true_eq_false, Bool.false_eq_true, not_false_eq_true, not_true_eq_false] at h)
      | exact goes_none.mpr (by omega)
    all_goals first
      | (exfalso; omega)
      | (rw [if_pos (by assumption)]; exact goes_inr.mpr rfl)
      | (rw [if_neg (by simp only [Bool.not_eq_true]; assumption)]; exact ih (i + 1) _ (by omega) (mkl_len.trans hL))
theorem s28 (hr : Int) (al nl ml : Nat) (tl : Nat → Int) (fa : Int) (nu : Int) (z : Int) (hp : al + nl ≤ ml ∧ nl ≤ 1000000) : Goes ((q28 hr al nl ml tl fa nu z)) ((p28 hr al nl ml tl fa nu z)) (S.injS hr nl (fun j => tl (j + al)) fa nu z) := by
  unfold S.injS
  by_cases h0 : S.filE hr nl (fun j => tl (j + al)) = 0
  · rw [if_pos h0]
    obtain ⟨v1, v2, v3, v4⟩ := fil_ok h0
    by_cases hv : (0 ≤ fa ∧ fa < hr) ∧ (1 ≤ nu ∧ nu ≤ hr) ∧ 1 ≤ z ∧ z ≤ hr
    · rw [if_pos hv]
      have hm := s28' hr al nl ml tl fa nu z hp ⟨v1, v2⟩ hv.1 hv.2.1 hv.2.2 nu.toNat 0 (S.mkl hr.toNat fun j => S.inB (fun j => tl (j + al)) nl j) (by omega) mkl_len
      show Goes _ _ _
      unfold p28
      repeat' first
        | with_reducible refine goes_if (fun h => ?_) (fun h => ?_) <;> (try simp only [lim64, decide_eq_true_eq, decide_eq_false_iff_not, Int.toNat_natCast, toNat_pred, toNat_succ, Option.getD_some, Option.getD_none, Bool.not_eq_true', Bool.not_eq_false', Bool.and_eq_true, Bool.or_eq_true, Bool.and_eq_false_iff, Bool.or_eq_false_iff, bne_iff_ne, beq_iff_eq, bne_eq_false_iff_eq, beq_eq_false_iff_ne, ne_eq, not_and, Int.not_le, Int.not_lt, ge_iff_le, gt_iff_lt, Nat.not_lt, Nat.not_le, Bool.not_eq_true, Bool.not_eq_false, Bool.true_eq_false, Bool.false_eq_true, not_false_eq_true, not_true_eq_false] at h)
        | exact goes_none.mpr (by omega)
      all_goals first | (exfalso; omega) | exact hm
    · rw [if_neg hv]
      show Goes _ _ _
      unfold p28
      repeat' first
        | with_reducible refine goes_if (fun h => ?_) (fun h => ?_) <;> (try simp only [lim64, decide_eq_true_eq, decide_eq_false_iff_not, Int.toNat_natCast, toNat_pred, toNat_succ, Option.getD_some, Option.getD_none, Bool.not_eq_true', Bool.not_eq_false', Bool.and_eq_true, Bool.or_eq_true, Bool.and_eq_false_iff, Bool.or_eq_false_iff, bne_iff_ne, beq_iff_eq, bne_eq_false_iff_eq, beq_eq_false_iff_ne, ne_eq, not_and, Int.not_le, Int.not_lt, ge_iff_le, gt_iff_lt, Nat.not_lt, Nat.not_le, Bool.not_eq_true, Bool.not_eq_false, Bool.true_eq_false, Bool.false_eq_true, not_false_eq_true, not_true_eq_false] at h)
        | exact goes_none.mpr (by omega)
      all_goals first | (exfalso; omega) | rfl
  · rw [if_neg h0]
    show Goes _ _ _
    unfold p28
    repeat' first
      | with_reducible refine goes_if (fun h => ?_) (fun h => ?_) <;> (try simp only [lim64, decide_eq_true_eq, decide_eq_false_iff_not, Int.toNat_natCast, toNat_pred, toNat_succ, Option.getD_some, Option.getD_none, Bool.not_eq_true', Bool.not_eq_false', Bool.and_eq_true, Bool.or_eq_true, Bool.and_eq_false_iff, Bool.or_eq_false_iff, bne_iff_ne, beq_iff_eq, bne_eq_false_iff_eq, beq_eq_false_iff_ne, ne_eq, not_and, Int.not_le, Int.not_lt, ge_iff_le, gt_iff_lt, Nat.not_lt, Nat.not_le, Bool.not_eq_true, Bool.not_eq_false, Bool.true_eq_false, Bool.false_eq_true, not_false_eq_true, not_true_eq_false] at h)
      | exact goes_none.mpr (by omega)
    all_goals first | (exfalso; omega) | rfl

theorem k28_ok : k28.ok Try.prog := by
  intro x hx
  obtain ⟨⟨hr, ⟨al, nl, ml, tl, _⟩, _⟩, fa, nu, z, _⟩ := x
  obtain ⟨h1, h2⟩ := a28 hr al nl ml tl fa nu z (s28 hr al nl ml tl fa nu z (of_dec hx rfl))
  exact ⟨⟨400, (by decide : 1 + 1 + 1 ≤ 400), h1⟩, h2⟩

end Go.Ev
