/-
  Turn.
-/
import Derived.Test.YtejcmbcmhfejkaaC1x
namespace Go.Ev
open Go.Proofs
set_option linter.unusedVariables false
set_option linter.unusedSimpArgs false
set_option maxRecDepth 100000

namespace S
def turnT (h v : Int) (t : Nat → Int) (q : Nat) : Int := mdl (t q + v) h
def turnS (h : Int) (n : Nat) (t : Nat → Int) (v : Int) : Int × Int × List Int := if filE h n t = 0 then (if -1099511627776 ≤ v ∧ v ≤ 1099511627776 then (h, 0, posP (inB (turnT h v t) n) h.toNat) else (0, 6, [])) else (0, filE h n t, [])
end S
theorem posP_congr {p q : Nat → Bool} : ∀ {n : Nat}, (∀ j, j < n → p j = q j) → S.posP p n = S.posP q n
  | 0, _ => rfl
  | n + 1, h => by
    simp only [S.posP]
    rw [h n (Nat.lt_succ_self n), posP_congr fun j hj => h j (Nat.lt_succ_of_lt hj)]
inductive St31 where
  | h0 (x0 : Int) (x1 : List Bool)
abbrev Rt31 := Int × Int × List Int
noncomputable def V31 (hr : Int) (al nl ml : Nat) (tl : Nat → Int) (v : Int) (r : Rt31) : PV := PV.tup
 [PV.agg [PV.int IntKind.i64 r.1, PV.own (2) (1) (List.length r.2.2)],
 PV.int IntKind.i64 r.2.1]
noncomputable def N31 (hr : Int) (al nl ml : Nat) (tl : Nat → Int) (v : Int) (r : Rt31) : List Blk := [Blk.cols (List.length r.2.2) [Col.int IntKind.i64 fun (j : Nat) => S.at' r.2.2 j]]
noncomputable def I31 (hr : Int) (al nl ml : Nat) (tl : Nat → Int) (v : Int) : St31 → Hd
  | .h0 x0 x1 => ⟨hd Try.f31 0, [PV.int IntKind.i64 v, PV.ptr (PA.mk (1) (0) (0) (0)),
 PV.ptr (PA.mk (2) (0) (0) (0)),
 PV.own (3) (1) (List.length x1),
 PV.loose (PA.mk (0) (1) al (0)) nl, PV.int IntKind.i64 (↑nl : Int),
 PV.int IntKind.i64 x0], [[(1, (true, Blk.cells [PV.int IntKind.i64 hr, PV.loose (PA.mk (0) (1) al (0)) nl])), (2, (true, Blk.cells [PV.int IntKind.i64 (0 : Int), PV.nils])), (3, (true, Blk.cols (List.length x1) [Col.bool fun (j : Nat) => S.at' x1 j]))], [(0, (false, .cols ml [.int .i64 tl]))]], 4⟩
noncomputable def q31 (hr : Int) (al nl ml : Nat) (tl : Nat → Int) (v : Int) : St31 → Option (St31 ⊕ Rt31)
  | .h0 x0 x1 => bif (decide (x0 < (↑nl : Int)))
 then (bif (decide ((0 : Int) ≤ x0 ∧ x0 < (↑nl : Int)))
 then (bif (decide (Int.toNat x0 + al < ml))
 then (bif (lim IntKind.i64 (tl (Int.toNat x0 + al) + v))
 then (bif (decide (hr = (0 : Int)))
 then (none)
 else (bif (lim IntKind.i64 (Int.tmod (tl (Int.toNat x0 + al) + v) hr + hr))
 then (bif (decide
 ((0 : Int) ≤ Int.tmod (Int.tmod (tl (Int.toNat x0 + al) + v) hr + hr) hr ∧
 Int.tmod (Int.tmod (tl (Int.toNat x0 + al) + v) hr + hr) hr < (↑(List.length x1) : Int)))
 then (bif (decide (Int.toNat (Int.tmod (Int.tmod (tl (Int.toNat x0 + al) + v) hr + hr) hr) < List.length x1))
 then (bif (lim IntKind.i64 (x0 + (1 : Int)))
 then (some (.inl (.h0 (x0 + (1 : Int)) (S.mkl (List.length x1) fun (j : Nat) =>
 bif Nat.beq j (Int.toNat (Int.tmod (Int.tmod (tl (Int.toNat x0 + al) + v) hr + hr) hr)) then true
 else S.at' x1 j))))
 else (none))
 else (none))
 else (none))
 else (none)))
 else (none))
 else (none))
 else (none))
 else (bif (decide (0 + List.length x1 ≤ List.length x1 ∧ List.length x1 ≤ 999999))
 then (some (.inr ((↑(List.length x1) : Int), (0 : Int), S.posP (fun (j : Nat) => S.at' x1 j) (List.length x1))))
 else (none))
noncomputable def p31 (hr : Int) (al nl ml : Nat) (tl : Nat → Int) (v : Int) : Option (St31 ⊕ Rt31) := bif (decide (al + nl ≤ ml ∧ nl ≤ 1000000))
 then (bif ((S.filE hr nl fun (j : Nat) => tl (j + al)) != (0 : Int))
 then (some (.inr ((0 : Int), S.filE hr nl fun (j : Nat) => tl (j + al), [])))
 else (bif (decide (v < (-1099511627776 : Int)))
 then (some (.inr ((0 : Int), (6 : Int), [])))
 else (bif (decide (v > (1099511627776 : Int)))
 then (some (.inr ((0 : Int), (6 : Int), [])))
 else (bif (decide ((0 : Int) ≤ hr ∧ hr ≤ hr ∧ hr ≤ (1000000 : Int)))
 then (some (.inl (.h0 ((0 : Int)) (S.mkl (Int.toNat hr) fun (j : Nat) => false))))
 else (none)))))
 else (none)
noncomputable def Te31 (test : Bool → Prop → Prop → Prop) (Kst : KS) (Kret : KR) (hr : Int) (al nl ml : Nat) (tl : Nat → Int) (v : Int) : Prop :=
  test (decide (al + nl ≤ ml ∧ nl ≤ 1000000))
 (test ((S.filE hr nl fun (j : Nat) => tl (j + al)) != (0 : Int))
 (Kret (PV.tup
 [PV.agg [PV.int IntKind.i64 (0 : Int), PV.nils],
 PV.int IntKind.i64 (S.filE hr nl fun (j : Nat) => tl (j + al))]) ([[(0, false, Blk.cols ml [Col.int IntKind.i64 tl])]]) (4))
 (test (decide (v < (-1099511627776 : Int)))
 (Kret (PV.tup
 [PV.agg [PV.int IntKind.i64 (0 : Int), PV.nils], PV.int IntKind.i64 (6 : Int)]) ([[(0, false, Blk.cols ml [Col.int IntKind.i64 tl])]]) (4))
 (test (decide (v > (1099511627776 : Int)))
 (Kret (PV.tup
 [PV.agg [PV.int IntKind.i64 (0 : Int), PV.nils], PV.int IntKind.i64 (6 : Int)]) ([[(0, false, Blk.cols ml [Col.int IntKind.i64 tl])]]) (4))
 (test (decide ((0 : Int) ≤ hr ∧ hr ≤ hr ∧ hr ≤ (1000000 : Int)))
 (Kst (hd Try.f31 0) ([PV.int IntKind.i64 v, PV.ptr (PA.mk (1) (0) (0) (0)),
 PV.ptr (PA.mk (2) (0) (0) (0)),
 PV.own (4) (1) (Int.toNat hr),
 PV.loose (PA.mk (0) (1) al (0)) nl, PV.int IntKind.i64 (↑nl : Int),
 PV.int IntKind.i64 (0 : Int)]) ([[(0, false, Blk.cols ml [Col.int IntKind.i64 tl]),
 (4, true, Blk.cols (Int.toNat hr) [Col.bool fun (x : Nat) => false]),
 (2, true, Blk.cells [PV.int IntKind.i64 (0 : Int), PV.nils]),
 (1, true,
 Blk.cells
 [PV.int IntKind.i64 hr, PV.loose (PA.mk (0) (1) al (0)) nl])]]) (5))
 (False)))))
 (False)
set_option maxRecDepth 100000 in
theorem te31 (test : Bool → Prop → Prop → Prop) (Kst : KS) (Kret : KR) (hr : Int) (al nl ml : Nat) (tl : Nat → Int) (v : Int) : run test Try.env true (xT test) true 400 ⟨31, [.cd (mkFn Try.f31).body], argT 0 [.agg [.int .i64 hr, .loose ⟨0, 1, al, 0⟩ nl], .int .i64 v], [[], [(0, (false, .cols ml [.int .i64 tl]))]], 1⟩ (proj 1 [1, 2, 4, 7, 27, 28, 29] Kst Kret) =
  Te31 test Kst Kret hr al nl ml tl v := by kernel_rfl
noncomputable def T31_0 (test : Bool → Prop → Prop → Prop) (Kst : KS) (Kret : KR) (hr : Int) (al nl ml : Nat) (tl : Nat → Int) (v : Int) (x0 : Int) (x1 : List Bool) : Prop :=
  test (decide (x0 < (↑nl : Int)))
 (test (decide ((0 : Int) ≤ x0 ∧ x0 < (↑nl : Int)))
 (test (decide (Int.toNat x0 + al < ml))
 (test (lim IntKind.i64 (tl (Int.toNat x0 + al) + v))
 (test (decide (hr = (0 : Int)))
 (False)
 (test (lim IntKind.i64 (Int.tmod (tl (Int.toNat x0 + al) + v) hr + hr))
 (test (decide (hr = (0 : Int)))
 (False)
 (test (decide
 ((0 : Int) ≤ Int.tmod (Int.tmod (tl (Int.toNat x0 + al) + v) hr + hr) hr ∧
 Int.tmod (Int.tmod (tl (Int.toNat x0 + al) + v) hr + hr) hr < (↑(List.length x1) : Int)))
 (test (decide (Int.toNat (Int.tmod (Int.tmod (tl (Int.toNat x0 + al) + v) hr + hr) hr) < List.length x1))
 (test (lim IntKind.i64 (x0 + (1 : Int)))
 (Kst (hd Try.f31 0) ([PV.int IntKind.i64 v, PV.ptr (PA.mk (1) (0) (0) (0)),
 PV.ptr (PA.mk (2) (0) (0) (0)),
 PV.own (3) (1) (List.length x1),
 PV.loose (PA.mk (0) (1) al (0)) nl, PV.int IntKind.i64 (↑nl : Int),
 PV.int IntKind.i64 (x0 + (1 : Int))]) ([[(0, false, Blk.cols ml [Col.int IntKind.i64 tl]),
 (3, true,
 Blk.cols (List.length x1)
 [Col.bool fun (j : Nat) =>
 bif Nat.beq j (Int.toNat (Int.tmod (Int.tmod (tl (Int.toNat x0 + al) + v) hr + hr) hr)) then true
 else S.at' x1 j]),
 (2, true, Blk.cells [PV.int IntKind.i64 (0 : Int), PV.nils]),
 (1, true,
 Blk.cells
 [PV.int IntKind.i64 hr, PV.loose (PA.mk (0) (1) al (0)) nl])]]) (4))
 (False))
 (False))
 (False)))
 (False)))
 (False))
 (False))
 (False))
 (test (decide (0 + List.length x1 ≤ List.length x1 ∧ List.length x1 ≤ 999999))
 (Kret (PV.tup
 [PV.agg
 [PV.int IntKind.i64 (↑(List.length x1) : Int),
 PV.own (5) (1)
 (List.length (S.posP (fun (j : Nat) => S.at' x1 j) (List.length x1)))],
 PV.int IntKind.i64 (0 : Int)]) ([[(0, false, Blk.cols ml [Col.int IntKind.i64 tl]),
 (5, true,
 Blk.cols (List.length (S.posP (fun (j : Nat) => S.at' x1 j) (List.length x1)))
 [Col.int IntKind.i64 fun (j : Nat) =>
 S.at' (S.posP (fun (j : Nat) => S.at' x1 j) (List.length x1)) j])]]) (6))
 (False))
set_option maxRecDepth 100000 in
theorem t31_0 (test : Bool → Prop → Prop → Prop) (Kst : KS) (Kret : KR) (hr : Int) (al nl ml : Nat) (tl : Nat → Int) (v : Int) (x0 : Int) (x1 : List Bool) : run test Try.env true (xT test) true 400 ⟨31, hd Try.f31 0, zipT [1, 2, 4, 7, 27, 28, 29] [PV.int IntKind.i64 v, PV.ptr (PA.mk (1) (0) (0) (0)),
 PV.ptr (PA.mk (2) (0) (0) (0)),
 PV.own (3) (1) (List.length x1),
 PV.loose (PA.mk (0) (1) al (0)) nl, PV.int IntKind.i64 (↑nl : Int),
 PV.int IntKind.i64 x0], [[(1, (true, Blk.cells [PV.int IntKind.i64 hr, PV.loose (PA.mk (0) (1) al (0)) nl])), (2, (true, Blk.cells [PV.int IntKind.i64 (0 : Int), PV.nils])), (3, (true, Blk.cols (List.length x1) [Col.bool fun (j : Nat) => S.at' x1 j]))], [(0, (false, .cols ml [.int .i64 tl]))]], 4⟩ (proj 1 [1, 2, 4, 7, 27, 28, 29] Kst Kret) =
  T31_0 test Kst Kret hr al nl ml tl v x0 x1 := by kernel_rfl
attribute [local irreducible] Int.subNatNat in
set_option maxRecDepth 100000 in
theorem be31 (hr : Int) (al nl ml : Nat) (tl : Nat → Int) (v : Int) (Kst : KS) (Kret : KR) (x : St31 ⊕ Rt31) (hS : HS 1 400 ((I31 hr al nl ml tl v)) Kst x) (hR : HR 1 400 ((V31 hr al nl ml tl v)) (fun r => [newL (1 + 1) ((N31 hr al nl ml tl v) r) ++ [(0, (false, .cols ml [.int .i64 tl]))]]) Kret x) (h : (bif (decide (al + nl ≤ ml ∧ nl ≤ 1000000))
 then (bif ((S.filE hr nl fun (j : Nat) => tl (j + al)) != (0 : Int))
 then (some (.inr ((0 : Int), S.filE hr nl fun (j : Nat) => tl (j + al), [])))
 else (bif (decide (v < (-1099511627776 : Int)))
 then (some (.inr ((0 : Int), (6 : Int), [])))
 else (bif (decide (v > (1099511627776 : Int)))
 then (some (.inr ((0 : Int), (6 : Int), [])))
 else (bif (decide ((0 : Int) ≤ hr ∧ hr ≤ hr ∧ hr ≤ (1000000 : Int)))
 then (some (.inl (.h0 ((0 : Int)) (S.mkl (Int.toNat hr) fun (j : Nat) => false))))
 else (none)))))
 else (none) : Option (St31 ⊕ Rt31)) = some x) : Te31 cond Kst Kret hr al nl ml tl v := by
  unfold Te31
  exact bif_split h
   (fun c0 h => bif_split h
   (fun c1 h => ret_at hR _ h (fun n => bif Nat.beq n 2 then 399 else n) rfl rfl rfl (rn_tup ⟨(rn_agg ⟨(rn_int rfl), (rn_own_nils rfl), trivial⟩), (rn_int rfl), trivial⟩) rfl (entl_fresh (use_own rfl) (fresh_ok rfl) (entl_bor (use_lo rfl) rfl rfl entl_nil)))
   (fun c1 h => bif_split h
   (fun c2 h => ret_at hR _ h (fun n => bif Nat.beq n 2 then 399 else n) rfl rfl rfl (rn_tup ⟨(rn_agg ⟨(rn_int rfl), (rn_own_nils rfl), trivial⟩), (rn_int rfl), trivial⟩) rfl (entl_fresh (use_own rfl) (fresh_ok rfl) (entl_bor (use_lo rfl) rfl rfl entl_nil)))
   (fun c2 h => bif_split h
   (fun c3 h => ret_at hR _ h (fun n => bif Nat.beq n 2 then 399 else n) rfl rfl rfl (rn_tup ⟨(rn_agg ⟨(rn_int rfl), (rn_own_nils rfl), trivial⟩), (rn_int rfl), trivial⟩) rfl (entl_fresh (use_own rfl) (fresh_ok rfl) (entl_bor (use_lo rfl) rfl rfl entl_nil)))
   (fun c3 h => bif_split h
   (fun c4 h => stop_at hS _ h (fun n => bif Nat.beq n 1 then 1 else bif Nat.beq n 2 then 2 else bif Nat.beq n 3 then 4 else n) rfl rfl rfl ⟨(rn_int rfl), ⟨(rn_ptr (use_own rfl) rfl rfl), ⟨(rn_ptr (use_own rfl) rfl rfl), ⟨(rn_own (use_own rfl) rfl mkl_len), ⟨(rn_loose (use_lo rfl) rfl rfl rfl), ⟨(rn_int rfl), ⟨(rn_int rfl), trivial⟩⟩⟩⟩⟩⟩⟩ rfl (entl_b (use_own rfl) rfl (by simp) (rb_cells ⟨(rn_int rfl), (rn_loose (use_lo rfl) rfl rfl rfl), trivial⟩) (entl_b (use_own rfl) rfl (by simp) (rb_cells ⟨(rn_int rfl), rn_nils, trivial⟩) (entl_new (use_own rfl) rfl (Nat.le_of_eq mkl_len) (rcs_bool (fun _ hj => col_mkl (fun (t : Bool) => t) hj) rcs_nil) (entl_bor (use_lo rfl) rfl rfl entl_nil)))))
   (fun c4 h => no_some h)))))
   (fun c0 h => no_some h)
attribute [local irreducible] Int.subNatNat in
set_option maxRecDepth 100000 in
theorem b31_0 (hr : Int) (al nl ml : Nat) (tl : Nat → Int) (v : Int) (Kst : KS) (Kret : KR) (x : St31 ⊕ Rt31) (hS : HS 1 400 ((I31 hr al nl ml tl v)) Kst x) (hR : HR 1 400 ((V31 hr al nl ml tl v)) (fun r => [newL (1 + 1) ((N31 hr al nl ml tl v) r) ++ [(0, (false, .cols ml [.int .i64 tl]))]]) Kret x) (x0 : Int) (x1 : List Bool) (h : (bif (decide (x0 < (↑nl : Int)))
 then (bif (decide ((0 : Int) ≤ x0 ∧ x0 < (↑nl : Int)))
 then (bif (decide (Int.toNat x0 + al < ml))
 then (bif (lim IntKind.i64 (tl (Int.toNat x0 + al) + v))
 then (bif (decide (hr = (0 : Int)))
 then (none)
 else (bif (lim IntKind.i64 (Int.tmod (tl (Int.toNat x0 + al) + v) hr + hr))
 then (bif (decide
 ((0 : Int) ≤ Int.tmod (Int.tmod (tl (Int.toNat x0 + al) + v) hr + hr) hr ∧
 Int.tmod (Int.tmod (tl (Int.toNat x0 + al) + v) hr + hr) hr < (↑(List.length x1) : Int)))
 then (bif (decide (Int.toNat (Int.tmod (Int.tmod (tl (Int.toNat x0 + al) + v) hr + hr) hr) < List.length x1))
 then (bif (lim IntKind.i64 (x0 + (1 : Int)))
 then (some (.inl (.h0 (x0 + (1 : Int)) (S.mkl (List.length x1) fun (j : Nat) =>
 bif Nat.beq j (Int.toNat (Int.tmod (Int.tmod (tl (Int.toNat x0 + al) + v) hr + hr) hr)) then true
 else S.at' x1 j))))
 else (none))
 else (none))
 else (none))
 else (none)))
 else (none))
 else (none))
 else (none))
 else (bif (decide (0 + List.length x1 ≤ List.length x1 ∧ List.length x1 ≤ 999999))
 then (some (.inr ((↑(List.length x1) : Int), (0 : Int), S.posP (fun (j : Nat) => S.at' x1 j) (List.length x1))))
 else (none)) : Option (St31 ⊕ Rt31)) = some x) : T31_0 cond Kst Kret hr al nl ml tl v x0 x1 := by
  unfold T31_0
  exact bif_split h
   (fun c0 h => bif_split h
   (fun c1 h => bif_split h
   (fun c2 h => bif_split h
   (fun c3 h => bif_split h
   (fun c4 h => no_some h)
   (fun c4 h => bif_split h
   (fun c5 h => cond_no c4 (bif_split h
   (fun c6 h => bif_split h
   (fun c7 h => bif_split h
   (fun c8 h => stop_at hS _ h (fun n => bif Nat.beq n 1 then 1 else bif Nat.beq n 2 then 2 else bif Nat.beq n 3 then 3 else n) rfl rfl rfl ⟨(rn_int rfl), ⟨(rn_ptr (use_own rfl) rfl rfl), ⟨(rn_ptr (use_own rfl) rfl rfl), ⟨(rn_own (use_own rfl) rfl mkl_len), ⟨(rn_loose (use_lo rfl) rfl rfl rfl), ⟨(rn_int rfl), ⟨(rn_int rfl), trivial⟩⟩⟩⟩⟩⟩⟩ rfl (entl_b (use_own rfl) rfl (by simp) (rb_cells ⟨(rn_int rfl), (rn_loose (use_lo rfl) rfl rfl rfl), trivial⟩) (entl_b (use_own rfl) rfl (by simp) (rb_cells ⟨(rn_int rfl), rn_nils, trivial⟩) (entl_new (use_own rfl) rfl (Nat.le_of_eq mkl_len) (rcs_bool (fun _ hj => col_mkl (fun (t : Bool) => t) hj) rcs_nil) (entl_bor (use_lo rfl) rfl rfl entl_nil)))))
   (fun c8 h => no_some h))
   (fun c7 h => no_some h))
   (fun c6 h => no_some h)))
   (fun c5 h => no_some h)))
   (fun c3 h => no_some h))
   (fun c2 h => no_some h))
   (fun c1 h => no_some h))
   (fun c0 h => bif_split h
   (fun c1 h => ret_at hR _ h (fun n => bif Nat.beq n 2 then 5 else n) rfl rfl rfl (rn_tup ⟨(rn_agg ⟨(rn_int rfl), (rn_own (use_own rfl) rfl rfl), trivial⟩), (rn_int rfl), trivial⟩) rfl (entl_new (use_own rfl) rfl (Nat.le_of_eq rfl) (rcs_int (fun _ _ => rfl) rcs_nil) (entl_bor (use_lo rfl) rfl rfl entl_nil)))
   (fun c1 h => no_some h))
theorem a31 (hr : Int) (al nl ml : Nat) (tl : Nat → Int) (v : Int) {r : Rt31} (h : Goes ((q31 hr al nl ml tl v)) ((p31 hr al nl ml tl v)) r) : CallR Try.prog 31 [.agg [.int .i64 hr, .loose ⟨0, 1, al, 0⟩ nl], .int .i64 v] [[(0, (false, .cols ml [.int .i64 tl]))]] 1 ((V31 hr al nl ml tl v) r) ((fun r => [newL (1 + 1) ((N31 hr al nl ml tl v) r) ++ [(0, (false, .cols ml [.int .i64 tl]))]]) r) 400 ∧ ∃ F, Try.prog.funcs[31]? = some F ∧ F.body.isSome = true ∧ (F.name == "runtime.NumGoroutine") = false := by
  refine dec_calls (f := 31) (lo := 1) (hi := 400) (H := [[(0, (false, .cols ml [.int .i64 tl]))]]) (args := [.agg [.int .i64 hr, .loose ⟨0, 1, al, 0⟩ nl], .int .i64 v]) Try.envOk Try.mixed xT_ok ((I31 hr al nl ml tl v)) ((V31 hr al nl ml tl v)) (fun r => [newL (1 + 1) ((N31 hr al nl ml tl v) r) ++ [(0, (false, .cols ml [.int .i64 tl]))]]) (fn := mkFn Try.f31) (ts := [1, 2, 4, 7, 27, 28, 29]) (n := 400) rfl (by decide) (by simp) (names_of rfl) ?_ ?_ ?_ h
  · intro s; cases s <;> exact ⟨hd_ok _ _, by simp [I31], names_of rfl, Nat.le_of_ble_eq_true rfl⟩
  · intro Kst Kret x hS hR h
    exact Holds.eq (te31 cond Kst Kret hr al nl ml tl v) (be31 hr al nl ml tl v Kst Kret x hS hR h)
  · intro Kst Kret x hS hR s h
    cases s with
    | h0 x0 x1 => exact Holds.eq (t31_0 cond Kst Kret hr al nl ml tl v x0 x1) (b31_0 hr al nl ml tl v Kst Kret x hS hR x0 x1 h)
noncomputable def k31 : Con := ⟨31, [.agg [.plain (.int .i64), .list [.int .i64]], .one (.plain (.int .i64))], fun (x : (Int × (Nat × Nat × Nat × (Nat → Int) × Unit) × Unit) × Int × Unit) => (fun (hr : Int) (al nl ml : Nat) (tl : Nat → Int) (v : Int) => decide (al + nl ≤ ml ∧ nl ≤ 1000000)) x.1.1 x.1.2.1.1 x.1.2.1.2.1 x.1.2.1.2.2.1 x.1.2.1.2.2.2.1 x.2.1, fun (x : (Int × (Nat × Nat × Nat × (Nat → Int) × Unit) × Unit) × Int × Unit) => (fun (hr : Int) (al nl ml : Nat) (tl : Nat → Int) (v : Int) => (V31 hr al nl ml tl v) (S.turnS hr nl (fun j => tl (j + al)) v)) x.1.1 x.1.2.1.1 x.1.2.1.2.1 x.1.2.1.2.2.1 x.1.2.1.2.2.2.1 x.2.1, fun (x : (Int × (Nat × Nat × Nat × (Nat → Int) × Unit) × Unit) × Int × Unit) => (fun (hr : Int) (al nl ml : Nat) (tl : Nat → Int) (v : Int) => (N31 hr al nl ml tl v) (S.turnS hr nl (fun j => tl (j + al)) v)) x.1.1 x.1.2.1.1 x.1.2.1.2.1 x.1.2.1.2.2.1 x.1.2.1.2.2.2.1 x.2.1, fun _ _ => .dead⟩
theorem s31' (hr : Int) (al nl ml : Nat) (tl : Nat → Int) (v : Int) (hp : al + nl ≤ ml ∧ nl ≤ 1000000 ∧ S.filE hr nl (fun j => tl (j + al)) = 0 ∧ -1099511627776 ≤ v ∧ v ≤ 1099511627776) : ∀ (k i : Nat) (L : List Bool), i + k = nl → Holds (L = S.mkl hr.toNat fun j => S.inB (S.turnT hr v (fun j => tl (j + al))) i j) → Comes (q31 hr al nl ml tl v) (.h0 (i : Int) L) (((hr, 0, S.posP (S.inB (S.turnT hr v (fun j => tl (j + al))) nl) hr.toNat) : Int × Int × List Int)) := by
  obtain ⟨hp1, hp2, hp3, hp4, hp5⟩ := hp
  obtain ⟨v1, v2, v3, v4⟩ := fil_ok hp3
  intro k
  induction k with
  | zero =>
    intro i L hi eL
    have hL : L.length = hr.toNat := by rw [eL.get]; exact mkl_len
    apply Comes.of
    show Goes _ _ _
    (first | rw [q31] | unfold q31)
    repeat' first
      | with_reducible refine goes_if (fun h => ?_) (fun h => ?_) <;> (try simp only [lim64, imp_false, decide_eq_true_eq, decide_eq_false_iff_not, Int.toNat_natCast, toNat_pred, toNat_succ, Option.getD_some, Option.getD_none, Bool.not_eq_true', Bool.not_eq_false', Bool.and_eq_true, Bool.or_eq_true, Bool.and_eq_false_iff, Bool.or_eq_false_iff, bne_iff_ne, beq_iff_eq, bne_eq_false_iff_eq, beq_eq_false_iff_ne, ne_eq, not_and, Int.not_le, Int.not_lt, ge_iff_le, gt_iff_lt, Nat.not_lt, Nat.not_le, Bool.not_eq_true, Bool.not_eq_false, Bool.true_eq_false, Bool.false_eq_true, not_false_eq_true, not_true_eq_false] at h)
      | exact goes_none.mpr (by omega)
    all_goals first | (exfalso; omega) | (obtain rfl : nl = i := (by omega);  (refine goes_inr.mpr ?_; rw [hL, show ((hr.toNat : Nat) : Int) = hr by omega, posP_congr (q := S.inB (S.turnT hr v (fun j => tl (j + al))) nl) (fun j hj => by rw [eL.get, at_mkl hj])]))
  | succ k ih =>
    intro i L hi eL
    have hL : L.length = hr.toNat := by rw [eL.get]; exact mkl_len
    have b1 := v3 i (by omega)
    have htm := tmod_lt (n := tl (i + al) + v) (h := hr) (by omega)
    have hmd := mdl_ok (n := tl (i + al) + v) (h := hr) (by omega)
    unfold S.mdl at hmd
    apply Comes.of
    show Goes _ _ _
    (first | rw [q31] | unfold q31)
    repeat' first
      | with_reducible refine goes_if (fun h => ?_) (fun h => ?_) <;> (try simp only [lim64, imp_false, decide_eq_true_eq, decide_eq_false_iff_not, Int.toNat_natCast, toNat_pred, toNat_succ, Option.getD_some, Option.getD_none, Bool.not_eq_true', Bool.not_eq_false', Bool.and_eq_true, Bool.or_eq_true, Bool.and_eq_false_iff, Bool.or_eq_false_iff, bne_iff_ne, beq_iff_eq, bne_eq_false_iff_eq, beq_eq_false_iff_ne, ne_eq, not_and, Int.not_le, Int.not_lt, ge_iff_le, gt_iff_lt, Nat.not_lt, Nat.not_le, Bool.not_eq_true, Bool.not_eq_false, Bool.true_eq_false, Bool.false_eq_true, not_false_eq_true, not_true_eq_false] at h)
      | exact goes_none.mpr (by omega)
    all_goals first
      | (exfalso; omega)
      | (refine ih (i + 1) _ (by omega) ⟨?_⟩; rw [hL, eL.get]; refine mkl_congr fun j hj => ?_; rw [at_mkl hj]; exact inB_step (t := S.turnT hr v (fun j => tl (j + al))) (x := (Int.tmod (Int.tmod (tl (i + al) + v) hr + hr) hr).toNat) hmd.1 rfl)
      | (refine ih (i + 1) _ (by omega) ⟨?_⟩ <;> (skip))
theorem s31 (hr : Int) (al nl ml : Nat) (tl : Nat → Int) (v : Int) (hp : al + nl ≤ ml ∧ nl ≤ 1000000) : Goes ((q31 hr al nl ml tl v)) ((p31 hr al nl ml tl v)) (S.turnS hr nl (fun j => tl (j + al)) v) := by
  unfold S.turnS
  by_cases h0 : S.filE hr nl (fun j => tl (j + al)) = 0
  · rw [if_pos h0]
    by_cases hv : -1099511627776 ≤ v ∧ v ≤ 1099511627776
    · rw [if_pos hv]
      have hm := s31' hr al nl ml tl v ⟨hp.1, hp.2, h0, hv⟩ nl 0 (S.mkl hr.toNat fun j => false) (by omega) ⟨mkl_congr fun j hj => rfl⟩
      obtain ⟨v1, v2, v3, v4⟩ := fil_ok h0
      show Goes _ _ _
      unfold p31
      repeat' first
        | with_reducible refine goes_if (fun h => ?_) (fun h => ?_) <;> (try simp only [lim64, imp_false, decide_eq_true_eq, decide_eq_false_iff_not, Int.toNat_natCast, toNat_pred, toNat_succ, Option.getD_some, Option.getD_none, Bool.not_eq_true', Bool.not_eq_false', Bool.and_eq_true, Bool.or_eq_true, Bool.and_eq_false_iff, Bool.or_eq_false_iff, bne_iff_ne, beq_iff_eq, bne_eq_false_iff_eq, beq_eq_false_iff_ne, ne_eq, not_and, Int.not_le, Int.not_lt, ge_iff_le, gt_iff_lt, Nat.not_lt, Nat.not_le, Bool.not_eq_true, Bool.not_eq_false, Bool.true_eq_false, Bool.false_eq_true, not_false_eq_true, not_true_eq_false] at h)
        | exact goes_none.mpr (by omega)
      all_goals first | (exfalso; omega) | exact hm
    · rw [if_neg hv]
      obtain ⟨v1, v2, v3, v4⟩ := fil_ok h0
      show Goes _ _ _
      unfold p31
      repeat' first
        | with_reducible refine goes_if (fun h => ?_) (fun h => ?_) <;> (try simp only [lim64, imp_false, decide_eq_true_eq, decide_eq_false_iff_not, Int.toNat_natCast, toNat_pred, toNat_succ, Option.getD_some, Option.getD_none, Bool.not_eq_true', Bool.not_eq_false', Bool.and_eq_true, Bool.or_eq_true, Bool.and_eq_false_iff, Bool.or_eq_false_iff, bne_iff_ne, beq_iff_eq, bne_eq_false_iff_eq, beq_eq_false_iff_ne, ne_eq, not_and, Int.not_le, Int.not_lt, ge_iff_le, gt_iff_lt, Nat.not_lt, Nat.not_le, Bool.not_eq_true, Bool.not_eq_false, Bool.true_eq_false, Bool.false_eq_true, not_false_eq_true, not_true_eq_false] at h)
        | exact goes_none.mpr (by omega)
      all_goals first | (exfalso; omega) | rfl
  · rw [if_neg h0]
    show Goes _ _ _
    unfold p31
    repeat' first
      | with_reducible refine goes_if (fun h => ?_) (fun h => ?_) <;> (try simp only [lim64, imp_false, decide_eq_true_eq, decide_eq_false_iff_not, Int.toNat_natCast, toNat_pred, toNat_succ, Option.getD_some, Option.getD_none, Bool.not_eq_true', Bool.not_eq_false', Bool.and_eq_true, Bool.or_eq_true, Bool.and_eq_false_iff, Bool.or_eq_false_iff, bne_iff_ne, beq_iff_eq, bne_eq_false_iff_eq, beq_eq_false_iff_ne, ne_eq, not_and, Int.not_le, Int.not_lt, ge_iff_le, gt_iff_lt, Nat.not_lt, Nat.not_le, Bool.not_eq_true, Bool.not_eq_false, Bool.true_eq_false, Bool.false_eq_true, not_false_eq_true, not_true_eq_false] at h)
      | exact goes_none.mpr (by omega)
    all_goals first | (exfalso; omega) | rfl

theorem k31_ok : k31.ok Try.prog := by
  intro x hx
  obtain ⟨⟨hr, ⟨al, nl, ml, tl, _⟩, _⟩, v, _⟩ := x
  obtain ⟨h1, h2⟩ := a31 hr al nl ml tl v (s31 hr al nl ml tl v (of_dec hx rfl))
  exact ⟨⟨400, (by decide : 1 + 1 + 1 ≤ 400), h1⟩, h2⟩
inductive St32 where
  | h0 (x0 : Int) (x1 : List Bool)
abbrev Rt32 := Int × Int × List Int
noncomputable def V32 (hr : Int) (al nl ml : Nat) (tl : Nat → Int) (v : Int) (r : Rt32) : PV := PV.tup
 [PV.agg [PV.int IntKind.i64 r.1, PV.own (2) (1) (List.length r.2.2)],
 PV.int IntKind.i64 r.2.1]
noncomputable def N32 (hr : Int) (al nl ml : Nat) (tl : Nat → Int) (v : Int) (r : Rt32) : List Blk := [Blk.cols (List.length r.2.2) [Col.int IntKind.i64 fun (j : Nat) => S.at' r.2.2 j]]
noncomputable def I32 (hr : Int) (al nl ml : Nat) (tl : Nat → Int) (v : Int) : St32 → Hd
  | .h0 x0 x1 => ⟨hd Try.f32 0, [PV.int IntKind.i64 v, PV.ptr (PA.mk (1) (0) (0) (0)),
 PV.ptr (PA.mk (2) (0) (0) (0)), PV.int IntKind.i64 hr,
 PV.own (3) (1) (List.length x1), PV.int IntKind.i64 x0], [[(1, (true, Blk.cells [PV.int IntKind.i64 hr, PV.loose (PA.mk (0) (1) al (0)) nl])), (2, (true, Blk.cells [PV.int IntKind.i64 (0 : Int), PV.nils])), (3, (true, Blk.cols (List.length x1) [Col.bool fun (j : Nat) => S.at' x1 j]))], [(0, (false, .cols ml [.int .i64 tl]))]], 4⟩
noncomputable def q32 (hr : Int) (al nl ml : Nat) (tl : Nat → Int) (v : Int) : St32 → Option (St32 ⊕ Rt32)
  | .h0 x0 x1 => bif (decide (x0 < (↑nl : Int)))
 then (bif (decide ((0 : Int) ≤ x0 ∧ x0 < (↑nl : Int)))
 then (bif (decide (Int.toNat x0 + al < ml))
 then (bif (lim IntKind.i64 (tl (Int.toNat x0 + al) + v))
 then (bif (decide (hr = (0 : Int)))
 then (none)
 else (bif (lim IntKind.i64 (Int.tmod (tl (Int.toNat x0 + al) + v) hr + hr))
 then (bif (decide
 ((0 : Int) ≤ Int.tmod (Int.tmod (tl (Int.toNat x0 + al) + v) hr + hr) hr ∧
 Int.tmod (Int.tmod (tl (Int.toNat x0 + al) + v) hr + hr) hr < (↑(List.length x1) : Int)))
 then (bif (decide (Int.toNat (Int.tmod (Int.tmod (tl (Int.toNat x0 + al) + v) hr + hr) hr) < List.length x1))
 then (bif (lim IntKind.i64 (x0 + (1 : Int)))
 then (some (.inl (.h0 (x0 + (1 : Int)) (S.mkl (List.length x1) fun (j : Nat) =>
 bif Nat.beq j (Int.toNat (Int.tmod (Int.tmod (tl (Int.toNat x0 + al) + v) hr + hr) hr)) then true
 else S.at' x1 j))))
 else (none))
 else (none))
 else (none))
 else (none)))
 else (none))
 else (none))
 else (none))
 else (bif (decide (0 + List.length x1 ≤ List.length x1 ∧ List.length x1 ≤ 999999))
 then (some (.inr ((↑(List.length x1) : Int), (0 : Int), S.posP (fun (j : Nat) => S.at' x1 j) (List.length x1))))
 else (none))
noncomputable def p32 (hr : Int) (al nl ml : Nat) (tl : Nat → Int) (v : Int) : Option (St32 ⊕ Rt32) := bif (decide (al + nl ≤ ml ∧ nl ≤ 1000000))
 then (bif ((S.filE hr nl fun (j : Nat) => tl (j + al)) != (0 : Int))
 then (some (.inr ((0 : Int), S.filE hr nl fun (j : Nat) => tl (j + al), [])))
 else (bif (decide (v < (-1099511627776 : Int)))
 then (some (.inr ((0 : Int), (6 : Int), [])))
 else (bif (decide (v > (1099511627776 : Int)))
 then (some (.inr ((0 : Int), (6 : Int), [])))
 else (bif (decide ((0 : Int) ≤ hr ∧ hr ≤ hr ∧ hr ≤ (1000000 : Int)))
 then (some (.inl (.h0 ((0 : Int)) (S.mkl (Int.toNat hr) fun (j : Nat) => false))))
 else (none)))))
 else (none)
noncomputable def Te32 (test : Bool → Prop → Prop → Prop) (Kst : KS) (Kret : KR) (hr : Int) (al nl ml : Nat) (tl : Nat → Int) (v : Int) : Prop :=
  test (decide (al + nl ≤ ml ∧ nl ≤ 1000000))
 (test ((S.filE hr nl fun (j : Nat) => tl (j + al)) != (0 : Int))
 (Kret (PV.tup
 [PV.agg [PV.int IntKind.i64 (0 : Int), PV.nils],
 PV.int IntKind.i64 (S.filE hr nl fun (j : Nat) => tl (j + al))]) ([[(0, false, Blk.cols ml [Col.int IntKind.i64 tl])]]) (4))
 (test (decide (v < (-1099511627776 : Int)))
 (Kret (PV.tup
 [PV.agg [PV.int IntKind.i64 (0 : Int), PV.nils], PV.int IntKind.i64 (6 : Int)]) ([[(0, false, Blk.cols ml [Col.int IntKind.i64 tl])]]) (4))
 (test (decide (v > (1099511627776 : Int)))
 (Kret (PV.tup
 [PV.agg [PV.int IntKind.i64 (0 : Int), PV.nils], PV.int IntKind.i64 (6 : Int)]) ([[(0, false, Blk.cols ml [Col.int IntKind.i64 tl])]]) (4))
 (test (decide ((0 : Int) ≤ hr ∧ hr ≤ hr ∧ hr ≤ (1000000 : Int)))
 (Kst (hd Try.f32 0) ([PV.int IntKind.i64 v, PV.ptr (PA.mk (1) (0) (0) (0)),
 PV.ptr (PA.mk (2) (0) (0) (0)), PV.int IntKind.i64 hr,
 PV.own (4) (1) (Int.toNat hr), PV.int IntKind.i64 (0 : Int)]) ([[(0, false, Blk.cols ml [Col.int IntKind.i64 tl]),
 (4, true, Blk.cols (Int.toNat hr) [Col.bool fun (x : Nat) => false]),
 (2, true, Blk.cells [PV.int IntKind.i64 (0 : Int), PV.nils]),
 (1, true,
 Blk.cells
 [PV.int IntKind.i64 hr, PV.loose (PA.mk (0) (1) al (0)) nl])]]) (5))
 (False)))))
 (False)
set_option maxRecDepth 100000 in
theorem te32 (test : Bool → Prop → Prop → Prop) (Kst : KS) (Kret : KR) (hr : Int) (al nl ml : Nat) (tl : Nat → Int) (v : Int) : run test Try.env true (xT test) true 400 ⟨32, [.cd (mkFn Try.f32).body], argT 0 [.agg [.int .i64 hr, .loose ⟨0, 1, al, 0⟩ nl], .int .i64 v], [[], [(0, (false, .cols ml [.int .i64 tl]))]], 1⟩ (proj 1 [1, 2, 4, 7, 8, 9] Kst Kret) =
  Te32 test Kst Kret hr al nl ml tl v := by kernel_rfl
noncomputable def T32_0 (test : Bool → Prop → Prop → Prop) (Kst : KS) (Kret : KR) (hr : Int) (al nl ml : Nat) (tl : Nat → Int) (v : Int) (x0 : Int) (x1 : List Bool) : Prop :=
  test (decide (x0 < (↑nl : Int)))
 (test (decide ((0 : Int) ≤ x0 ∧ x0 < (↑nl : Int)))
 (test (decide (Int.toNat x0 + al < ml))
 (test (lim IntKind.i64 (tl (Int.toNat x0 + al) + v))
 (test (decide (hr = (0 : Int)))
 (False)
 (test (lim IntKind.i64 (Int.tmod (tl (Int.toNat x0 + al) + v) hr + hr))
 (test (decide (hr = (0 : Int)))
 (False)
 (test (decide
 ((0 : Int) ≤ Int.tmod (Int.tmod (tl (Int.toNat x0 + al) + v) hr + hr) hr ∧
 Int.tmod (Int.tmod (tl (Int.toNat x0 + al) + v) hr + hr) hr < (↑(List.length x1) : Int)))
 (test (decide (Int.toNat (Int.tmod (Int.tmod (tl (Int.toNat x0 + al) + v) hr + hr) hr) < List.length x1))
 (test (lim IntKind.i64 (x0 + (1 : Int)))
 (Kst (hd Try.f32 0) ([PV.int IntKind.i64 v, PV.ptr (PA.mk (1) (0) (0) (0)),
 PV.ptr (PA.mk (2) (0) (0) (0)), PV.int IntKind.i64 hr,
 PV.own (3) (1) (List.length x1), PV.int IntKind.i64 (x0 + (1 : Int))]) ([[(0, false, Blk.cols ml [Col.int IntKind.i64 tl]),
 (3, true,
 Blk.cols (List.length x1)
 [Col.bool fun (j : Nat) =>
 bif Nat.beq j (Int.toNat (Int.tmod (Int.tmod (tl (Int.toNat x0 + al) + v) hr + hr) hr)) then true
 else S.at' x1 j]),
 (2, true, Blk.cells [PV.int IntKind.i64 (0 : Int), PV.nils]),
 (1, true,
 Blk.cells
 [PV.int IntKind.i64 hr, PV.loose (PA.mk (0) (1) al (0)) nl])]]) (4))
 (False))
 (False))
 (False)))
 (False)))
 (False))
 (False))
 (False))
 (test (decide (0 + List.length x1 ≤ List.length x1 ∧ List.length x1 ≤ 999999))
 (Kret (PV.tup
 [PV.agg
 [PV.int IntKind.i64 (↑(List.length x1) : Int),
 PV.own (5) (1)
 (List.length (S.posP (fun (j : Nat) => S.at' x1 j) (List.length x1)))],
 PV.int IntKind.i64 (0 : Int)]) ([[(0, false, Blk.cols ml [Col.int IntKind.i64 tl]),
 (5, true,
 Blk.cols (List.length (S.posP (fun (j : Nat) => S.at' x1 j) (List.length x1)))
 [Col.int IntKind.i64 fun (j : Nat) =>
 S.at' (S.posP (fun (j : Nat) => S.at' x1 j) (List.length x1)) j])]]) (6))
 (False))
set_option maxRecDepth 100000 in
theorem t32_0 (test : Bool → Prop → Prop → Prop) (Kst : KS) (Kret : KR) (hr : Int) (al nl ml : Nat) (tl : Nat → Int) (v : Int) (x0 : Int) (x1 : List Bool) : run test Try.env true (xT test) true 400 ⟨32, hd Try.f32 0, zipT [1, 2, 4, 7, 8, 9] [PV.int IntKind.i64 v, PV.ptr (PA.mk (1) (0) (0) (0)),
 PV.ptr (PA.mk (2) (0) (0) (0)), PV.int IntKind.i64 hr,
 PV.own (3) (1) (List.length x1), PV.int IntKind.i64 x0], [[(1, (true, Blk.cells [PV.int IntKind.i64 hr, PV.loose (PA.mk (0) (1) al (0)) nl])), (2, (true, Blk.cells [PV.int IntKind.i64 (0 : Int), PV.nils])), (3, (true, Blk.cols (List.length x1) [Col.bool fun (j : Nat) => S.at' x1 j]))], [(0, (false, .cols ml [.int .i64 tl]))]], 4⟩ (proj 1 [1, 2, 4, 7, 8, 9] Kst Kret) =
  T32_0 test Kst Kret hr al nl ml tl v x0 x1 := by kernel_rfl
attribute [local irreducible] Int.subNatNat in
set_option maxRecDepth 100000 in
theorem be32 (hr : Int) (al nl ml : Nat) (tl : Nat → Int) (v : Int) (Kst : KS) (Kret : KR) (x : St32 ⊕ Rt32) (hS : HS 1 400 ((I32 hr al nl ml tl v)) Kst x) (hR : HR 1 400 ((V32 hr al nl ml tl v)) (fun r => [newL (1 + 1) ((N32 hr al nl ml tl v) r) ++ [(0, (false, .cols ml [.int .i64 tl]))]]) Kret x) (h : (bif (decide (al + nl ≤ ml ∧ nl ≤ 1000000))
 then (bif ((S.filE hr nl fun (j : Nat) => tl (j + al)) != (0 : Int))
 then (some (.inr ((0 : Int), S.filE hr nl fun (j : Nat) => tl (j + al), [])))
 else (bif (decide (v < (-1099511627776 : Int)))
 then (some (.inr ((0 : Int), (6 : Int), [])))
 else (bif (decide (v > (1099511627776 : Int)))
 then (some (.inr ((0 : Int), (6 : Int), [])))
 else (bif (decide ((0 : Int) ≤ hr ∧ hr ≤ hr ∧ hr ≤ (1000000 : Int)))
 then (some (.inl (.h0 ((0 : Int)) (S.mkl (Int.toNat hr) fun (j : Nat) => false))))
 else (none)))))
 else (none) : Option (St32 ⊕ Rt32)) = some x) : Te32 cond Kst Kret hr al nl ml tl v := by
  unfold Te32
  exact bif_split h
   (fun c0 h => bif_split h
   (fun c1 h => ret_at hR _ h (fun n => bif Nat.beq n 2 then 399 else n) rfl rfl rfl (rn_tup ⟨(rn_agg ⟨(rn_int rfl), (rn_own_nils rfl), trivial⟩), (rn_int rfl), trivial⟩) rfl (entl_fresh (use_own rfl) (fresh_ok rfl) (entl_bor (use_lo rfl) rfl rfl entl_nil)))
   (fun c1 h => bif_split h
   (fun c2 h => ret_at hR _ h (fun n => bif Nat.beq n 2 then 399 else n) rfl rfl rfl (rn_tup ⟨(rn_agg ⟨(rn_int rfl), (rn_own_nils rfl), trivial⟩), (rn_int rfl), trivial⟩) rfl (entl_fresh (use_own rfl) (fresh_ok rfl) (entl_bor (use_lo rfl) rfl rfl entl_nil)))
   (fun c2 h => bif_split h
   (fun c3 h => ret_at hR _ h (fun n => bif Nat.beq n 2 then 399 else n) rfl rfl rfl (rn_tup ⟨(rn_agg ⟨(rn_int rfl), (rn_own_nils rfl), trivial⟩), (rn_int rfl), trivial⟩) rfl (entl_fresh (use_own rfl) (fresh_ok rfl) (entl_bor (use_lo rfl) rfl rfl entl_nil)))
   (fun c3 h => bif_split h
   (fun c4 h => stop_at hS _ h (fun n => bif Nat.beq n 1 then 1 else bif Nat.beq n 2 then 2 else bif Nat.beq n 3 then 4 else n) rfl rfl rfl ⟨(rn_int rfl), ⟨(rn_ptr (use_own rfl) rfl rfl), ⟨(rn_ptr (use_own rfl) rfl rfl), ⟨(rn_int rfl), ⟨(rn_own (use_own rfl) rfl mkl_len), ⟨(rn_int rfl), trivial⟩⟩⟩⟩⟩⟩ rfl (entl_b (use_own rfl) rfl (by simp) (rb_cells ⟨(rn_int rfl), (rn_loose (use_lo rfl) rfl rfl rfl), trivial⟩) (entl_b (use_own rfl) rfl (by simp) (rb_cells ⟨(rn_int rfl), rn_nils, trivial⟩) (entl_new (use_own rfl) rfl (Nat.le_of_eq mkl_len) (rcs_bool (fun _ hj => col_mkl (fun (t : Bool) => t) hj) rcs_nil) (entl_bor (use_lo rfl) rfl rfl entl_nil)))))
   (fun c4 h => no_some h)))))
   (fun c0 h => no_some h)
attribute [local irreducible] Int.subNatNat in
set_option maxRecDepth 100000 in
theorem b32_0 (hr : Int) (al nl ml : Nat) (tl : Nat → Int) (v : Int) (Kst : KS) (Kret : KR) (x : St32 ⊕ Rt32) (hS : HS 1 400 ((I32 hr al nl ml tl v)) Kst x) (hR : HR 1 400 ((V32 hr al nl ml tl v)) (fun r => [newL (1 + 1) ((N32 hr al nl ml tl v) r) ++ [(0, (false, .cols ml [.int .i64 tl]))]]) Kret x) (x0 : Int) (x1 : List Bool) (h : (bif (decide (x0 < (↑nl : Int)))
 then (bif (decide ((0 : Int) ≤ x0 ∧ x0 < (↑nl : Int)))
 then (bif (decide (Int.toNat x0 + al < ml))
 then (bif (lim IntKind.i64 (tl (Int.toNat x0 + al) + v))
 then (bif (decide (hr = (0 : Int)))
 then (none)
 else (bif (lim IntKind.i64 (Int.tmod (tl (Int.toNat x0 + al) + v) hr + hr))
 then (bif (decide
 ((0 : Int) ≤ Int.tmod (Int.tmod (tl (Int.toNat x0 + al) + v) hr + hr) hr ∧
 Int.tmod (Int.tmod (tl (Int.toNat x0 + al) + v) hr + hr) hr < (↑(List.length x1) : Int)))
 then (bif (decide (Int.toNat (Int.tmod (Int.tmod (tl (Int.toNat x0 + al) + v) hr + hr) hr) < List.length x1))
 then (bif (lim IntKind.i64 (x0 + (1 : Int)))
 then (some (.inl (.h0 (x0 + (1 : Int)) (S.mkl (List.length x1) fun (j : Nat) =>
 bif Nat.beq j (Int.toNat (Int.tmod (Int.tmod (tl (Int.toNat x0 + al) + v) hr + hr) hr)) then true
 else S.at' x1 j))))
 else (none))
 else (none))
 else (none))
 else (none)))
 else (none))
 else (none))
 else (none))
 else (bif (decide (0 + List.length x1 ≤ List.length x1 ∧ List.length x1 ≤ 999999))
 then (some (.inr ((↑(List.length x1) : Int), (0 : Int), S.posP (fun (j : Nat) => S.at' x1 j) (List.length x1))))
 else (none)) : Option (St32 ⊕ Rt32)) = some x) : T32_0 cond Kst Kret hr al nl ml tl v x0 x1 := by
  unfold T32_0
  exact bif_split h
   (fun c0 h => bif_split h
   (fun c1 h => bif_split h
   (fun c2 h => bif_split h
   (fun c3 h => bif_split h
   (fun c4 h => no_some h)
   (fun c4 h => bif_split h
   (fun c5 h => cond_no c4 (bif_split h
   (fun c6 h => bif_split h
   (fun c7 h => bif_split h
   (fun c8 h => stop_at hS _ h (fun n => bif Nat.beq n 1 then 1 else bif Nat.beq n 2 then 2 else bif Nat.beq n 3 then 3 else n) rfl rfl rfl ⟨(rn_int rfl), ⟨(rn_ptr (use_own rfl) rfl rfl), ⟨(rn_ptr (use_own rfl) rfl rfl), ⟨(rn_int rfl), ⟨(rn_own (use_own rfl) rfl mkl_len), ⟨(rn_int rfl), trivial⟩⟩⟩⟩⟩⟩ rfl (entl_b (use_own rfl) rfl (by simp) (rb_cells ⟨(rn_int rfl), (rn_loose (use_lo rfl) rfl rfl rfl), trivial⟩) (entl_b (use_own rfl) rfl (by simp) (rb_cells ⟨(rn_int rfl), rn_nils, trivial⟩) (entl_new (use_own rfl) rfl (Nat.le_of_eq mkl_len) (rcs_bool (fun _ hj => col_mkl (fun (t : Bool) => t) hj) rcs_nil) (entl_bor (use_lo rfl) rfl rfl entl_nil)))))
   (fun c8 h => no_some h))
   (fun c7 h => no_some h))
   (fun c6 h => no_some h)))
   (fun c5 h => no_some h)))
   (fun c3 h => no_some h))
   (fun c2 h => no_some h))
   (fun c1 h => no_some h))
   (fun c0 h => bif_split h
   (fun c1 h => ret_at hR _ h (fun n => bif Nat.beq n 2 then 5 else n) rfl rfl rfl (rn_tup ⟨(rn_agg ⟨(rn_int rfl), (rn_own (use_own rfl) rfl rfl), trivial⟩), (rn_int rfl), trivial⟩) rfl (entl_new (use_own rfl) rfl (Nat.le_of_eq rfl) (rcs_int (fun _ _ => rfl) rcs_nil) (entl_bor (use_lo rfl) rfl rfl entl_nil)))
   (fun c1 h => no_some h))
theorem a32 (hr : Int) (al nl ml : Nat) (tl : Nat → Int) (v : Int) {r : Rt32} (h : Goes ((q32 hr al nl ml tl v)) ((p32 hr al nl ml tl v)) r) : CallR Try.prog 32 [.agg [.int .i64 hr, .loose ⟨0, 1, al, 0⟩ nl], .int .i64 v] [[(0, (false, .cols ml [.int .i64 tl]))]] 1 ((V32 hr al nl ml tl v) r) ((fun r => [newL (1 + 1) ((N32 hr al nl ml tl v) r) ++ [(0, (false, .cols ml [.int .i64 tl]))]]) r) 400 ∧ ∃ F, Try.prog.funcs[32]? = some F ∧ F.body.isSome = true ∧ (F.name == "runtime.NumGoroutine") = false := by
  refine dec_calls (f := 32) (lo := 1) (hi := 400) (H := [[(0, (false, .cols ml [.int .i64 tl]))]]) (args := [.agg [.int .i64 hr, .loose ⟨0, 1, al, 0⟩ nl], .int .i64 v]) Try.envOk Try.mixed xT_ok ((I32 hr al nl ml tl v)) ((V32 hr al nl ml tl v)) (fun r => [newL (1 + 1) ((N32 hr al nl ml tl v) r) ++ [(0, (false, .cols ml [.int .i64 tl]))]]) (fn := mkFn Try.f32) (ts := [1, 2, 4, 7, 8, 9]) (n := 400) rfl (by decide) (by simp) (names_of rfl) ?_ ?_ ?_ h
  · intro s; cases s <;> exact ⟨hd_ok _ _, by simp [I32], names_of rfl, Nat.le_of_ble_eq_true rfl⟩
  · intro Kst Kret x hS hR h
    exact Holds.eq (te32 cond Kst Kret hr al nl ml tl v) (be32 hr al nl ml tl v Kst Kret x hS hR h)
  · intro Kst Kret x hS hR s h
    cases s with
    | h0 x0 x1 => exact Holds.eq (t32_0 cond Kst Kret hr al nl ml tl v x0 x1) (b32_0 hr al nl ml tl v Kst Kret x hS hR x0 x1 h)
noncomputable def k32 : Con := ⟨32, [.agg [.plain (.int .i64), .list [.int .i64]], .one (.plain (.int .i64))], fun (x : (Int × (Nat × Nat × Nat × (Nat → Int) × Unit) × Unit) × Int × Unit) => (fun (hr : Int) (al nl ml : Nat) (tl : Nat → Int) (v : Int) => decide (al + nl ≤ ml ∧ nl ≤ 1000000)) x.1.1 x.1.2.1.1 x.1.2.1.2.1 x.1.2.1.2.2.1 x.1.2.1.2.2.2.1 x.2.1, fun (x : (Int × (Nat × Nat × Nat × (Nat → Int) × Unit) × Unit) × Int × Unit) => (fun (hr : Int) (al nl ml : Nat) (tl : Nat → Int) (v : Int) => (V32 hr al nl ml tl v) (S.turnS hr nl (fun j => tl (j + al)) v)) x.1.1 x.1.2.1.1 x.1.2.1.2.1 x.1.2.1.2.2.1 x.1.2.1.2.2.2.1 x.2.1, fun (x : (Int × (Nat × Nat × Nat × (Nat → Int) × Unit) × Unit) × Int × Unit) => (fun (hr : Int) (al nl ml : Nat) (tl : Nat → Int) (v : Int) => (N32 hr al nl ml tl v) (S.turnS hr nl (fun j => tl (j + al)) v)) x.1.1 x.1.2.1.1 x.1.2.1.2.1 x.1.2.1.2.2.1 x.1.2.1.2.2.2.1 x.2.1, fun _ _ => .dead⟩
theorem s32' (hr : Int) (al nl ml : Nat) (tl : Nat → Int) (v : Int) (hp : al + nl ≤ ml ∧ nl ≤ 1000000 ∧ S.filE hr nl (fun j => tl (j + al)) = 0 ∧ -1099511627776 ≤ v ∧ v ≤ 1099511627776) : ∀ (k i : Nat) (L : List Bool), i + k = nl → Holds (L = S.mkl hr.toNat fun j => S.inB (S.turnT hr v (fun j => tl (j + al))) i j) → Comes (q32 hr al nl ml tl v) (.h0 (i : Int) L) (((hr, 0, S.posP (S.inB (S.turnT hr v (fun j => tl (j + al))) nl) hr.toNat) : Int × Int × List Int)) := by
  obtain ⟨hp1, hp2, hp3, hp4, hp5⟩ := hp
  obtain ⟨v1, v2, v3, v4⟩ := fil_ok hp3
  intro k
  induction k with
  | zero =>
    intro i L hi eL
    have hL : L.length = hr.toNat := by rw [eL.get]; exact mkl_len
    apply Comes.of
    show Goes _ _ _
    (first | rw [q32] | unfold q32)
    repeat' first
      | with_reducible refine goes_if (fun h => ?_) (fun h => ?_) <;> (try simp only [lim64, imp_false, decide_eq_true_eq, decide_eq_false_iff_not, Int.toNat_natCast, toNat_pred, toNat_succ, Option.getD_some, Option.getD_none, Bool.not_eq_true', Bool.not_eq_false', Bool.and_eq_true, Bool.or_eq_true, Bool.and_eq_false_iff, Bool.or_eq_false_iff, bne_iff_ne, beq_iff_eq, bne_eq_false_iff_eq, beq_eq_false_iff_ne, ne_eq, not_and, Int.not_le, Int.not_lt, ge_iff_le, gt_iff_lt, Nat.not_lt, Nat.not_le, Bool.not_eq_true, Bool.not_eq_false, Bool.true_eq_false, Bool.false_eq_true, not_false_eq_true, not_true_eq_false] at h)
      | exact goes_none.mpr (by omega)
    all_goals first | (exfalso; omega) | (obtain rfl : nl = i := (by omega);  (refine goes_inr.mpr ?_; rw [hL, show ((hr.toNat : Nat) : Int) = hr by omega, posP_congr (q := S.inB (S.turnT hr v (fun j => tl (j + al))) nl) (fun j hj => by rw [eL.get, at_mkl hj])]))
  | succ k ih =>
    intro i L hi eL
    have hL : L.length = hr.toNat := by rw [eL.get]; exact mkl_len
    have b1 := v3 i (by omega)
    have htm := tmod_lt (n := tl (i + al) + v) (h := hr) (by omega)
    have hmd := mdl_ok (n := tl (i + al) + v) (h := hr) (by omega)
    unfold S.mdl at hmd
    apply Comes.of
    show Goes _ _ _
    (first | rw [q32] | unfold q32)
    repeat' first
      | with_reducible refine goes_if (fun h => ?_) (fun h => ?_) <;> (try simp only [lim64, imp_false, decide_eq_true_eq, decide_eq_false_iff_not, Int.toNat_natCast, toNat_pred, toNat_succ, Option.getD_some, Option.getD_none, Bool.not_eq_true', Bool.not_eq_false', Bool.and_eq_true, Bool.or_eq_true, Bool.and_eq_false_iff, Bool.or_eq_false_iff, bne_iff_ne, beq_iff_eq, bne_eq_false_iff_eq, beq_eq_false_iff_ne, ne_eq, not_and, Int.not_le, Int.not_lt, ge_iff_le, gt_iff_lt, Nat.not_lt, Nat.not_le, Bool.not_eq_true, Bool.not_eq_false, Bool.true_eq_false, Bool.false_eq_true, not_false_eq_true, not_true_eq_false] at h)
      | exact goes_none.mpr (by omega)
    all_goals first
      | (exfalso; omega)
      | (refine ih (i + 1) _ (by omega) ⟨?_⟩; rw [hL, eL.get]; refine mkl_congr fun j hj => ?_; rw [at_mkl hj]; exact inB_step (t := S.turnT hr v (fun j => tl (j + al))) (x := (Int.tmod (Int.tmod (tl (i + al) + v) hr + hr) hr).toNat) hmd.1 rfl)
      | (refine ih (i + 1) _ (by omega) ⟨?_⟩ <;> (skip))
theorem s32 (hr : Int) (al nl ml : Nat) (tl : Nat → Int) (v : Int) (hp : al + nl ≤ ml ∧ nl ≤ 1000000) : Goes ((q32 hr al nl ml tl v)) ((p32 hr al nl ml tl v)) (S.turnS hr nl (fun j => tl (j + al)) v) := by
  unfold S.turnS
  by_cases h0 : S.filE hr nl (fun j => tl (j + al)) = 0
  · rw [if_pos h0]
    by_cases hv : -1099511627776 ≤ v ∧ v ≤ 1099511627776
    · rw [if_pos hv]
      have hm := s32' hr al nl ml tl v ⟨hp.1, hp.2, h0, hv⟩ nl 0 (S.mkl hr.toNat fun j => false) (by omega) ⟨mkl_congr fun j hj => rfl⟩
      obtain ⟨v1, v2, v3, v4⟩ := fil_ok h0
      show Goes _ _ _
      unfold p32
      repeat' first
        | with_reducible refine goes_if (fun h => ?_) (fun h => ?_) <;> (try simp only [lim64, imp_false, decide_eq_true_eq, decide_eq_false_iff_not, Int.toNat_natCast, toNat_pred, toNat_succ, Option.getD_some, Option.getD_none, Bool.not_eq_true', Bool.not_eq_false', Bool.and_eq_true, Bool.or_eq_true, Bool.and_eq_false_iff, Bool.or_eq_false_iff, bne_iff_ne, beq_iff_eq, bne_eq_false_iff_eq, beq_eq_false_iff_ne, ne_eq, not_and, Int.not_le, Int.not_lt, ge_iff_le, gt_iff_lt, Nat.not_lt, Nat.not_le, Bool.not_eq_true, Bool.not_eq_false, Bool.true_eq_false, Bool.false_eq_true, not_false_eq_true, not_true_eq_false] at h)
        | exact goes_none.mpr (by omega)
      all_goals first | (exfalso; omega) | exact hm
    · rw [if_neg hv]
      obtain ⟨v1, v2, v3, v4⟩ := fil_ok h0
      show Goes _ _ _
      unfold p32
      repeat' first
        | with_reducible refine goes_if (fun h => ?_) (fun h => ?_) <;> (try simp only [lim64, imp_false, decide_eq_true_eq, decide_eq_false_iff_not, Int.toNat_natCast, toNat_pred, toNat_succ, Option.getD_some, Option.getD_none, Bool.not_eq_true', Bool.not_eq_false', Bool.and_eq_true, Bool.or_eq_true, Bool.and_eq_false_iff, Bool.or_eq_false_iff, bne_iff_ne, beq_iff_eq, bne_eq_false_iff_eq, beq_eq_false_iff_ne, ne_eq, not_and, Int.not_le, Int.not_lt, ge_iff_le, gt_iff_lt, Nat.not_lt, Nat.not_le, Bool.not_eq_true, Bool.not_eq_false, Bool.true_eq_false, Bool.false_eq_true, not_false_eq_true, not_true_eq_false] at h)
        | exact goes_none.mpr (by omega)
      all_goals first | (exfalso; omega) | rfl
  · rw [if_neg h0]
    show Goes _ _ _
    unfold p32
    repeat' first
      | with_reducible refine goes_if (fun h => ?_) (fun h => ?_) <;> (try simp only [lim64, imp_false, decide_eq_true_eq, decide_eq_false_iff_not, Int.toNat_natCast, toNat_pred, toNat_succ, Option.getD_some, Option.getD_none, Bool.not_eq_true', Bool.not_eq_false', Bool.and_eq_true, Bool.or_eq_true, Bool.and_eq_false_iff, Bool.or_eq_false_iff, bne_iff_ne, beq_iff_eq, bne_eq_false_iff_eq, beq_eq_false_iff_ne, ne_eq, not_and, Int.not_le, Int.not_lt, ge_iff_le, gt_iff_lt, Nat.not_lt, Nat.not_le, Bool.not_eq_true, Bool.not_eq_false, Bool.true_eq_false, Bool.false_eq_true, not_false_eq_true, not_true_eq_false] at h)
      | exact goes_none.mpr (by omega)
    all_goals first | (exfalso; omega) | rfl

theorem k32_ok : k32.ok Try.prog := by
  intro x hx
  obtain ⟨⟨hr, ⟨al, nl, ml, tl, _⟩, _⟩, v, _⟩ := x
  obtain ⟨h1, h2⟩ := a32 hr al nl ml tl v (s32 hr al nl ml tl v (of_dec hx rfl))
  exact ⟨⟨400, (by decide : 1 + 1 + 1 ≤ 400), h1⟩, h2⟩

end Go.Ev
