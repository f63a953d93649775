/-
  The parts that the statement needs, 3 of 4.
-/
import Derived.Test.YtpnklpakehlbeaaV102
namespace Go.Ev
open Go.Proofs
open Go.IntWalk
set_option linter.unusedVariables false
set_option linter.unusedSimpArgs false
set_option maxRecDepth 100000
set_option maxHeartbeats 2000000
theorem t38_0 (test : Bool → Prop → Prop → Prop) (Kst : KS) (Kret : KR) (al nl ml : Nat) (tl : Nat → Int) (vl : Nat → Int) (de : Int) (x0 : Int) (x1 : List (Int × Int)) (x2 : List (ByteArray × Int × Int)) : run test Try.env true noX true 400 ⟨38, hd Try.f38 0, zipT [0, 4, 5, 6] [PV.own (1) (2) (List.length x1),
 PV.ptr (PA.mk (2) (0) (0) (0)),
 PV.ptr (PA.mk (3) (0) (0) (0)), PV.int IntKind.i64 x0], [[(1, (true, Blk.cols (List.length x1)
 [Col.int IntKind.u8 fun j => (S.at' x1 j).1,
 Col.int IntKind.u8 fun j => (S.at' x1 j).2])), (2, (true, Blk.cells [PV.nils, PV.int IntKind.i64 (0 : Int)])), (3, (true, Blk.cells [PV.own (4) (3) (List.length x2), PV.int IntKind.i64 de])), (4, (true, Blk.cols (List.length x2)
 [Col.str fun j => (S.at' x2 j).1,
 Col.int IntKind.i64 fun j => (S.at' x2 j).2.1,
 Col.int IntKind.i64 fun j => (S.at' x2 j).2.2]))], [(0, (false, .cols ml [.int .u8 tl, .int .u8 vl]))]], 5⟩ (proj 1 [0, 4, 5, 6] Kst Kret) =
  T38_0 test Kst Kret al nl ml tl vl de x0 x1 x2 := by kernel_rfl
noncomputable def T38_1 (test : Bool → Prop → Prop → Prop) (Kst : KS) (Kret : KR) (al nl ml : Nat) (tl : Nat → Int) (vl : Nat → Int) (de : Int) (x0 : Int) (x1 : List (ByteArray × Int × Int)) : Prop :=
  test (decide (x0 < (↑nl : Int)))
 (test (decide (x0 < (8 : Int)))
 (test (lim IntKind.i64 (x0 + (1 : Int)))
 (test (decide ((0 : Int) ≤ x0 ∧ x0 ≤ x0 + (1 : Int) ∧ x0 + (1 : Int) ≤ (8 : Int)))
 (test (decide ((0 : Int) ≤ x0 ∧ x0 < (↑nl : Int)))
 (test (true)
 (test (decide (Int.toNat x0 + al < ml))
 (test (lim IntKind.i64 (tl (Int.toNat x0 + al)))
 (test (decide ((0 : Int) ≤ x0 ∧ x0 < (↑nl : Int)))
 (test (true)
 (test (decide (Int.toNat x0 + al < ml))
 (test (lim IntKind.i64 (vl (Int.toNat x0 + al)))
 (test (decide (List.length x1 + 1 ≤ 1000000))
 (test (decide (List.length x1 ≤ List.length x1))
 (test (true)
 (test (lim IntKind.i64 (x0 + (1 : Int)))
 (Kst (hd Try.f38 0) ([PV.loose (PA.mk (0) (2) al (0)) nl,
 PV.ptr (PA.mk (1) (0) (0) (0)),
 PV.ptr (PA.mk (2) (0) (0) (0)),
 PV.int IntKind.i64 (x0 + (1 : Int))]) ([[(0, false, Blk.cols ml [Col.int IntKind.u8 tl, Col.int IntKind.u8 vl]),
 (2, true,
 Blk.cells
 [PV.own (5) (3) (List.length x1 + 1), PV.int IntKind.i64 de]),
 (1, true, Blk.cells [PV.nils, PV.int IntKind.i64 (0 : Int)]),
 (5, true,
 Blk.cols (List.length x1 + 1)
 [Col.str fun j =>
 bif Nat.blt j (List.length x1) then (S.at' x1 j).1
 else
 S.subS
 (ByteArray.mk
 #[(97 : UInt8), (98 : UInt8), (99 : UInt8), (100 : UInt8), (101 : UInt8), (102 : UInt8),
 (103 : UInt8), (104 : UInt8)])
 (Int.toNat x0) (Int.toNat (x0 + (1 : Int))),
 Col.int IntKind.i64 fun j =>
 bif Nat.blt j (List.length x1) then (S.at' x1 j).2.1 else tl (Int.toNat x0 + al),
 Col.int IntKind.i64 fun j =>
 bif Nat.blt j (List.length x1) then (S.at' x1 j).2.2 else vl (Int.toNat x0 + al)])]]) (6))
 (False))
 (False))
 (False))
 (False))
 (False))
 (False))
 (False))
 (False))
 (False))
 (False))
 (False))
 (False))
 (False))
 (False))
 (Kret (PV.agg [PV.own (3) (3) (List.length x1), PV.int IntKind.i64 de]) ([[(0, false, Blk.cols ml [Col.int IntKind.u8 tl, Col.int IntKind.u8 vl]),
 (3, true,
 Blk.cols (List.length x1)
 [Col.str fun j => (S.at' x1 j).1,
 Col.int IntKind.i64 fun j => (S.at' x1 j).2.1,
 Col.int IntKind.i64 fun j => (S.at' x1 j).2.2])]]) (4)))
 (Kret (PV.agg [PV.own (3) (3) (List.length x1), PV.int IntKind.i64 de]) ([[(0, false, Blk.cols ml [Col.int IntKind.u8 tl, Col.int IntKind.u8 vl]),
 (3, true,
 Blk.cols (List.length x1)
 [Col.str fun j => (S.at' x1 j).1,
 Col.int IntKind.i64 fun j => (S.at' x1 j).2.1,
 Col.int IntKind.i64 fun j => (S.at' x1 j).2.2])]]) (4))
theorem t38_1 (test : Bool → Prop → Prop → Prop) (Kst : KS) (Kret : KR) (al nl ml : Nat) (tl : Nat → Int) (vl : Nat → Int) (de : Int) (x0 : Int) (x1 : List (ByteArray × Int × Int)) : run test Try.env true noX true 400 ⟨38, hd Try.f38 0, zipT [0, 4, 5, 6] [PV.loose (PA.mk (0) (2) al (0)) nl,
 PV.ptr (PA.mk (1) (0) (0) (0)),
 PV.ptr (PA.mk (2) (0) (0) (0)), PV.int IntKind.i64 x0], [[(1, (true, Blk.cells [PV.nils, PV.int IntKind.i64 (0 : Int)])), (2, (true, Blk.cells [PV.own (3) (3) (List.length x1), PV.int IntKind.i64 de])), (3, (true, Blk.cols (List.length x1)
 [Col.str fun j => (S.at' x1 j).1,
 Col.int IntKind.i64 fun j => (S.at' x1 j).2.1,
 Col.int IntKind.i64 fun j => (S.at' x1 j).2.2]))], [(0, (false, .cols ml [.int .u8 tl, .int .u8 vl]))]], 4⟩ (proj 1 [0, 4, 5, 6] Kst Kret) =
  T38_1 test Kst Kret al nl ml tl vl de x0 x1 := by kernel_rfl
theorem be38 (al nl ml : Nat) (tl : Nat → Int) (vl : Nat → Int) (de : Int) (Kst : KS) (Kret : KR) (x : St38 ⊕ Rt38) (hS : HS 1 400 ((I38 al nl ml tl vl de)) Kst x) (hR : HR 1 400 ((V38 al nl ml tl vl de)) (fun r => [newL (1 + 1) ((N38 al nl ml tl vl de) r) ++ [(0, (false, .cols ml [.int .u8 tl, .int .u8 vl]))]]) Kret x) (h : (bif (lim IntKind.i64 de)
 then (bif ((↑nl : Int) == (0 : Int))
 then (some (.inl (.h0 ((0 : Int)) ([((1 : Int), (1 : Int))]) ([]))))
 else (some (.inl (.h1 ((0 : Int)) ([])))))
 else (none) : Option (St38 ⊕ Rt38)) = some x) : Te38 cond Kst Kret al nl ml tl vl de := by
  unfold Te38
  exact bif_split h
   (fun c0 h => bif_split h
   (fun c1 h => stop_at hS _ h (fun n => bif Nat.beq n 1 then 3 else bif Nat.beq n 2 then 1 else bif Nat.beq n 3 then 2 else bif Nat.beq n 4 then 399 else n) rfl rfl rfl ⟨(rn_own (use_own rfl) rfl rfl), ⟨(rn_ptr (use_own rfl) rfl rfl), ⟨(rn_ptr (use_own rfl) rfl rfl), ⟨(rn_int rfl), trivial⟩⟩⟩⟩ rfl (entl_b (use_own rfl) rfl (by simp) (rb_lit (fun j hj i hi => (match j, hj with | 0, _ => (match i, hi with | 0, _ => ⟨_, rfl, rn_int rfl⟩ | 1, _ => ⟨_, rfl, rn_int rfl⟩ | _ + 2, h => absurd h (by simp [lenc])) | _ + 1, h => absurd h (by simp)))) (entl_b (use_own rfl) rfl (by simp) (rb_cells ⟨rn_nils, (rn_int rfl), trivial⟩) (entl_b (use_own rfl) rfl (by simp) (rb_cells ⟨(rn_own_nils rfl), (rn_int rfl), trivial⟩) (entl_fresh (use_own rfl) (fresh_ok rfl) (entl_bor (use_lo rfl) rfl rfl entl_nil))))))
   (fun c1 h => stop_at hS _ h (fun n => bif Nat.beq n 1 then 1 else bif Nat.beq n 2 then 2 else bif Nat.beq n 3 then 399 else n) rfl rfl rfl ⟨(rn_loose (use_lo rfl) rfl rfl rfl), ⟨(rn_ptr (use_own rfl) rfl rfl), ⟨(rn_ptr (use_own rfl) rfl rfl), ⟨(rn_int rfl), trivial⟩⟩⟩⟩ rfl (entl_b (use_own rfl) rfl (by simp) (rb_cells ⟨rn_nils, (rn_int rfl), trivial⟩) (entl_b (use_own rfl) rfl (by simp) (rb_cells ⟨(rn_own_nils rfl), (rn_int rfl), trivial⟩) (entl_fresh (use_own rfl) (fresh_ok rfl) (entl_bor (use_lo rfl) rfl rfl entl_nil))))))
   (fun c0 h => no_some h)
theorem b38_0 (al nl ml : Nat) (tl : Nat → Int) (vl : Nat → Int) (de : Int) (Kst : KS) (Kret : KR) (x : St38 ⊕ Rt38) (hS : HS 1 400 ((I38 al nl ml tl vl de)) Kst x) (hR : HR 1 400 ((V38 al nl ml tl vl de)) (fun r => [newL (1 + 1) ((N38 al nl ml tl vl de) r) ++ [(0, (false, .cols ml [.int .u8 tl, .int .u8 vl]))]]) Kret x) (x0 : Int) (x1 : List (Int × Int)) (x2 : List (ByteArray × Int × Int)) (h : (bif (decide (x0 < (↑(List.length x1) : Int)))
 then (bif (decide (x0 < (8 : Int)))
 then (bif (lim IntKind.i64 (x0 + (1 : Int)))
 then (bif (decide ((0 : Int) ≤ x0 ∧ x0 ≤ x0 + (1 : Int) ∧ x0 + (1 : Int) ≤ (8 : Int)))
 then (bif (decide ((0 : Int) ≤ x0 ∧ x0 < (↑(List.length x1) : Int)))
 then (bif (decide (Int.toNat x0 < List.length x1))
 then (bif (lim IntKind.i64 ((S.at' x1 (Int.toNat x0)).1))
 then (bif (lim IntKind.i64 ((S.at' x1 (Int.toNat x0)).2))
 then (bif (decide (List.length x2 + 1 ≤ 1000000))
 then (bif (decide (List.length x2 ≤ List.length x2))
 then (some (.inl (.h0 (x0 + (1 : Int)) (x1) (S.snoc x2
 (S.subS
 (ByteArray.mk
 #[(97 : UInt8), (98 : UInt8), (99 : UInt8), (100 : UInt8), (101 : UInt8), (102 : UInt8), (103 : UInt8),
 (104 : UInt8)])
 (Int.toNat x0) (Int.toNat (x0 + (1 : Int))),
 (S.at' x1 (Int.toNat x0)).1, (S.at' x1 (Int.toNat x0)).2)))))
 else (none))
 else (none))
 else (none))
 else (none))
 else (none))
 else (none))
 else (none))
 else (none))
 else (some (.inr (x2))))
 else (some (.inr (x2))) : Option (St38 ⊕ Rt38)) = some x) : T38_0 cond Kst Kret al nl ml tl vl de x0 x1 x2 := by
  unfold T38_0
  exact bif_split h
   (fun c0 h => bif_split h
   (fun c1 h => bif_split h
   (fun c2 h => bif_split h
   (fun c3 h => bif_split h
   (fun c4 h => cond_yes rfl (bif_split h
   (fun c5 h => bif_split h
   (fun c6 h => cond_yes c4 (cond_yes rfl (cond_yes c5 (bif_split h
   (fun c7 h => bif_split h
   (fun c8 h => bif_split h
   (fun c9 h => cond_yes rfl (cond_yes c2 (stop_at hS _ h (fun n => bif Nat.beq n 1 then 1 else bif Nat.beq n 2 then 2 else bif Nat.beq n 3 then 3 else bif Nat.beq n 4 then 6 else n) rfl rfl rfl ⟨(rn_own (use_own rfl) rfl rfl), ⟨(rn_ptr (use_own rfl) rfl rfl), ⟨(rn_ptr (use_own rfl) rfl rfl), ⟨(rn_int rfl), trivial⟩⟩⟩⟩ rfl (entl_new (use_own rfl) rfl (Nat.le_of_eq rfl) (rcs_int (fun _ _ => rfl) (rcs_int (fun _ _ => rfl) rcs_nil)) (entl_b (use_own rfl) rfl (by simp) (rb_cells ⟨rn_nils, (rn_int rfl), trivial⟩) (entl_b (use_own rfl) rfl (by simp) (rb_cells ⟨(rn_own (use_own rfl) rfl (snoc_len' rfl)), (rn_int rfl), trivial⟩) (entl_new (use_own rfl) rfl (Nat.le_of_eq (snoc_len' rfl)) (rcs_str (col_snoc' (fun (t : ByteArray × Int × Int) => t.1) rfl (fun _ _ => rfl)) (rcs_int (col_snoc' (fun (t : ByteArray × Int × Int) => t.2.1) rfl (fun _ _ => rfl)) (rcs_int (col_snoc' (fun (t : ByteArray × Int × Int) => t.2.2) rfl (fun _ _ => rfl)) rcs_nil))) (entl_bor (use_lo rfl) rfl rfl entl_nil))))))))
   (fun c9 h => no_some h))
   (fun c8 h => no_some h))
   (fun c7 h => no_some h)))))
   (fun c6 h => no_some h))
   (fun c5 h => no_some h)))
   (fun c4 h => no_some h))
   (fun c3 h => no_some h))
   (fun c2 h => no_some h))
   (fun c1 h => ret_at hR _ h (fun n => bif Nat.beq n 2 then 4 else n) rfl rfl rfl (rn_agg ⟨(rn_own (use_own rfl) rfl rfl), (rn_int rfl), trivial⟩) rfl (entl_new (use_own rfl) rfl (Nat.le_of_eq rfl) (rcs_str (fun _ _ => rfl) (rcs_int (fun _ _ => rfl) (rcs_int (fun _ _ => rfl) rcs_nil))) (entl_bor (use_lo rfl) rfl rfl entl_nil))))
   (fun c0 h => ret_at hR _ h (fun n => bif Nat.beq n 2 then 4 else n) rfl rfl rfl (rn_agg ⟨(rn_own (use_own rfl) rfl rfl), (rn_int rfl), trivial⟩) rfl (entl_new (use_own rfl) rfl (Nat.le_of_eq rfl) (rcs_str (fun _ _ => rfl) (rcs_int (fun _ _ => rfl) (rcs_int (fun _ _ => rfl) rcs_nil))) (entl_bor (use_lo rfl) rfl rfl entl_nil)))
theorem b38_1 (al nl ml : Nat) (tl : Nat → Int) (vl : Nat → Int) (de : Int) (Kst : KS) (Kret : KR) (x : St38 ⊕ Rt38) (hS : HS 1 400 ((I38 al nl ml tl vl de)) Kst x) (hR : HR 1 400 ((V38 al nl ml tl vl de)) (fun r => [newL (1 + 1) ((N38 al nl ml tl vl de) r) ++ [(0, (false, .cols ml [.int .u8 tl, .int .u8 vl]))]]) Kret x) (x0 : Int) (x1 : List (ByteArray × Int × Int)) (h : (bif (decide (x0 < (↑nl : Int)))
 then (bif (decide (x0 < (8 : Int)))
 then (bif (lim IntKind.i64 (x0 + (1 : Int)))
 then (bif (decide ((0 : Int) ≤ x0 ∧ x0 ≤ x0 + (1 : Int) ∧ x0 + (1 : Int) ≤ (8 : Int)))
 then (bif (decide ((0 : Int) ≤ x0 ∧ x0 < (↑nl : Int)))
 then (bif (decide (Int.toNat x0 + al < ml))
 then (bif (lim IntKind.i64 (tl (Int.toNat x0 + al)))
 then (bif (lim IntKind.i64 (vl (Int.toNat x0 + al)))
 then (bif (decide (List.length x1 + 1 ≤ 1000000))
 then (bif (decide (List.length x1 ≤ List.length x1))
 then (some (.inl (.h1 (x0 + (1 : Int)) (S.snoc x1
 (S.subS
 (ByteArray.mk
 #[(97 : UInt8), (98 : UInt8), (99 : UInt8), (100 : UInt8), (101 : UInt8), (102 : UInt8), (103 : UInt8),
 (104 : UInt8)])
 (Int.toNat x0) (Int.toNat (x0 + (1 : Int))),
 tl (Int.toNat x0 + al), vl (Int.toNat x0 + al))))))
 else (none))
 else (none))
 else (none))
 else (none))
 else (none))
 else (none))
 else (none))
 else (none))
 else (some (.inr (x1))))
 else (some (.inr (x1))) : Option (St38 ⊕ Rt38)) = some x) : T38_1 cond Kst Kret al nl ml tl vl de x0 x1 := by
  unfold T38_1
  exact bif_split h
   (fun c0 h => bif_split h
   (fun c1 h => bif_split h
   (fun c2 h => bif_split h
   (fun c3 h => bif_split h
   (fun c4 h => cond_yes rfl (bif_split h
   (fun c5 h => bif_split h
   (fun c6 h => cond_yes c4 (cond_yes rfl (cond_yes c5 (bif_split h
   (fun c7 h => bif_split h
   (fun c8 h => bif_split h
   (fun c9 h => cond_yes rfl (cond_yes c2 (stop_at hS _ h (fun n => bif Nat.beq n 1 then 1 else bif Nat.beq n 2 then 2 else bif Nat.beq n 3 then 5 else n) rfl rfl rfl ⟨(rn_loose (use_lo rfl) rfl rfl rfl), ⟨(rn_ptr (use_own rfl) rfl rfl), ⟨(rn_ptr (use_own rfl) rfl rfl), ⟨(rn_int rfl), trivial⟩⟩⟩⟩ rfl (entl_b (use_own rfl) rfl (by simp) (rb_cells ⟨rn_nils, (rn_int rfl), trivial⟩) (entl_b (use_own rfl) rfl (by simp) (rb_cells ⟨(rn_own (use_own rfl) rfl (snoc_len' rfl)), (rn_int rfl), trivial⟩) (entl_new (use_own rfl) rfl (Nat.le_of_eq (snoc_len' rfl)) (rcs_str (col_snoc' (fun (t : ByteArray × Int × Int) => t.1) rfl (fun _ _ => rfl)) (rcs_int (col_snoc' (fun (t : ByteArray × Int × Int) => t.2.1) rfl (fun _ _ => rfl)) (rcs_int (col_snoc' (fun (t : ByteArray × Int × Int) => t.2.2) rfl (fun _ _ => rfl)) rcs_nil))) (entl_bor (use_lo rfl) rfl rfl entl_nil)))))))
   (fun c9 h => no_some h))
   (fun c8 h => no_some h))
   (fun c7 h => no_some h)))))
   (fun c6 h => no_some h))
   (fun c5 h => no_some h)))
   (fun c4 h => no_some h))
   (fun c3 h => no_some h))
   (fun c2 h => no_some h))
   (fun c1 h => ret_at hR _ h (fun n => bif Nat.beq n 2 then 3 else n) rfl rfl rfl (rn_agg ⟨(rn_own (use_own rfl) rfl rfl), (rn_int rfl), trivial⟩) rfl (entl_new (use_own rfl) rfl (Nat.le_of_eq rfl) (rcs_str (fun _ _ => rfl) (rcs_int (fun _ _ => rfl) (rcs_int (fun _ _ => rfl) rcs_nil))) (entl_bor (use_lo rfl) rfl rfl entl_nil))))
   (fun c0 h => ret_at hR _ h (fun n => bif Nat.beq n 2 then 3 else n) rfl rfl rfl (rn_agg ⟨(rn_own (use_own rfl) rfl rfl), (rn_int rfl), trivial⟩) rfl (entl_new (use_own rfl) rfl (Nat.le_of_eq rfl) (rcs_str (fun _ _ => rfl) (rcs_int (fun _ _ => rfl) (rcs_int (fun _ _ => rfl) rcs_nil))) (entl_bor (use_lo rfl) rfl rfl entl_nil)))
theorem a38 (al nl ml : Nat) (tl : Nat → Int) (vl : Nat → Int) (de : Int) {r : Rt38} (h : Goes ((q38 al nl ml tl vl de)) ((p38 al nl ml tl vl de)) r) : CallR Try.prog 38 [.loose ⟨0, 2, al, 0⟩ nl, .int .u8 de] [[(0, (false, .cols ml [.int .u8 tl, .int .u8 vl]))]] 1 ((V38 al nl ml tl vl de) r) ((fun r => [newL (1 + 1) ((N38 al nl ml tl vl de) r) ++ [(0, (false, .cols ml [.int .u8 tl, .int .u8 vl]))]]) r) 400 ∧ ∃ F, Try.prog.funcs[38]? = some F ∧ F.body.isSome = true ∧ (F.name == "runtime.NumGoroutine") = false := by
  refine dec_calls (f := 38) (lo := 1) (hi := 400) (H := [[(0, (false, .cols ml [.int .u8 tl, .int .u8 vl]))]]) (args := [.loose ⟨0, 2, al, 0⟩ nl, .int .u8 de]) Try.envOk Try.mixed noX_ok ((I38 al nl ml tl vl de)) ((V38 al nl ml tl vl de)) (fun r => [newL (1 + 1) ((N38 al nl ml tl vl de) r) ++ [(0, (false, .cols ml [.int .u8 tl, .int .u8 vl]))]]) (fn := mkFn Try.f38) (ts := [0, 4, 5, 6]) (n := 400) rfl (by decide) (by simp) (names_of rfl) ?_ ?_ ?_ h
  · intro s; cases s <;> exact ⟨hd_ok _ _, by simp [I38], names_of rfl, Nat.le_of_ble_eq_true rfl⟩
  · intro Kst Kret x hS hR h
    exact Holds.eq (te38 cond Kst Kret al nl ml tl vl de) (be38 al nl ml tl vl de Kst Kret x hS hR h)
  · intro Kst Kret x hS hR s h
    cases s with
    | h0 x0 x1 x2 => exact Holds.eq (t38_0 cond Kst Kret al nl ml tl vl de x0 x1 x2) (b38_0 al nl ml tl vl de Kst Kret x hS hR x0 x1 x2 h)
    | h1 x0 x1 => exact Holds.eq (t38_1 cond Kst Kret al nl ml tl vl de x0 x1) (b38_1 al nl ml tl vl de Kst Kret x hS hR x0 x1 h)
noncomputable def k38 : Con := ⟨38, [.one (.list [.int .u8, .int .u8]), .one (.plain (.int .u8))], fun (x : (Nat × Nat × Nat × (Nat → Int) × (Nat → Int) × Unit) × Int × Unit) => (fun (al nl ml : Nat) (tl : Nat → Int) (vl : Nat → Int) (de : Int) => decide ((al + nl ≤ ml ∧ nl ≤ 1000000) ∧ (0 ≤ de ∧ de ≤ 255) ∧ S.byB (fun j => tl (j + al)) nl = true ∧ S.byB (fun j => vl (j + al)) nl = true)) x.1.1 x.1.2.1 x.1.2.2.1 x.1.2.2.2.1 x.1.2.2.2.2.1 x.2.1, fun (x : (Nat × Nat × Nat × (Nat → Int) × (Nat → Int) × Unit) × Int × Unit) => (fun (al nl ml : Nat) (tl : Nat → Int) (vl : Nat → Int) (de : Int) => (V38 al nl ml tl vl de) (S.madeL nl (fun j => tl (j + al)) (fun j => vl (j + al)))) x.1.1 x.1.2.1 x.1.2.2.1 x.1.2.2.2.1 x.1.2.2.2.2.1 x.2.1, fun (x : (Nat × Nat × Nat × (Nat → Int) × (Nat → Int) × Unit) × Int × Unit) => (fun (al nl ml : Nat) (tl : Nat → Int) (vl : Nat → Int) (de : Int) => (N38 al nl ml tl vl de) (S.madeL nl (fun j => tl (j + al)) (fun j => vl (j + al)))) x.1.1 x.1.2.1 x.1.2.2.1 x.1.2.2.2.1 x.1.2.2.2.2.1 x.2.1, fun _ _ => .dead⟩
theorem s38' (al nl ml : Nat) (tl : Nat → Int) (vl : Nat → Int) (de : Int) (hp : (al + nl ≤ ml ∧ nl ≤ 1000000) ∧ (0 ≤ de ∧ de ≤ 255) ∧ S.byB (fun j => tl (j + al)) nl = true ∧ S.byB (fun j => vl (j + al)) nl = true) : ∀ (k i : Nat) (L : List (ByteArray × Int × Int)), i + k = min nl 8 → Holds (L = S.mkl (i) (fun i => (S.nameI i, tl (i + al), vl (i + al)))) → Comes (q38 al nl ml tl vl de) (.h1 (i : Int) L) (S.mkl (min nl 8) (fun i => (S.nameI i, tl (i + al), vl (i + al)))) := by
  obtain ⟨⟨hp1, hp2⟩, hp3, hp4, hp5⟩ := hp
  intro k
  induction k with
  | zero =>
    intro i L hi eL
    have e := eL.get
    rw [show i = min nl 8 by omega] at e
    apply Comes.of
    show Goes _ _ _
    (first | rw [q38] | unfold q38)
    repeat' first
      | with_reducible refine goes_if (fun h => ?_) (fun h => ?_) <;> (try simp only [lim64, imp_false, decide_eq_true_eq, decide_eq_false_iff_not, Int.toNat_natCast, toNat_pred, toNat_succ, Option.getD_some, Option.getD_none, Bool.not_eq_true', Bool.not_eq_false', Bool.and_eq_true, Bool.or_eq_true, Bool.and_eq_false_iff, Bool.or_eq_false_iff, bne_iff_ne, beq_iff_eq, bne_eq_false_iff_eq, beq_eq_false_iff_ne, ne_eq, not_and, Int.not_le, Int.not_lt, ge_iff_le, gt_iff_lt, Nat.not_lt, Nat.not_le, Bool.not_eq_true, Bool.not_eq_false, Bool.true_eq_false, Bool.false_eq_true, not_false_eq_true, not_true_eq_false] at h)
      | exact goes_none.mpr (by omega)
    all_goals first | (exfalso; omega) | exact goes_inr.mpr e
  | succ k ih =>
    intro i L hi eL
    have h1 := of_decide_eq_true (all_iff.mp hp4 i (by omega))
    have h2 := of_decide_eq_true (all_iff.mp hp5 i (by omega))
    try dsimp only at h1 h2
    have hL : L.length = i := by rw [eL.get, mkl_len]
    have ih := ih (i + 1) (S.snoc L (S.nameI i, tl (i + al), vl (i + al))) (by omega) ⟨by rw [mkl_succ, eL.get]⟩
    have e1 : ((i : Int) + 1).toNat = i + 1 := by omega
    apply Comes.of
    show Goes _ _ _
    (first | rw [q38] | unfold q38)
    try simp only [e1, Int.toNat_natCast]
    try show Goes _ _ _
    repeat' first
      | with_reducible refine goes_if (fun h => ?_) (fun h => ?_) <;> (try simp only [lim64, imp_false, decide_eq_true_eq, decide_eq_false_iff_not, Int.toNat_natCast, toNat_pred, toNat_succ, Option.getD_some, Option.getD_none, Bool.not_eq_true', Bool.not_eq_false', Bool.and_eq_true, Bool.or_eq_true, Bool.and_eq_false_iff, Bool.or_eq_false_iff, bne_iff_ne, beq_iff_eq, bne_eq_false_iff_eq, beq_eq_false_iff_ne, ne_eq, not_and, Int.not_le, Int.not_lt, ge_iff_le, gt_iff_lt, Nat.not_lt, Nat.not_le, Bool.not_eq_true, Bool.not_eq_false, Bool.true_eq_false, Bool.false_eq_true, not_false_eq_true, not_true_eq_false] at h)
      | exact goes_none.mpr (by omega)
    all_goals first | (exfalso; omega) | exact ih
theorem s38 (al nl ml : Nat) (tl : Nat → Int) (vl : Nat → Int) (de : Int) (hp : (al + nl ≤ ml ∧ nl ≤ 1000000) ∧ (0 ≤ de ∧ de ≤ 255) ∧ S.byB (fun j => tl (j + al)) nl = true ∧ S.byB (fun j => vl (j + al)) nl = true) : Goes ((q38 al nl ml tl vl de)) ((p38 al nl ml tl vl de)) (S.madeL nl (fun j => tl (j + al)) (fun j => vl (j + al))) := by
  unfold S.madeL
  by_cases h0 : nl = 0
  · have e : (q38 al nl ml tl vl de) (.h0 0 [(1, 1)] []) = some (.inl (.h0 1 [(1, 1)] [(S.nameI 0, 1, 1)])) := rfl
    have e2 : (q38 al nl ml tl vl de) (.h0 1 [(1, 1)] [(S.nameI 0, 1, 1)]) = some (.inr [(S.nameI 0, 1, 1)]) := rfl
    rw [if_pos h0]
    obtain ⟨⟨hp1, hp2⟩, hp3, hp4, hp5⟩ := hp
    show Goes _ _ _
    unfold p38
    repeat' first
      | with_reducible refine goes_if (fun h => ?_) (fun h => ?_) <;> (try simp only [lim64, imp_false, decide_eq_true_eq, decide_eq_false_iff_not, Int.toNat_natCast, toNat_pred, toNat_succ, Option.getD_some, Option.getD_none, Bool.not_eq_true', Bool.not_eq_false', Bool.and_eq_true, Bool.or_eq_true, Bool.and_eq_false_iff, Bool.or_eq_false_iff, bne_iff_ne, beq_iff_eq, bne_eq_false_iff_eq, beq_eq_false_iff_ne, ne_eq, not_and, Int.not_le, Int.not_lt, ge_iff_le, gt_iff_lt, Nat.not_lt, Nat.not_le, Bool.not_eq_true, Bool.not_eq_false, Bool.true_eq_false, Bool.false_eq_true, not_false_eq_true, not_true_eq_false] at h)
      | exact goes_none.mpr (by omega)
    all_goals first | (exfalso; omega) | exact Comes.next e (Comes.done e2)
  · rw [if_neg h0]
    have hm := s38' al nl ml tl vl de hp (min nl 8) 0 [] (Nat.zero_add _) ⟨rfl⟩
    obtain ⟨⟨hp1, hp2⟩, hp3, hp4, hp5⟩ := hp
    show Goes _ _ _
    unfold p38
    repeat' first
      | with_reducible refine goes_if (fun h => ?_) (fun h => ?_) <;> (try simp only [lim64, imp_false, decide_eq_true_eq, decide_eq_false_iff_not, Int.toNat_natCast, toNat_pred, toNat_succ, Option.getD_some, Option.getD_none, Bool.not_eq_true', Bool.not_eq_false', Bool.and_eq_true, Bool.or_eq_true, Bool.and_eq_false_iff, Bool.or_eq_false_iff, bne_iff_ne, beq_iff_eq, bne_eq_false_iff_eq, beq_eq_false_iff_ne, ne_eq, not_and, Int.not_le, Int.not_lt, ge_iff_le, gt_iff_lt, Nat.not_lt, Nat.not_le, Bool.not_eq_true, Bool.not_eq_false, Bool.true_eq_false, Bool.false_eq_true, not_false_eq_true, not_true_eq_false] at h)
      | exact goes_none.mpr (by omega)
    all_goals first | (exfalso; omega) | exact hm
theorem k38_ok : k38.ok Try.prog := by
  intro x hx
  obtain ⟨⟨al, nl, ml, tl, vl, _⟩, de, _⟩ := x
  obtain ⟨h1, h2⟩ := a38 al nl ml tl vl de (s38 al nl ml tl vl de (of_dec hx rfl))
  exact ⟨⟨400, (by decide : 1 + 1 + 1 ≤ 400), h1⟩, h2⟩
abbrev St40 := Empty
abbrev Rt40 := List Bool
noncomputable def V40 (aq nq mq : Nat) (tq : Nat → ByteArray) (vq : Nat → Int) (gq : Nat → Int) (de : Int) (r : Rt40) : PV := PV.agg
 [PV.loose (PA.mk (0) (3) aq (0)) nq, PV.int IntKind.i64 de,
 PV.own (2) (1) (List.length r), PV.int IntKind.i64 (0 : Int),
 PV.int IntKind.i64 (0 : Int), PV.int IntKind.i64 (0 : Int), PV.tf false,
 PV.tf false]
noncomputable def N40 (aq nq mq : Nat) (tq : Nat → ByteArray) (vq : Nat → Int) (gq : Nat → Int) (de : Int) (r : Rt40) : List Blk := [Blk.cols (List.length r) [Col.bool fun j => S.at' r j]]
noncomputable def I40 (aq nq mq : Nat) (tq : Nat → ByteArray) (vq : Nat → Int) (gq : Nat → Int) (de : Int) : St40 → Hd := fun s => s.elim
noncomputable def q40 (aq nq mq : Nat) (tq : Nat → ByteArray) (vq : Nat → Int) (gq : Nat → Int) (de : Int) : St40 → Option (St40 ⊕ Rt40) := fun s => s.elim
noncomputable def p40 (aq nq mq : Nat) (tq : Nat → ByteArray) (vq : Nat → Int) (gq : Nat → Int) (de : Int) : Option (St40 ⊕ Rt40) := bif (decide (nq ≤ 1000000))
 then (some (.inr (S.mkl nq fun (r : Nat) => decide ((↑r : Int) ≠ (-1 : Int)))))
 else (none)
noncomputable def Te40 (test : Bool → Prop → Prop → Prop) (Kst : KS) (Kret : KR) (aq nq mq : Nat) (tq : Nat → ByteArray) (vq : Nat → Int) (gq : Nat → Int) (de : Int) : Prop :=
  test (decide (nq ≤ 1000000))
 (Kret (PV.agg
 [PV.loose (PA.mk (0) (3) aq (0)) nq, PV.int IntKind.i64 de,
 PV.own (4) (1)
 (List.length (S.mkl nq fun (r : Nat) => decide ((↑r : Int) ≠ (-1 : Int)))),
 PV.int IntKind.i64 (0 : Int), PV.int IntKind.i64 (0 : Int), PV.int IntKind.i64 (0 : Int),
 PV.tf false, PV.tf false]) ([[(0, false,
 Blk.cols mq [Col.str tq, Col.int IntKind.i64 vq, Col.int IntKind.i64 gq]),
 (4, true,
 Blk.cols (List.length (S.mkl nq fun (r : Nat) => decide ((↑r : Int) ≠ (-1 : Int))))
 [Col.bool fun j =>
 S.at' (S.mkl nq fun (r : Nat) => decide ((↑r : Int) ≠ (-1 : Int))) j])]]) (5))
 (False)
theorem te40 (test : Bool → Prop → Prop → Prop) (Kst : KS) (Kret : KR) (aq nq mq : Nat) (tq : Nat → ByteArray) (vq : Nat → Int) (gq : Nat → Int) (de : Int) : run test Try.env true (xQ test) true 400 ⟨40, [.cd (mkFn Try.f40).body], argT 0 [.agg [.loose ⟨0, 3, aq, 0⟩ nq, .int .i64 de]], [[], [(0, (false, .cols mq [.str tq, .int .i64 vq, .int .i64 gq]))]], 1⟩ (proj 1 [] Kst Kret) =
  Te40 test Kst Kret aq nq mq tq vq gq de := by kernel_rfl
theorem be40 (aq nq mq : Nat) (tq : Nat → ByteArray) (vq : Nat → Int) (gq : Nat → Int) (de : Int) (Kst : KS) (Kret : KR) (x : St40 ⊕ Rt40) (hS : HS 1 400 ((I40 aq nq mq tq vq gq de)) Kst x) (hR : HR 1 400 ((V40 aq nq mq tq vq gq de)) (fun r => [newL (1 + 1) ((N40 aq nq mq tq vq gq de) r) ++ [(0, (false, .cols mq [.str tq, .int .i64 vq, .int .i64 gq]))]]) Kret x) (h : (bif (decide (nq ≤ 1000000))
 then (some (.inr (S.mkl nq fun (r : Nat) => decide ((↑r : Int) ≠ (-1 : Int)))))
 else (none) : Option (St40 ⊕ Rt40)) = some x) : Te40 cond Kst Kret aq nq mq tq vq gq de := by
  unfold Te40
  exact bif_split h
   (fun c0 h => ret_at hR _ h (fun n => bif Nat.beq n 2 then 4 else n) rfl rfl rfl (rn_agg ⟨(rn_loose (use_lo rfl) rfl rfl rfl), (rn_int rfl), (rn_own (use_own rfl) rfl rfl), (rn_int rfl), (rn_int rfl), (rn_int rfl), (rn_tf rfl), (rn_tf rfl), trivial⟩) rfl (entl_new (use_own rfl) rfl (Nat.le_of_eq rfl) (rcs_bool (fun _ _ => rfl) rcs_nil) (entl_bor (use_lo rfl) rfl rfl entl_nil)))
   (fun c0 h => no_some h)
theorem a40 (aq nq mq : Nat) (tq : Nat → ByteArray) (vq : Nat → Int) (gq : Nat → Int) (de : Int) {r : Rt40} (h : Goes ((q40 aq nq mq tq vq gq de)) ((p40 aq nq mq tq vq gq de)) r) : CallR Try.prog 40 [.agg [.loose ⟨0, 3, aq, 0⟩ nq, .int .i64 de]] [[(0, (false, .cols mq [.str tq, .int .i64 vq, .int .i64 gq]))]] 1 ((V40 aq nq mq tq vq gq de) r) ((fun r => [newL (1 + 1) ((N40 aq nq mq tq vq gq de) r) ++ [(0, (false, .cols mq [.str tq, .int .i64 vq, .int .i64 gq]))]]) r) 400 ∧ ∃ F, Try.prog.funcs[40]? = some F ∧ F.body.isSome = true ∧ (F.name == "runtime.NumGoroutine") = false := by
  refine dec_calls (f := 40) (lo := 1) (hi := 400) (H := [[(0, (false, .cols mq [.str tq, .int .i64 vq, .int .i64 gq]))]]) (args := [.agg [.loose ⟨0, 3, aq, 0⟩ nq, .int .i64 de]]) Try.envOk Try.mixed xQ_ok ((I40 aq nq mq tq vq gq de)) ((V40 aq nq mq tq vq gq de)) (fun r => [newL (1 + 1) ((N40 aq nq mq tq vq gq de) r) ++ [(0, (false, .cols mq [.str tq, .int .i64 vq, .int .i64 gq]))]]) (fn := mkFn Try.f40) (ts := []) (n := 400) rfl (by decide) (by simp) (names_of rfl) ?_ ?_ ?_ h
  · intro s; exact s.elim
  · intro Kst Kret x hS hR h
    exact Holds.eq (te40 cond Kst Kret aq nq mq tq vq gq de) (be40 aq nq mq tq vq gq de Kst Kret x hS hR h)
  · intro Kst Kret x hS hR s h; exact s.elim
noncomputable def k40 : Con := ⟨40, [.agg [.list [.str, .int .i64, .int .i64], .plain (.int .i64)]], fun (x : ((Nat × Nat × Nat × (Nat → ByteArray) × (Nat → Int) × (Nat → Int) × Unit) × Int × Unit) × Unit) => (fun (aq nq mq : Nat) (tq : Nat → ByteArray) (vq : Nat → Int) (gq : Nat → Int) (de : Int) => decide (nq ≤ 1000000)) x.1.1.1 x.1.1.2.1 x.1.1.2.2.1 x.1.1.2.2.2.1 x.1.1.2.2.2.2.1 x.1.1.2.2.2.2.2.1 x.1.2.1, fun (x : ((Nat × Nat × Nat × (Nat → ByteArray) × (Nat → Int) × (Nat → Int) × Unit) × Int × Unit) × Unit) => (fun (aq nq mq : Nat) (tq : Nat → ByteArray) (vq : Nat → Int) (gq : Nat → Int) (de : Int) => (V40 aq nq mq tq vq gq de) (S.mkl nq (fun r => decide ((r : Int) ≠ -1)))) x.1.1.1 x.1.1.2.1 x.1.1.2.2.1 x.1.1.2.2.2.1 x.1.1.2.2.2.2.1 x.1.1.2.2.2.2.2.1 x.1.2.1, fun (x : ((Nat × Nat × Nat × (Nat → ByteArray) × (Nat → Int) × (Nat → Int) × Unit) × Int × Unit) × Unit) => (fun (aq nq mq : Nat) (tq : Nat → ByteArray) (vq : Nat → Int) (gq : Nat → Int) (de : Int) => (N40 aq nq mq tq vq gq de) (S.mkl nq (fun r => decide ((r : Int) ≠ -1)))) x.1.1.1 x.1.1.2.1 x.1.1.2.2.1 x.1.1.2.2.2.1 x.1.1.2.2.2.2.1 x.1.1.2.2.2.2.2.1 x.1.2.1, fun _ _ => .dead⟩
theorem s40 (aq nq mq : Nat) (tq : Nat → ByteArray) (vq : Nat → Int) (gq : Nat → Int) (de : Int) (hp : nq ≤ 1000000) : Goes ((q40 aq nq mq tq vq gq de)) ((p40 aq nq mq tq vq gq de)) (S.mkl nq (fun r => decide ((r : Int) ≠ -1))) := by
  show Goes _ _ _
  unfold p40
  repeat' first
    | with_reducible refine goes_if (fun h => ?_) (fun h => ?_) <;> (try simp only [lim64, imp_false, decide_eq_true_eq, decide_eq_false_iff_not, Int.toNat_natCast, toNat_pred, toNat_succ, Option.getD_some, Option.getD_none, Bool.not_eq_true', Bool.not_eq_false', Bool.and_eq_true, Bool.or_eq_true, Bool.and_eq_false_iff, Bool.or_eq_false_iff, bne_iff_ne, beq_iff_eq, bne_eq_false_iff_eq, beq_eq_false_iff_ne, ne_eq, not_and, Int.not_le, Int.not_lt, ge_iff_le, gt_iff_lt, Nat.not_lt, Nat.not_le, Bool.not_eq_true, Bool.not_eq_false, Bool.true_eq_false, Bool.false_eq_true, not_false_eq_true, not_true_eq_false] at h)
    | exact goes_none.mpr (by omega)
  all_goals first | (exfalso; omega) | exact goes_inr.mpr rfl
theorem k40_ok : k40.ok Try.prog := by
  intro x hx
  obtain ⟨⟨⟨aq, nq, mq, tq, vq, gq, _⟩, de, _⟩, _⟩ := x
  obtain ⟨h1, h2⟩ := a40 aq nq mq tq vq gq de (s40 aq nq mq tq vq gq de (of_dec hx rfl))
  exact ⟨⟨400, (by decide : 1 + 1 + 1 ≤ 400), h1⟩, h2⟩
noncomputable def xM (test : Bool → Prop → Prop → Prop) : Ext := consX test [k38, k25, k17]
theorem xM_ok : ExtOk Try.prog (xM cond) := consX_ok ⟨k38_ok, k25_ok, k17_ok, trivial⟩
abbrev St12 := Empty
abbrev Rt12 := Bool
noncomputable def V12  (r : Rt12) : PV := PV.bool r
noncomputable def N12  (r : Rt12) : List Blk := []
noncomputable def I12  : St12 → Hd := fun s => s.elim
noncomputable def q12  : St12 → Option (St12 ⊕ Rt12) := fun s => s.elim
noncomputable def p12  : Option (St12 ⊕ Rt12) := some (.inr (true))
noncomputable def Te12 (test : Bool → Prop → Prop → Prop) (Kst : KS) (Kret : KR)  : Prop :=
  test (true)
 (test (true)
 (test (true)
 (test (true)
 (test (true)
 (test (true)
 (test (true)
 (test (true)
 (test (true)
 (test (true)
 (test (true)
 (test (true)
 (Kret (PV.tf true) ([[]]) (8))
 (Kret (PV.tf false) ([[]]) (8)))
 (Kret (PV.tf false) ([[]]) (8)))
 (Kret (PV.tf false) ([[]]) (8)))
 (Kret (PV.tf false) ([[]]) (8)))
 (Kret (PV.tf false) ([[]]) (8)))
 (Kret (PV.tf false) ([[]]) (8)))
 (Kret (PV.tf false) ([[]]) (8)))
 (Kret (PV.tf false) ([[]]) (8)))
 (False))
 (False))
 (False))
 (False)
theorem te12 (test : Bool → Prop → Prop → Prop) (Kst : KS) (Kret : KR)  : run test Try.env true (xM test) true 400 ⟨12, [.cd (mkFn Try.f12).body], argT 0 [], [[], []], 0⟩ (proj 0 [] Kst Kret) =
  Te12 test Kst Kret  := by kernel_rfl
theorem be12  (Kst : KS) (Kret : KR) (x : St12 ⊕ Rt12) (hS : HS 0 400 (I12) Kst x) (hR : HR 0 400 (V12) (fun r => [newL (0 + 1) (N12 r) ++ []]) Kret x) (h : (some (.inr (true)) : Option (St12 ⊕ Rt12)) = some x) : Te12 cond Kst Kret  := by
  unfold Te12
  exact cond_yes rfl (cond_yes rfl (cond_yes rfl (cond_yes rfl (cond_yes rfl (cond_yes rfl (cond_yes rfl (cond_yes rfl (cond_yes rfl (cond_yes rfl (cond_yes rfl (cond_yes rfl (ret_at hR _ h (fun n => n) rfl rfl rfl (rn_bool_tf rfl) rfl entl_nil))))))))))))
theorem a12  {r : Rt12} (h : Goes (q12) (p12) r) : CallR Try.prog 12 [] [[]] 0 (V12 r) ((fun r => [newL (0 + 1) (N12 r) ++ []]) r) 400 ∧ ∃ F, Try.prog.funcs[12]? = some F ∧ F.body.isSome = true ∧ (F.name == "runtime.NumGoroutine") = false := by
  refine dec_calls (f := 12) (lo := 0) (hi := 400) (H := [[]]) (args := []) Try.envOk Try.mixed xM_ok (I12) (V12) (fun r => [newL (0 + 1) (N12 r) ++ []]) (fn := mkFn Try.f12) (ts := []) (n := 400) rfl (by decide) (by simp) (names_of rfl) ?_ ?_ ?_ h
  · intro s; exact s.elim
  · intro Kst Kret x hS hR h
    exact Holds.eq (te12 cond Kst Kret ) (be12  Kst Kret x hS hR h)
  · intro Kst Kret x hS hR s h; exact s.elim
noncomputable def k12 : Con := ⟨12, [], fun (x : Unit) => decide (True), fun (x : Unit) => V12 (true), fun (x : Unit) => N12 (true), fun _ _ => .dead⟩
theorem s12  (hp : True) : Goes (q12) (p12) (true) := by
  exact goes_inr.mpr rfl
theorem k12_ok : k12.ok Try.prog := by
  intro x hx
  obtain _ := x
  obtain ⟨h1, h2⟩ := a12  (s12  (of_dec hx rfl))
  exact ⟨⟨400, (by decide : 0 + 1 + 0 ≤ 400), h1⟩, h2⟩
abbrev St61 := Empty
abbrev Rt61 := Int
noncomputable def V61 (aq nq mq : Nat) (tq : Nat → ByteArray) (vq : Nat → Int) (gq : Nat → Int) (de : Int) (ao no mo : Nat) (to : Nat → Bool) (k1 : Int) (k2 : Int) (k3 : Int) (la : Bool) (lb : Bool) (r : Rt61) : PV := PV.int IntKind.i64 r
noncomputable def N61 (aq nq mq : Nat) (tq : Nat → ByteArray) (vq : Nat → Int) (gq : Nat → Int) (de : Int) (ao no mo : Nat) (to : Nat → Bool) (k1 : Int) (k2 : Int) (k3 : Int) (la : Bool) (lb : Bool) (r : Rt61) : List Blk := []
noncomputable def I61 (aq nq mq : Nat) (tq : Nat → ByteArray) (vq : Nat → Int) (gq : Nat → Int) (de : Int) (ao no mo : Nat) (to : Nat → Bool) (k1 : Int) (k2 : Int) (k3 : Int) (la : Bool) (lb : Bool) : St61 → Hd := fun s => s.elim
noncomputable def q61 (aq nq mq : Nat) (tq : Nat → ByteArray) (vq : Nat → Int) (gq : Nat → Int) (de : Int) (ao no mo : Nat) (to : Nat → Bool) (k1 : Int) (k2 : Int) (k3 : Int) (la : Bool) (lb : Bool) : St61 → Option (St61 ⊕ Rt61) := fun s => s.elim
noncomputable def p61 (aq nq mq : Nat) (tq : Nat → ByteArray) (vq : Nat → Int) (gq : Nat → Int) (de : Int) (ao no mo : Nat) (to : Nat → Bool) (k1 : Int) (k2 : Int) (k3 : Int) (la : Bool) (lb : Bool) : Option (St61 ⊕ Rt61) := bif (decide (aq + nq ≤ mq ∧ nq ≤ 1000000))
 then (bif (S.netE nq (fun j => tq (j + aq)) (fun j => vq (j + aq)) (fun j => gq (j + aq)) de !=
 (0 : Int))
 then (some (.inr (S.netE nq (fun j => tq (j + aq)) (fun j => vq (j + aq)) (fun j => gq (j + aq)) de)))
 else (bif ((↑no : Int) != (↑nq : Int))
 then (some (.inr ((6 : Int))))
 else (bif (decide (nq ≤ 100000))
 then (bif (S.failE nq k1 k2 k3 != (0 : Int))
 then (some (.inr (S.failE nq k1 k2 k3)))
 else (bif (decide (1 ≤ 1 ∧ 1 ≤ 1000000 ∧ ao + no ≤ mo ∧ no ≤ 1000000))
 then (bif (S.opnB (1 : Int) no (fun j => to (j + ao)) (1) (fun j => S.lit [k1] (0 : Int) j)
 (fun j => S.lit [k2] (0 : Int) j) fun j => S.lit [k3] (0 : Int) j)
 then (bif (la)
 then (bif (S.opnB (2 : Int) no (fun j => to (j + ao)) (1) (fun j => S.lit [k1] (0 : Int) j)
 (fun j => S.lit [k2] (0 : Int) j) fun j => S.lit [k3] (0 : Int) j)
 then (bif (lb)
 then (some (.inr ((0 : Int))))
 else (some (.inr ((1 : Int)))))
 else (some (.inr ((0 : Int)))))
 else (some (.inr ((1 : Int)))))
 else (bif (S.opnB (2 : Int) no (fun j => to (j + ao)) (1) (fun j => S.lit [k1] (0 : Int) j)
 (fun j => S.lit [k2] (0 : Int) j) fun j => S.lit [k3] (0 : Int) j)
 then (bif (lb)
 then (some (.inr ((0 : Int))))
 else (some (.inr ((1 : Int)))))
 else (some (.inr ((0 : Int))))))
 else (none)))
 else (none))))
 else (none)
noncomputable def Te61 (test : Bool → Prop → Prop → Prop) (Kst : KS) (Kret : KR) (aq nq mq : Nat) (tq : Nat → ByteArray) (vq : Nat → Int) (gq : Nat → Int) (de : Int) (ao no mo : Nat) (to : Nat → Bool) (k1 : Int) (k2 : Int) (k3 : Int) (la : Bool) (lb : Bool) : Prop :=
  test (decide (aq + nq ≤ mq ∧ nq ≤ 1000000))
 (test (S.netE nq (fun j => tq (j + aq)) (fun j => vq (j + aq)) (fun j => gq (j + aq)) de !=
 (0 : Int))
 (Kret (PV.int IntKind.i64
 (S.netE nq (fun j => tq (j + aq)) (fun j => vq (j + aq)) (fun j => gq (j + aq)) de)) ([[(1, false, Blk.cols mo [Col.bool to]),
 (0, false,
 Blk.cols mq [Col.str tq, Col.int IntKind.i64 vq, Col.int IntKind.i64 gq])]]) (4))
 (test ((↑no : Int) != (↑nq : Int))
 (Kret (PV.int IntKind.i64 (6 : Int)) ([[(1, false, Blk.cols mo [Col.bool to]),
 (0, false,
 Blk.cols mq [Col.str tq, Col.int IntKind.i64 vq, Col.int IntKind.i64 gq])]]) (4))
 (test (decide (nq ≤ 100000))
 (test (S.failE nq k1 k2 k3 != (0 : Int))
 (Kret (PV.int IntKind.i64 (S.failE nq k1 k2 k3)) ([[(1, false, Blk.cols mo [Col.bool to]),
 (0, false,
 Blk.cols mq [Col.str tq, Col.int IntKind.i64 vq, Col.int IntKind.i64 gq])]]) (5))
 (test (decide (1 ≤ 1 ∧ 1 ≤ 1000000 ∧ ao + no ≤ mo ∧ no ≤ 1000000))
 (test (S.opnB (1 : Int) no (fun j => to (j + ao)) (1) (fun j => S.lit [k1] (0 : Int) j)
 (fun j => S.lit [k2] (0 : Int) j) fun j => S.lit [k3] (0 : Int) j)
 (test (la)
 (test (decide (1 ≤ 1 ∧ 1 ≤ 1000000 ∧ ao + no ≤ mo ∧ no ≤ 1000000))
 (test (S.opnB (2 : Int) no (fun j => to (j + ao)) (1) (fun j => S.lit [k1] (0 : Int) j)
 (fun j => S.lit [k2] (0 : Int) j) fun j => S.lit [k3] (0 : Int) j)
 (test (lb)
 (Kret (PV.int IntKind.i64 (0 : Int)) ([[(1, false, Blk.cols mo [Col.bool to]),
 (0, false,
 Blk.cols mq [Col.str tq, Col.int IntKind.i64 vq, Col.int IntKind.i64 gq])]]) (9))
 (Kret (PV.int IntKind.i64 (1 : Int)) ([[(1, false, Blk.cols mo [Col.bool to]),
 (0, false,
 Blk.cols mq [Col.str tq, Col.int IntKind.i64 vq, Col.int IntKind.i64 gq])]]) (9)))
 (Kret (PV.int IntKind.i64 (0 : Int)) ([[(1, false, Blk.cols mo [Col.bool to]),
 (0, false,
 Blk.cols mq [Col.str tq, Col.int IntKind.i64 vq, Col.int IntKind.i64 gq])]]) (9)))
 (False))
 (Kret (PV.int IntKind.i64 (1 : Int)) ([[(1, false, Blk.cols mo [Col.bool to]),
 (0, false,
 Blk.cols mq [Col.str tq, Col.int IntKind.i64 vq, Col.int IntKind.i64 gq])]]) (7)))
 (test (decide (1 ≤ 1 ∧ 1 ≤ 1000000 ∧ ao + no ≤ mo ∧ no ≤ 1000000))
 (test (S.opnB (2 : Int) no (fun j => to (j + ao)) (1) (fun j => S.lit [k1] (0 : Int) j)
 (fun j => S.lit [k2] (0 : Int) j) fun j => S.lit [k3] (0 : Int) j)
 (test (lb)
 (Kret (PV.int IntKind.i64 (0 : Int)) ([[(1, false, Blk.cols mo [Col.bool to]),
 (0, false,
 Blk.cols mq [Col.str tq, Col.int IntKind.i64 vq, Col.int IntKind.i64 gq])]]) (9))
 (Kret (PV.int IntKind.i64 (1 : Int)) ([[(1, false, Blk.cols mo [Col.bool to]),
 (0, false,
 Blk.cols mq [Col.str tq, Col.int IntKind.i64 vq, Col.int IntKind.i64 gq])]]) (9)))
 (Kret (PV.int IntKind.i64 (0 : Int)) ([[(1, false, Blk.cols mo [Col.bool to]),
 (0, false,
 Blk.cols mq [Col.str tq, Col.int IntKind.i64 vq, Col.int IntKind.i64 gq])]]) (9)))
 (False)))
 (False)))
 (False))))
 (False)
theorem te61 (test : Bool → Prop → Prop → Prop) (Kst : KS) (Kret : KR) (aq nq mq : Nat) (tq : Nat → ByteArray) (vq : Nat → Int) (gq : Nat → Int) (de : Int) (ao no mo : Nat) (to : Nat → Bool) (k1 : Int) (k2 : Int) (k3 : Int) (la : Bool) (lb : Bool) : run test Try.env true (xD test) true 400 ⟨61, [.cd (mkFn Try.f61).body], argT 0 [.agg [.loose ⟨0, 3, aq, 0⟩ nq, .int .i64 de, .loose ⟨1, 1, ao, 0⟩ no, .int .i64 k1, .int .i64 k2, .int .i64 k3, .bool la, .bool lb]], [[], [(0, (false, .cols mq [.str tq, .int .i64 vq, .int .i64 gq])), (1, (false, .cols mo [.bool to]))]], 2⟩ (proj 2 [] Kst Kret) =
  Te61 test Kst Kret aq nq mq tq vq gq de ao no mo to k1 k2 k3 la lb := by kernel_rfl
theorem be61 (aq nq mq : Nat) (tq : Nat → ByteArray) (vq : Nat → Int) (gq : Nat → Int) (de : Int) (ao no mo : Nat) (to : Nat → Bool) (k1 : Int) (k2 : Int) (k3 : Int) (la : Bool) (lb : Bool) (Kst : KS) (Kret : KR) (x : St61 ⊕ Rt61) (hS : HS 2 400 ((I61 aq nq mq tq vq gq de ao no mo to k1 k2 k3 la lb)) Kst x) (hR : HR 2 400 ((V61 aq nq mq tq vq gq de ao no mo to k1 k2 k3 la lb)) (fun r => [newL (2 + 1) ((N61 aq nq mq tq vq gq de ao no mo to k1 k2 k3 la lb) r) ++ [(0, (false, .cols mq [.str tq, .int .i64 vq, .int .i64 gq])), (1, (false, .cols mo [.bool to]))]]) Kret x) (h : (bif (decide (aq + nq ≤ mq ∧ nq ≤ 1000000))
 then (bif (S.netE nq (fun j => tq (j + aq)) (fun j => vq (j + aq)) (fun j => gq (j + aq)) de !=
 (0 : Int))
 then (some (.inr (S.netE nq (fun j => tq (j + aq)) (fun j => vq (j + aq)) (fun j => gq (j + aq)) de)))
 else (bif ((↑no : Int) != (↑nq : Int))
 then (some (.inr ((6 : Int))))
 else (bif (decide (nq ≤ 100000))
 then (bif (S.failE nq k1 k2 k3 != (0 : Int))
 then (some (.inr (S.failE nq k1 k2 k3)))
 else (bif (decide (1 ≤ 1 ∧ 1 ≤ 1000000 ∧ ao + no ≤ mo ∧ no ≤ 1000000))
 then (bif (S.opnB (1 : Int) no (fun j => to (j + ao)) (1) (fun j => S.lit [k1] (0 : Int) j)
 (fun j => S.lit [k2] (0 : Int) j) fun j => S.lit [k3] (0 : Int) j)
 then (bif (la)
 then (bif (S.opnB (2 : Int) no (fun j => to (j + ao)) (1) (fun j => S.lit [k1] (0 : Int) j)
 (fun j => S.lit [k2] (0 : Int) j) fun j => S.lit [k3] (0 : Int) j)
 then (bif (lb)
 then (some (.inr ((0 : Int))))
 else (some (.inr ((1 : Int)))))
 else (some (.inr ((0 : Int)))))
 else (some (.inr ((1 : Int)))))
 else (bif (S.opnB (2 : Int) no (fun j => to (j + ao)) (1) (fun j => S.lit [k1] (0 : Int) j)
 (fun j => S.lit [k2] (0 : Int) j) fun j => S.lit [k3] (0 : Int) j)
 then (bif (lb)
 then (some (.inr ((0 : Int))))
 else (some (.inr ((1 : Int)))))
 else (some (.inr ((0 : Int))))))
 else (none)))
 else (none))))
 else (none) : Option (St61 ⊕ Rt61)) = some x) : Te61 cond Kst Kret aq nq mq tq vq gq de ao no mo to k1 k2 k3 la lb := by
  unfold Te61
  exact bif_split h
   (fun c0 h => bif_split h
   (fun c1 h => ret_at hR _ h (fun n => n) rfl rfl rfl (rn_int rfl) rfl (entl_bor (use_lo rfl) rfl rfl (entl_bor (use_lo rfl) rfl rfl entl_nil)))
   (fun c1 h => bif_split h
   (fun c2 h => ret_at hR _ h (fun n => n) rfl rfl rfl (rn_int rfl) rfl (entl_bor (use_lo rfl) rfl rfl (entl_bor (use_lo rfl) rfl rfl entl_nil)))
   (fun c2 h => bif_split h
   (fun c3 h => bif_split h
   (fun c4 h => ret_at hR _ h (fun n => n) rfl rfl rfl (rn_int rfl) rfl (entl_bor (use_lo rfl) rfl rfl (entl_bor (use_lo rfl) rfl rfl entl_nil)))
   (fun c4 h => bif_split h
   (fun c5 h => bif_split h
   (fun c6 h => bif_split h
   (fun c7 h => cond_yes c5 (bif_split h
   (fun c8 h => bif_split h
   (fun c9 h => ret_at hR _ h (fun n => n) rfl rfl rfl (rn_int rfl) rfl (entl_bor (use_lo rfl) rfl rfl (entl_bor (use_lo rfl) rfl rfl entl_nil)))
   (fun c9 h => ret_at hR _ h (fun n => n) rfl rfl rfl (rn_int rfl) rfl (entl_bor (use_lo rfl) rfl rfl (entl_bor (use_lo rfl) rfl rfl entl_nil))))
   (fun c8 h => ret_at hR _ h (fun n => n) rfl rfl rfl (rn_int rfl) rfl (entl_bor (use_lo rfl) rfl rfl (entl_bor (use_lo rfl) rfl rfl entl_nil)))))
   (fun c7 h => ret_at hR _ h (fun n => n) rfl rfl rfl (rn_int rfl) rfl (entl_bor (use_lo rfl) rfl rfl (entl_bor (use_lo rfl) rfl rfl entl_nil))))
   (fun c6 h => cond_yes c5 (bif_split h
   (fun c7 h => bif_split h
   (fun c8 h => ret_at hR _ h (fun n => n) rfl rfl rfl (rn_int rfl) rfl (entl_bor (use_lo rfl) rfl rfl (entl_bor (use_lo rfl) rfl rfl entl_nil)))
   (fun c8 h => ret_at hR _ h (fun n => n) rfl rfl rfl (rn_int rfl) rfl (entl_bor (use_lo rfl) rfl rfl (entl_bor (use_lo rfl) rfl rfl entl_nil))))
   (fun c7 h => ret_at hR _ h (fun n => n) rfl rfl rfl (rn_int rfl) rfl (entl_bor (use_lo rfl) rfl rfl (entl_bor (use_lo rfl) rfl rfl entl_nil))))))
   (fun c5 h => no_some h)))
   (fun c3 h => no_some h))))
   (fun c0 h => no_some h)
theorem a61 (aq nq mq : Nat) (tq : Nat → ByteArray) (vq : Nat → Int) (gq : Nat → Int) (de : Int) (ao no mo : Nat) (to : Nat → Bool) (k1 : Int) (k2 : Int) (k3 : Int) (la : Bool) (lb : Bool) {r : Rt61} (h : Goes ((q61 aq nq mq tq vq gq de ao no mo to k1 k2 k3 la lb)) ((p61 aq nq mq tq vq gq de ao no mo to k1 k2 k3 la lb)) r) : CallR Try.prog 61 [.agg [.loose ⟨0, 3, aq, 0⟩ nq, .int .i64 de, .loose ⟨1, 1, ao, 0⟩ no, .int .i64 k1, .int .i64 k2, .int .i64 k3, .bool la, .bool lb]] [[(0, (false, .cols mq [.str tq, .int .i64 vq, .int .i64 gq])), (1, (false, .cols mo [.bool to]))]] 2 ((V61 aq nq mq tq vq gq de ao no mo to k1 k2 k3 la lb) r) ((fun r => [newL (2 + 1) ((N61 aq nq mq tq vq gq de ao no mo to k1 k2 k3 la lb) r) ++ [(0, (false, .cols mq [.str tq, .int .i64 vq, .int .i64 gq])), (1, (false, .cols mo [.bool to]))]]) r) 400 ∧ ∃ F, Try.prog.funcs[61]? = some F ∧ F.body.isSome = true ∧ (F.name == "runtime.NumGoroutine") = false := by
  refine dec_calls (f := 61) (lo := 2) (hi := 400) (H := [[(0, (false, .cols mq [.str tq, .int .i64 vq, .int .i64 gq])), (1, (false, .cols mo [.bool to]))]]) (args := [.agg [.loose ⟨0, 3, aq, 0⟩ nq, .int .i64 de, .loose ⟨1, 1, ao, 0⟩ no, .int .i64 k1, .int .i64 k2, .int .i64 k3, .bool la, .bool lb]]) Try.envOk Try.mixed xD_ok ((I61 aq nq mq tq vq gq de ao no mo to k1 k2 k3 la lb)) ((V61 aq nq mq tq vq gq de ao no mo to k1 k2 k3 la lb)) (fun r => [newL (2 + 1) ((N61 aq nq mq tq vq gq de ao no mo to k1 k2 k3 la lb) r) ++ [(0, (false, .cols mq [.str tq, .int .i64 vq, .int .i64 gq])), (1, (false, .cols mo [.bool to]))]]) (fn := mkFn Try.f61) (ts := []) (n := 400) rfl (by decide) (by simp) (names_of rfl) ?_ ?_ ?_ h
  · intro s; exact s.elim
  · intro Kst Kret x hS hR h
    exact Holds.eq (te61 cond Kst Kret aq nq mq tq vq gq de ao no mo to k1 k2 k3 la lb) (be61 aq nq mq tq vq gq de ao no mo to k1 k2 k3 la lb Kst Kret x hS hR h)
  · intro Kst Kret x hS hR s h; exact s.elim
noncomputable def k61 : Con := ⟨61, [.agg [.list [.str, .int .i64, .int .i64], .plain (.int .i64), .list [.bool], .plain (.int .i64), .plain (.int .i64), .plain (.int .i64), .plain (.bool), .plain (.bool)]], fun (x : ((Nat × Nat × Nat × (Nat → ByteArray) × (Nat → Int) × (Nat → Int) × Unit) × Int × (Nat × Nat × Nat × (Nat → Bool) × Unit) × Int × Int × Int × Bool × Bool × Unit) × Unit) => (fun (aq nq mq : Nat) (tq : Nat → ByteArray) (vq : Nat → Int) (gq : Nat → Int) (de : Int) (ao no mo : Nat) (to : Nat → Bool) (k1 : Int) (k2 : Int) (k3 : Int) (la : Bool) (lb : Bool) => decide (aq + nq ≤ mq ∧ nq ≤ 1000000 ∧ ao + no ≤ mo)) x.1.1.1 x.1.1.2.1 x.1.1.2.2.1 x.1.1.2.2.2.1 x.1.1.2.2.2.2.1 x.1.1.2.2.2.2.2.1 x.1.2.1 x.1.2.2.1.1 x.1.2.2.1.2.1 x.1.2.2.1.2.2.1 x.1.2.2.1.2.2.2.1 x.1.2.2.2.1 x.1.2.2.2.2.1 x.1.2.2.2.2.2.1 x.1.2.2.2.2.2.2.1 x.1.2.2.2.2.2.2.2.1, fun (x : ((Nat × Nat × Nat × (Nat → ByteArray) × (Nat → Int) × (Nat → Int) × Unit) × Int × (Nat × Nat × Nat × (Nat → Bool) × Unit) × Int × Int × Int × Bool × Bool × Unit) × Unit) => (fun (aq nq mq : Nat) (tq : Nat → ByteArray) (vq : Nat → Int) (gq : Nat → Int) (de : Int) (ao no mo : Nat) (to : Nat → Bool) (k1 : Int) (k2 : Int) (k3 : Int) (la : Bool) (lb : Bool) => (V61 aq nq mq tq vq gq de ao no mo to k1 k2 k3 la lb) (S.stE nq no (S.netE nq (fun j => tq (j + aq)) (fun j => vq (j + aq)) (fun j => gq (j + aq)) de) (fun j => to (j + ao)) k1 k2 k3 la lb)) x.1.1.1 x.1.1.2.1 x.1.1.2.2.1 x.1.1.2.2.2.1 x.1.1.2.2.2.2.1 x.1.1.2.2.2.2.2.1 x.1.2.1 x.1.2.2.1.1 x.1.2.2.1.2.1 x.1.2.2.1.2.2.1 x.1.2.2.1.2.2.2.1 x.1.2.2.2.1 x.1.2.2.2.2.1 x.1.2.2.2.2.2.1 x.1.2.2.2.2.2.2.1 x.1.2.2.2.2.2.2.2.1, fun (x : ((Nat × Nat × Nat × (Nat → ByteArray) × (Nat → Int) × (Nat → Int) × Unit) × Int × (Nat × Nat × Nat × (Nat → Bool) × Unit) × Int × Int × Int × Bool × Bool × Unit) × Unit) => (fun (aq nq mq : Nat) (tq : Nat → ByteArray) (vq : Nat → Int) (gq : Nat → Int) (de : Int) (ao no mo : Nat) (to : Nat → Bool) (k1 : Int) (k2 : Int) (k3 : Int) (la : Bool) (lb : Bool) => (N61 aq nq mq tq vq gq de ao no mo to k1 k2 k3 la lb) (S.stE nq no (S.netE nq (fun j => tq (j + aq)) (fun j => vq (j + aq)) (fun j => gq (j + aq)) de) (fun j => to (j + ao)) k1 k2 k3 la lb)) x.1.1.1 x.1.1.2.1 x.1.1.2.2.1 x.1.1.2.2.2.1 x.1.1.2.2.2.2.1 x.1.1.2.2.2.2.2.1 x.1.2.1 x.1.2.2.1.1 x.1.2.2.1.2.1 x.1.2.2.1.2.2.1 x.1.2.2.1.2.2.2.1 x.1.2.2.2.1 x.1.2.2.2.2.1 x.1.2.2.2.2.2.1 x.1.2.2.2.2.2.2.1 x.1.2.2.2.2.2.2.2.1, fun _ _ => .dead⟩
theorem s61 (aq nq mq : Nat) (tq : Nat → ByteArray) (vq : Nat → Int) (gq : Nat → Int) (de : Int) (ao no mo : Nat) (to : Nat → Bool) (k1 : Int) (k2 : Int) (k3 : Int) (la : Bool) (lb : Bool) (hp : aq + nq ≤ mq ∧ nq ≤ 1000000 ∧ ao + no ≤ mo) : Goes ((q61 aq nq mq tq vq gq de ao no mo to k1 k2 k3 la lb)) ((p61 aq nq mq tq vq gq de ao no mo to k1 k2 k3 la lb)) (S.stE nq no (S.netE nq (fun j => tq (j + aq)) (fun j => vq (j + aq)) (fun j => gq (j + aq)) de) (fun j => to (j + ao)) k1 k2 k3 la lb) := by
  obtain ⟨hp1, hp2, hp3⟩ := hp
  have hn : (S.netE nq (fun j => tq (j + aq)) (fun j => vq (j + aq)) (fun j => gq (j + aq)) de) = 0 → nq ≤ 12 := fun h => (net_ok h).1.2
  unfold p61 S.stE
  simp only [op1_eq]
  by_cases hx : no = nq
  · rw [show S.op1 1 no = S.op1 1 nq by rw [hx], show S.op1 2 no = S.op1 2 nq by rw [hx]]
    generalize (S.netE nq (fun j => tq (j + aq)) (fun j => vq (j + aq)) (fun j => gq (j + aq)) de) = e at *
    generalize S.failE nq k1 k2 k3 = fe at *
    generalize S.op1 1 nq (fun j => to (j + ao)) k1 k2 k3 = A at *
    generalize S.op1 2 nq (fun j => to (j + ao)) k1 k2 k3 = B at *
    show Goes _ _ _
    cases A <;> cases B <;> cases la <;> cases lb
    all_goals
     repeat' first
      | with_reducible refine goes_if (fun h => ?_) (fun h => ?_) <;> (try simp only [lim64, imp_false, decide_eq_true_eq, decide_eq_false_iff_not, Int.toNat_natCast, toNat_pred, toNat_succ, Option.getD_some, Option.getD_none, Bool.not_eq_true', Bool.not_eq_false', Bool.and_eq_true, Bool.or_eq_true, Bool.and_eq_false_iff, Bool.or_eq_false_iff, bne_iff_ne, beq_iff_eq, bne_eq_false_iff_eq, beq_eq_false_iff_ne, ne_eq, not_and, Int.not_le, Int.not_lt, ge_iff_le, gt_iff_lt, Nat.not_lt, Nat.not_le, Bool.not_eq_true, Bool.not_eq_false, Bool.true_eq_false, Bool.false_eq_true, not_false_eq_true, not_true_eq_false] at h)
      | exact goes_none.mpr (by omega)
     all_goals first | (exfalso; omega) | exact goes_inr.mpr rfl | (refine goes_inr.mpr ?_; (repeat' split) <;> first | rfl | (exfalso; omega) | (exfalso; simp_all; done))
  · generalize (S.netE nq (fun j => tq (j + aq)) (fun j => vq (j + aq)) (fun j => gq (j + aq)) de) = e at *
    show Goes _ _ _
    repeat' first
      | with_reducible refine goes_if (fun h => ?_) (fun h => ?_) <;> (try simp only [lim64, imp_false, decide_eq_true_eq, decide_eq_false_iff_not, Int.toNat_natCast, toNat_pred, toNat_succ, Option.getD_some, Option.getD_none, Bool.not_eq_true', Bool.not_eq_false', Bool.and_eq_true, Bool.or_eq_true, Bool.and_eq_false_iff, Bool.or_eq_false_iff, bne_iff_ne, beq_iff_eq, bne_eq_false_iff_eq, beq_eq_false_iff_ne, ne_eq, not_and, Int.not_le, Int.not_lt, ge_iff_le, gt_iff_lt, Nat.not_lt, Nat.not_le, Bool.not_eq_true, Bool.not_eq_false, Bool.true_eq_false, Bool.false_eq_true, not_false_eq_true, not_true_eq_false] at h)
      | exact goes_none.mpr (by omega)
    all_goals first | (exfalso; omega) | exact goes_inr.mpr rfl | (refine goes_inr.mpr ?_; (repeat' split) <;> first | rfl | (exfalso; omega) | (exfalso; simp_all; done))
theorem k61_ok : k61.ok Try.prog := by
  intro x hx
  obtain ⟨⟨⟨aq, nq, mq, tq, vq, gq, _⟩, de, ⟨ao, no, mo, to, _⟩, k1, k2, k3, la, lb, _⟩, _⟩ := x
  obtain ⟨h1, h2⟩ := a61 aq nq mq tq vq gq de ao no mo to k1 k2 k3 la lb (s61 aq nq mq tq vq gq de ao no mo to k1 k2 k3 la lb (of_dec hx rfl))
  exact ⟨⟨400, (by decide : 2 + 1 + 0 ≤ 400), h1⟩, h2⟩
abbrev St62 := Empty
abbrev Rt62 := List (ByteArray × Int × Int) × List Bool
noncomputable def V62 (aq nq mq : Nat) (tq : Nat → ByteArray) (vq : Nat → Int) (gq : Nat → Int) (de : Int) (ao no mo : Nat) (to : Nat → Bool) (k1 : Int) (k2 : Int) (k3 : Int) (la : Bool) (lb : Bool) (r : Rt62) : PV := PV.agg
 [PV.own (3) (3) (List.length r.1), PV.int IntKind.i64 de,
 PV.own (4) (1) (List.length r.2), PV.int IntKind.i64 k1,
 PV.int IntKind.i64 k2, PV.int IntKind.i64 k3, PV.bool la, PV.bool lb]
noncomputable def N62 (aq nq mq : Nat) (tq : Nat → ByteArray) (vq : Nat → Int) (gq : Nat → Int) (de : Int) (ao no mo : Nat) (to : Nat → Bool) (k1 : Int) (k2 : Int) (k3 : Int) (la : Bool) (lb : Bool) (r : Rt62) : List Blk := [Blk.cols (List.length r.1)
 [Col.str fun j => (S.at' r.1 j).1,
 Col.int IntKind.i64 fun j => (S.at' r.1 j).2.1,
 Col.int IntKind.i64 fun j => (S.at' r.1 j).2.2], Blk.cols (List.length r.2) [Col.bool fun j => S.at' r.2 j]]
noncomputable def I62 (aq nq mq : Nat) (tq : Nat → ByteArray) (vq : Nat → Int) (gq : Nat → Int) (de : Int) (ao no mo : Nat) (to : Nat → Bool) (k1 : Int) (k2 : Int) (k3 : Int) (la : Bool) (lb : Bool) : St62 → Hd := fun s => s.elim
noncomputable def q62 (aq nq mq : Nat) (tq : Nat → ByteArray) (vq : Nat → Int) (gq : Nat → Int) (de : Int) (ao no mo : Nat) (to : Nat → Bool) (k1 : Int) (k2 : Int) (k3 : Int) (la : Bool) (lb : Bool) : St62 → Option (St62 ⊕ Rt62) := fun s => s.elim
noncomputable def p62 (aq nq mq : Nat) (tq : Nat → ByteArray) (vq : Nat → Int) (gq : Nat → Int) (de : Int) (ao no mo : Nat) (to : Nat → Bool) (k1 : Int) (k2 : Int) (k3 : Int) (la : Bool) (lb : Bool) : Option (St62 ⊕ Rt62) := bif (decide (aq + nq ≤ mq ∧ nq ≤ 1000000))
 then (bif (decide (ao + no ≤ mo ∧ no ≤ 1000000))
 then (some (.inr (S.mkl nq fun j => (tq (j + aq), vq (j + aq), gq (j + aq)), S.mkl no fun j => to (j + ao))))
 else (none))
 else (none)
noncomputable def Te62 (test : Bool → Prop → Prop → Prop) (Kst : KS) (Kret : KR) (aq nq mq : Nat) (tq : Nat → ByteArray) (vq : Nat → Int) (gq : Nat → Int) (de : Int) (ao no mo : Nat) (to : Nat → Bool) (k1 : Int) (k2 : Int) (k3 : Int) (la : Bool) (lb : Bool) : Prop :=
  test (decide (aq + nq ≤ mq ∧ nq ≤ 1000000))
 (test (decide (ao + no ≤ mo ∧ no ≤ 1000000))
 (Kret (PV.agg
 [PV.own (7) (3) nq, PV.int IntKind.i64 de, PV.own (9) (1) no,
 PV.int IntKind.i64 k1, PV.int IntKind.i64 k2, PV.int IntKind.i64 k3, PV.bool la,
 PV.bool lb]) ([[(1, false, Blk.cols mo [Col.bool to]),
 (0, false,
 Blk.cols mq [Col.str tq, Col.int IntKind.i64 vq, Col.int IntKind.i64 gq]),
 (9, true, Blk.cols no [Col.bool fun j => to (j + ao)]),
 (7, true,
 Blk.cols nq
 [Col.str fun j => tq (j + aq), Col.int IntKind.i64 fun j => vq (j + aq),
 Col.int IntKind.i64 fun j => gq (j + aq)])]]) (10))
 (False))
 (False)
theorem te62 (test : Bool → Prop → Prop → Prop) (Kst : KS) (Kret : KR) (aq nq mq : Nat) (tq : Nat → ByteArray) (vq : Nat → Int) (gq : Nat → Int) (de : Int) (ao no mo : Nat) (to : Nat → Bool) (k1 : Int) (k2 : Int) (k3 : Int) (la : Bool) (lb : Bool) : run test Try.env true (xD test) true 400 ⟨62, [.cd (mkFn Try.f62).body], argT 0 [.agg [.loose ⟨0, 3, aq, 0⟩ nq, .int .i64 de, .loose ⟨1, 1, ao, 0⟩ no, .int .i64 k1, .int .i64 k2, .int .i64 k3, .bool la, .bool lb]], [[], [(0, (false, .cols mq [.str tq, .int .i64 vq, .int .i64 gq])), (1, (false, .cols mo [.bool to]))]], 2⟩ (proj 2 [] Kst Kret) =
  Te62 test Kst Kret aq nq mq tq vq gq de ao no mo to k1 k2 k3 la lb := by kernel_rfl
theorem be62 (aq nq mq : Nat) (tq : Nat → ByteArray) (vq : Nat → Int) (gq : Nat → Int) (de : Int) (ao no mo : Nat) (to : Nat → Bool) (k1 : Int) (k2 : Int) (k3 : Int) (la : Bool) (lb : Bool) (Kst : KS) (Kret : KR) (x : St62 ⊕ Rt62) (hS : HS 2 400 ((I62 aq nq mq tq vq gq de ao no mo to k1 k2 k3 la lb)) Kst x) (hR : HR 2 400 ((V62 aq nq mq tq vq gq de ao no mo to k1 k2 k3 la lb)) (fun r => [newL (2 + 1) ((N62 aq nq mq tq vq gq de ao no mo to k1 k2 k3 la lb) r) ++ [(0, (false, .cols mq [.str tq, .int .i64 vq, .int .i64 gq])), (1, (false, .cols mo [.bool to]))]]) Kret x) (h : (bif (decide (aq + nq ≤ mq ∧ nq ≤ 1000000))
 then (bif (decide (ao + no ≤ mo ∧ no ≤ 1000000))
 then (some (.inr (S.mkl nq fun j => (tq (j + aq), vq (j + aq), gq (j + aq)), S.mkl no fun j => to (j + ao))))
 else (none))
 else (none) : Option (St62 ⊕ Rt62)) = some x) : Te62 cond Kst Kret aq nq mq tq vq gq de ao no mo to k1 k2 k3 la lb := by
  unfold Te62
  exact bif_split h
   (fun c0 h => bif_split h
   (fun c1 h => ret_at hR _ h (fun n => bif Nat.beq n 3 then 7 else bif Nat.beq n 4 then 9 else n) rfl rfl rfl (rn_agg ⟨(rn_own (use_own rfl) rfl mkl_len), (rn_int rfl), (rn_own (use_own rfl) rfl mkl_len), (rn_int rfl), (rn_int rfl), (rn_int rfl), (rn_bool rfl), (rn_bool rfl), trivial⟩) rfl (entl_new (use_own rfl) rfl (Nat.le_of_eq mkl_len) (rcs_str (fun _ hj => col_mkl (fun (t : ByteArray × Int × Int) => t.1) hj) (rcs_int (fun _ hj => col_mkl (fun (t : ByteArray × Int × Int) => t.2.1) hj) (rcs_int (fun _ hj => col_mkl (fun (t : ByteArray × Int × Int) => t.2.2) hj) rcs_nil))) (entl_new (use_own rfl) rfl (Nat.le_of_eq mkl_len) (rcs_bool (fun _ hj => col_mkl (fun (t : Bool) => t) hj) rcs_nil) (entl_bor (use_lo rfl) rfl rfl (entl_bor (use_lo rfl) rfl rfl entl_nil)))))
   (fun c1 h => no_some h))
   (fun c0 h => no_some h)
theorem a62 (aq nq mq : Nat) (tq : Nat → ByteArray) (vq : Nat → Int) (gq : Nat → Int) (de : Int) (ao no mo : Nat) (to : Nat → Bool) (k1 : Int) (k2 : Int) (k3 : Int) (la : Bool) (lb : Bool) {r : Rt62} (h : Goes ((q62 aq nq mq tq vq gq de ao no mo to k1 k2 k3 la lb)) ((p62 aq nq mq tq vq gq de ao no mo to k1 k2 k3 la lb)) r) : CallR Try.prog 62 [.agg [.loose ⟨0, 3, aq, 0⟩ nq, .int .i64 de, .loose ⟨1, 1, ao, 0⟩ no, .int .i64 k1, .int .i64 k2, .int .i64 k3, .bool la, .bool lb]] [[(0, (false, .cols mq [.str tq, .int .i64 vq, .int .i64 gq])), (1, (false, .cols mo [.bool to]))]] 2 ((V62 aq nq mq tq vq gq de ao no mo to k1 k2 k3 la lb) r) ((fun r => [newL (2 + 1) ((N62 aq nq mq tq vq gq de ao no mo to k1 k2 k3 la lb) r) ++ [(0, (false, .cols mq [.str tq, .int .i64 vq, .int .i64 gq])), (1, (false, .cols mo [.bool to]))]]) r) 400 ∧ ∃ F, Try.prog.funcs[62]? = some F ∧ F.body.isSome = true ∧ (F.name == "runtime.NumGoroutine") = false := by
  refine dec_calls (f := 62) (lo := 2) (hi := 400) (H := [[(0, (false, .cols mq [.str tq, .int .i64 vq, .int .i64 gq])), (1, (false, .cols mo [.bool to]))]]) (args := [.agg [.loose ⟨0, 3, aq, 0⟩ nq, .int .i64 de, .loose ⟨1, 1, ao, 0⟩ no, .int .i64 k1, .int .i64 k2, .int .i64 k3, .bool la, .bool lb]]) Try.envOk Try.mixed xD_ok ((I62 aq nq mq tq vq gq de ao no mo to k1 k2 k3 la lb)) ((V62 aq nq mq tq vq gq de ao no mo to k1 k2 k3 la lb)) (fun r => [newL (2 + 1) ((N62 aq nq mq tq vq gq de ao no mo to k1 k2 k3 la lb) r) ++ [(0, (false, .cols mq [.str tq, .int .i64 vq, .int .i64 gq])), (1, (false, .cols mo [.bool to]))]]) (fn := mkFn Try.f62) (ts := []) (n := 400) rfl (by decide) (by simp) (names_of rfl) ?_ ?_ ?_ h
  · intro s; exact s.elim
  · intro Kst Kret x hS hR h
    exact Holds.eq (te62 cond Kst Kret aq nq mq tq vq gq de ao no mo to k1 k2 k3 la lb) (be62 aq nq mq tq vq gq de ao no mo to k1 k2 k3 la lb Kst Kret x hS hR h)
  · intro Kst Kret x hS hR s h; exact s.elim
noncomputable def k62 : Con := ⟨62, [.agg [.list [.str, .int .i64, .int .i64], .plain (.int .i64), .list [.bool], .plain (.int .i64), .plain (.int .i64), .plain (.int .i64), .plain (.bool), .plain (.bool)]], fun (x : ((Nat × Nat × Nat × (Nat → ByteArray) × (Nat → Int) × (Nat → Int) × Unit) × Int × (Nat × Nat × Nat × (Nat → Bool) × Unit) × Int × Int × Int × Bool × Bool × Unit) × Unit) => (fun (aq nq mq : Nat) (tq : Nat → ByteArray) (vq : Nat → Int) (gq : Nat → Int) (de : Int) (ao no mo : Nat) (to : Nat → Bool) (k1 : Int) (k2 : Int) (k3 : Int) (la : Bool) (lb : Bool) => decide (aq + nq ≤ mq ∧ nq ≤ 1000000 ∧ ao + no ≤ mo ∧ no ≤ 1000000)) x.1.1.1 x.1.1.2.1 x.1.1.2.2.1 x.1.1.2.2.2.1 x.1.1.2.2.2.2.1 x.1.1.2.2.2.2.2.1 x.1.2.1 x.1.2.2.1.1 x.1.2.2.1.2.1 x.1.2.2.1.2.2.1 x.1.2.2.1.2.2.2.1 x.1.2.2.2.1 x.1.2.2.2.2.1 x.1.2.2.2.2.2.1 x.1.2.2.2.2.2.2.1 x.1.2.2.2.2.2.2.2.1, fun (x : ((Nat × Nat × Nat × (Nat → ByteArray) × (Nat → Int) × (Nat → Int) × Unit) × Int × (Nat × Nat × Nat × (Nat → Bool) × Unit) × Int × Int × Int × Bool × Bool × Unit) × Unit) => (fun (aq nq mq : Nat) (tq : Nat → ByteArray) (vq : Nat → Int) (gq : Nat → Int) (de : Int) (ao no mo : Nat) (to : Nat → Bool) (k1 : Int) (k2 : Int) (k3 : Int) (la : Bool) (lb : Bool) => (V62 aq nq mq tq vq gq de ao no mo to k1 k2 k3 la lb) (((S.mkl nq fun j => (tq (j + aq), vq (j + aq), gq (j + aq))), (S.mkl no fun j => to (j + ao))))) x.1.1.1 x.1.1.2.1 x.1.1.2.2.1 x.1.1.2.2.2.1 x.1.1.2.2.2.2.1 x.1.1.2.2.2.2.2.1 x.1.2.1 x.1.2.2.1.1 x.1.2.2.1.2.1 x.1.2.2.1.2.2.1 x.1.2.2.1.2.2.2.1 x.1.2.2.2.1 x.1.2.2.2.2.1 x.1.2.2.2.2.2.1 x.1.2.2.2.2.2.2.1 x.1.2.2.2.2.2.2.2.1, fun (x : ((Nat × Nat × Nat × (Nat → ByteArray) × (Nat → Int) × (Nat → Int) × Unit) × Int × (Nat × Nat × Nat × (Nat → Bool) × Unit) × Int × Int × Int × Bool × Bool × Unit) × Unit) => (fun (aq nq mq : Nat) (tq : Nat → ByteArray) (vq : Nat → Int) (gq : Nat → Int) (de : Int) (ao no mo : Nat) (to : Nat → Bool) (k1 : Int) (k2 : Int) (k3 : Int) (la : Bool) (lb : Bool) => (N62 aq nq mq tq vq gq de ao no mo to k1 k2 k3 la lb) (((S.mkl nq fun j => (tq (j + aq), vq (j + aq), gq (j + aq))), (S.mkl no fun j => to (j + ao))))) x.1.1.1 x.1.1.2.1 x.1.1.2.2.1 x.1.1.2.2.2.1 x.1.1.2.2.2.2.1 x.1.1.2.2.2.2.2.1 x.1.2.1 x.1.2.2.1.1 x.1.2.2.1.2.1 x.1.2.2.1.2.2.1 x.1.2.2.1.2.2.2.1 x.1.2.2.2.1 x.1.2.2.2.2.1 x.1.2.2.2.2.2.1 x.1.2.2.2.2.2.2.1 x.1.2.2.2.2.2.2.2.1, fun _ _ => .dead⟩
theorem s62 (aq nq mq : Nat) (tq : Nat → ByteArray) (vq : Nat → Int) (gq : Nat → Int) (de : Int) (ao no mo : Nat) (to : Nat → Bool) (k1 : Int) (k2 : Int) (k3 : Int) (la : Bool) (lb : Bool) (hp : aq + nq ≤ mq ∧ nq ≤ 1000000 ∧ ao + no ≤ mo ∧ no ≤ 1000000) : Goes ((q62 aq nq mq tq vq gq de ao no mo to k1 k2 k3 la lb)) ((p62 aq nq mq tq vq gq de ao no mo to k1 k2 k3 la lb)) (((S.mkl nq fun j => (tq (j + aq), vq (j + aq), gq (j + aq))), (S.mkl no fun j => to (j + ao)))) := by
  obtain ⟨hp1, hp2, hp3, hp4⟩ := hp
  show Goes _ _ _
  unfold p62
  repeat' first
    | with_reducible refine goes_if (fun h => ?_) (fun h => ?_) <;> (try simp only [lim64, imp_false, decide_eq_true_eq, decide_eq_false_iff_not, Int.toNat_natCast, toNat_pred, toNat_succ, Option.getD_some, Option.getD_none, Bool.not_eq_true', Bool.not_eq_false', Bool.and_eq_true, Bool.or_eq_true, Bool.and_eq_false_iff, Bool.or_eq_false_iff, bne_iff_ne, beq_iff_eq, bne_eq_false_iff_eq, beq_eq_false_iff_ne, ne_eq, not_and, Int.not_le, Int.not_lt, ge_iff_le, gt_iff_lt, Nat.not_lt, Nat.not_le, Bool.not_eq_true, Bool.not_eq_false, Bool.true_eq_false, Bool.false_eq_true, not_false_eq_true, not_true_eq_false] at h)
    | exact goes_none.mpr (by omega)
  all_goals first | (exfalso; omega) | exact goes_inr.mpr rfl
theorem k62_ok : k62.ok Try.prog := by
  intro x hx
  obtain ⟨⟨⟨aq, nq, mq, tq, vq, gq, _⟩, de, ⟨ao, no, mo, to, _⟩, k1, k2, k3, la, lb, _⟩, _⟩ := x
  obtain ⟨h1, h2⟩ := a62 aq nq mq tq vq gq de ao no mo to k1 k2 k3 la lb (s62 aq nq mq tq vq gq de ao no mo to k1 k2 k3 la lb (of_dec hx rfl))
  exact ⟨⟨400, (by decide : 2 + 1 + 2 ≤ 400), h1⟩, h2⟩
noncomputable def xO (test : Bool → Prop → Prop → Prop) : Ext := consX test [k61, k62, k57, k53, k41, k59, k54, k66]
theorem xO_ok : ExtOk Try.prog (xO cond) := consX_ok ⟨k61_ok, k62_ok, k57_ok, k53_ok, k41_ok, k59_ok, k54_ok, k66_ok, trivial⟩
namespace S
abbrev D9 := Int × Int × Int × Int × Bool × Bool × Int × List (ByteArray × Int × Int) × List Bool
def doErr (e : Int) : D9 := (0, 0, 0, 0, false, false, e, [], [])
def doRes (n : Nat) (de : Int) (Q : List (ByteArray × Int × Int)) (L : List Bool) (k l p : Int) (la lb : Bool) : D9 := (de, k, l, p, la || op1 1 n (fun j => at' L j) k l p, lb || op1 2 n (fun j => at' L j) k l p, 0, Q, L)
def updB (n : Nat) (to : Nat → Bool) (s : Nat) (v : Bool) : List Bool := mkl n fun j => bif Nat.beq j s then v else to j
def doS (n : Nat) (e de : Int) (Q : List (ByteArray × Int × Int)) (to : Nat → Bool) (k l p : Int) (la lb : Bool) (ki ss f1 f2 f3 : Int) : D9 :=
  if e = 0 then
    if ki = 1 ∨ ki = 2 then (if 0 ≤ ss ∧ ss < (n : Int) then doRes n de Q (updB n to ss.toNat (decide (ki = 2))) k l p la lb else doErr 6)
    else if ki = 3 then (if failE n f1 f2 f3 = 0 then doRes n de Q (mkl n to) f1 f2 f3 la lb else doErr (failE n f1 f2 f3))
    else if ki = 4 then doRes n de Q (mkl n to) 0 0 0 la lb
    else if ki = 5 then (if any (fun j => !to j) n = true ∨ op1 1 n to k l p = true ∨ op1 2 n to k l p = true then doErr 8 else doRes n de Q (mkl n to) k l p false false)
    else doErr 1
  else doErr e
end S
theorem ste_ok {n no : Nat} {e k l p : Int} {to : Nat → Bool} {la lb : Bool} (h : S.stE n no e to k l p la lb = 0) : e = 0 ∧ no = n ∧ S.failE n k l p = 0 ∧ (S.op1 1 n to k l p = true → la = true) ∧ (S.op1 2 n to k l p = true → lb = true) := by
  unfold S.stE at h
  split at h
  · split at h
    · split at h
      · rename_i h1 h2 h3
        refine ⟨h1, h2, h3, ?_, ?_⟩
        · intro h4
          cases la
          · rw [h4] at h; simp at h
          · rfl
        · intro h4
          cases lb
          · rw [h4] at h; simp at h
          · rfl
      · contradiction
    · cases h
  · contradiction
theorem op1_mkl {lp : Int} {n : Nat} {to : Nat → Bool} {k l p : Int} : S.op1 lp n (fun j => S.at' (S.mkl n to) j) k l p = S.op1 lp n to k l p :=
  opnB_congr (fun j hj => at_mkl hj) (fun j hj => ⟨rfl, rfl, rfl⟩)
noncomputable abbrev c34_e_0 (aq : Nat) (nq : Nat) (tq : Nat → ByteArray) (vq : Nat → Int) (gq : Nat → Int) :=
 (7, true,
 Blk.cols (List.length (S.mkl nq fun j => (tq (j + aq), vq (j + aq), gq (j + aq))))
 [Col.str fun j =>
 (S.at' (S.mkl nq fun j => (tq (j + aq), vq (j + aq), gq (j + aq))) j).1,
 Col.int IntKind.i64 fun j =>
 Prod.fst
 ((S.at' (S.mkl nq fun j => (tq (j + aq), vq (j + aq), gq (j + aq))) j).2),
 Col.int IntKind.i64 fun j =>
 Prod.snd
 ((S.at' (S.mkl nq fun j => (tq (j + aq), vq (j + aq), gq (j + aq))) j).2)])
noncomputable abbrev c34_e_1 (ao : Nat) (no : Nat) (to : Nat → Bool) :=
 decide
 (1 ≤ 1 ∧
 1 ≤ 1000000 ∧
 0 + List.length (S.mkl no fun j => to (j + ao)) ≤
 List.length (S.mkl no fun j => to (j + ao)) ∧
 List.length (S.mkl no fun j => to (j + ao)) ≤ 1000000)
noncomputable abbrev c34_e_2 (aq : Nat) (nq : Nat) (mq : Nat) (tq : Nat → ByteArray) (vq : Nat → Int) (gq : Nat → Int) (ao : Nat) (no : Nat) (mo : Nat) (to : Nat → Bool) :=
 ([[(1, false, Blk.cols mo [Col.bool to]),
 (0, false,
 Blk.cols mq [Col.str tq, Col.int IntKind.i64 vq, Col.int IntKind.i64 gq]),
 (8, true,
 Blk.cols (List.length (S.mkl no fun j => to (j + ao)))
 [Col.bool fun j => S.at' (S.mkl no fun j => to (j + ao)) j]),
 (c34_e_0 aq nq tq vq gq)]])
noncomputable abbrev c34_e_3 (aq : Nat) (nq : Nat) (mq : Nat) (tq : Nat → ByteArray) (vq : Nat → Int) (gq : Nat → Int) (ao : Nat) (no : Nat) (mo : Nat) (to : Nat → Bool) (ss : Int) :=
 ([[(1, false, Blk.cols mo [Col.bool to]),
 (0, false,
 Blk.cols mq [Col.str tq, Col.int IntKind.i64 vq, Col.int IntKind.i64 gq]),
 (8, true,
 Blk.cols (List.length (S.mkl no fun j => to (j + ao)))
 [Col.bool fun j =>
 bif Nat.beq j (Int.toNat ss) then false
 else S.at' (S.mkl no fun j => to (j + ao)) j]),
 (c34_e_0 aq nq tq vq gq)]])
noncomputable abbrev c34_e_4 (aq : Nat) (nq : Nat) (mq : Nat) (tq : Nat → ByteArray) (vq : Nat → Int) (gq : Nat → Int) (ao : Nat) (no : Nat) (mo : Nat) (to : Nat → Bool) (ss : Int) :=
 ([[(1, false, Blk.cols mo [Col.bool to]),
 (0, false,
 Blk.cols mq [Col.str tq, Col.int IntKind.i64 vq, Col.int IntKind.i64 gq]),
 (8, true,
 Blk.cols (List.length (S.mkl no fun j => to (j + ao)))
 [Col.bool fun j =>
 bif Nat.beq j (Int.toNat ss) then true
 else S.at' (S.mkl no fun j => to (j + ao)) j]),
 (c34_e_0 aq nq tq vq gq)]])
noncomputable abbrev c34_e_5 (aq : Nat) (nq : Nat) (tq : Nat → ByteArray) (vq : Nat → Int) (gq : Nat → Int) (de : Int) (ao : Nat) (no : Nat) (to : Nat → Bool) (k1 : Int) (k2 : Int) (k3 : Int) :=
 (PV.tup
 [PV.agg
 [PV.own (7) (3)
 (List.length (S.mkl nq fun j => (tq (j + aq), vq (j + aq), gq (j + aq)))),
 PV.int IntKind.i64 de,
 PV.own (8) (1) (List.length (S.mkl no fun j => to (j + ao))),
 PV.int IntKind.i64 k1, PV.int IntKind.i64 k2, PV.int IntKind.i64 k3,
 PV.tf true, PV.tf true],
 PV.int IntKind.i64 (0 : Int)])
noncomputable abbrev c34_e_6 (ao : Nat) (no : Nat) (to : Nat → Bool) (k1 : Int) (k2 : Int) (k3 : Int) (ss : Int) :=
 S.opnB (2 : Int) (List.length (S.mkl no fun j => to (j + ao)))
 (fun j =>
 bif Nat.beq j (Int.toNat ss) then true else S.at' (S.mkl no fun j => to (j + ao)) j)
 (1) (fun j => S.lit [k1] (0 : Int) j) (fun j => S.lit [k2] (0 : Int) j)
 fun j => S.lit [k3] (0 : Int) j
noncomputable abbrev c34_e_7 (aq : Nat) (nq : Nat) (tq : Nat → ByteArray) (vq : Nat → Int) (gq : Nat → Int) (de : Int) (ao : Nat) (no : Nat) (to : Nat → Bool) (k1 : Int) (k2 : Int) (k3 : Int) :=
 (PV.tup
 [PV.agg
 [PV.own (7) (3)
 (List.length (S.mkl nq fun j => (tq (j + aq), vq (j + aq), gq (j + aq)))),
 PV.int IntKind.i64 de,
 PV.own (8) (1) (List.length (S.mkl no fun j => to (j + ao))),
 PV.int IntKind.i64 k1, PV.int IntKind.i64 k2, PV.int IntKind.i64 k3,
 PV.tf true, PV.tf false],
 PV.int IntKind.i64 (0 : Int)])
noncomputable abbrev c34_e_8 (aq : Nat) (nq : Nat) (tq : Nat → ByteArray) (vq : Nat → Int) (gq : Nat → Int) (de : Int) (ao : Nat) (no : Nat) (to : Nat → Bool) (k1 : Int) (k2 : Int) (k3 : Int) :=
 (PV.tup
 [PV.agg
 [PV.own (7) (3)
 (List.length (S.mkl nq fun j => (tq (j + aq), vq (j + aq), gq (j + aq)))),
 PV.int IntKind.i64 de,
 PV.own (8) (1) (List.length (S.mkl no fun j => to (j + ao))),
 PV.int IntKind.i64 k1, PV.int IntKind.i64 k2, PV.int IntKind.i64 k3,
 PV.tf false, PV.tf true],
 PV.int IntKind.i64 (0 : Int)])
noncomputable abbrev c34_e_9 (ao : Nat) (no : Nat) (to : Nat → Bool) (k1 : Int) (k2 : Int) (k3 : Int) (ss : Int) :=
 S.opnB (2 : Int) (List.length (S.mkl no fun j => to (j + ao)))
 (fun j =>
 bif Nat.beq j (Int.toNat ss) then false else S.at' (S.mkl no fun j => to (j + ao)) j)
 (1) (fun j => S.lit [k1] (0 : Int) j) (fun j => S.lit [k2] (0 : Int) j)
 fun j => S.lit [k3] (0 : Int) j
noncomputable abbrev c34_e_10 (aq : Nat) (nq : Nat) (tq : Nat → ByteArray) (vq : Nat → Int) (gq : Nat → Int) (de : Int) (ao : Nat) (no : Nat) (to : Nat → Bool) (k1 : Int) (k2 : Int) (k3 : Int) (ss : Int) :=
 (de, k1, k2, k3, true, true, (0 : Int), S.mkl nq fun j => (tq (j + aq), vq (j + aq), gq (j + aq)), S.mkl (List.length (S.mkl no fun j => to (j + ao))) fun j =>
 bif Nat.beq j (Int.toNat ss) then true else S.at' (S.mkl no fun j => to (j + ao)) j)
noncomputable abbrev c34_e_11 (ao : Nat) (no : Nat) (to : Nat → Bool) :=
 S.opnB (2 : Int) (List.length (S.mkl no fun j => to (j + ao)))
 (fun j => S.at' (S.mkl no fun j => to (j + ao)) j) (1)
 (fun j => S.lit [(0 : Int)] (0 : Int) j) (fun j => S.lit [(0 : Int)] (0 : Int) j)
 fun j => S.lit [(0 : Int)] (0 : Int) j
noncomputable abbrev c34_e_12 (aq : Nat) (nq : Nat) (tq : Nat → ByteArray) (vq : Nat → Int) (gq : Nat → Int) (de : Int) (ao : Nat) (no : Nat) (to : Nat → Bool) (k1 : Int) (k2 : Int) (k3 : Int) :=
 (PV.tup
 [PV.agg
 [PV.own (7) (3)
 (List.length (S.mkl nq fun j => (tq (j + aq), vq (j + aq), gq (j + aq)))),
 PV.int IntKind.i64 de,
 PV.own (8) (1) (List.length (S.mkl no fun j => to (j + ao))),
 PV.int IntKind.i64 k1, PV.int IntKind.i64 k2, PV.int IntKind.i64 k3,
 PV.tf false, PV.tf false],
 PV.int IntKind.i64 (0 : Int)])
noncomputable abbrev c34_e_13 (ao : Nat) (no : Nat) (to : Nat → Bool) (f1 : Int) (f2 : Int) (f3 : Int) :=
 S.opnB (2 : Int) (List.length (S.mkl no fun j => to (j + ao)))
 (fun j => S.at' (S.mkl no fun j => to (j + ao)) j) (1)
 (fun j => S.lit [f1] (0 : Int) j) (fun j => S.lit [f2] (0 : Int) j) fun j =>
 S.lit [f3] (0 : Int) j
noncomputable abbrev c34_e_14 (aq : Nat) (nq : Nat) (tq : Nat → ByteArray) (vq : Nat → Int) (gq : Nat → Int) (de : Int) (ao : Nat) (no : Nat) (to : Nat → Bool) :=
 (PV.tup
 [PV.agg
 [PV.own (7) (3)
 (List.length (S.mkl nq fun j => (tq (j + aq), vq (j + aq), gq (j + aq)))),
 PV.int IntKind.i64 de,
 PV.own (8) (1) (List.length (S.mkl no fun j => to (j + ao))),
 PV.int IntKind.i64 (0 : Int), PV.int IntKind.i64 (0 : Int),
 PV.int IntKind.i64 (0 : Int), PV.tf true, PV.tf true],
 PV.int IntKind.i64 (0 : Int)])
noncomputable abbrev c34_e_15 (aq : Nat) (nq : Nat) (tq : Nat → ByteArray) (vq : Nat → Int) (gq : Nat → Int) (de : Int) (ao : Nat) (no : Nat) (to : Nat → Bool) (f1 : Int) (f2 : Int) (f3 : Int) :=
 (PV.tup
 [PV.agg
 [PV.own (7) (3)
 (List.length (S.mkl nq fun j => (tq (j + aq), vq (j + aq), gq (j + aq)))),
 PV.int IntKind.i64 de,
 PV.own (8) (1) (List.length (S.mkl no fun j => to (j + ao))),
 PV.int IntKind.i64 f1, PV.int IntKind.i64 f2, PV.int IntKind.i64 f3,
 PV.tf true, PV.tf true],
 PV.int IntKind.i64 (0 : Int)])
noncomputable abbrev c34_e_16 (ao : Nat) (no : Nat) (to : Nat → Bool) (k1 : Int) (k2 : Int) (k3 : Int) (ss : Int) :=
 S.opnB (1 : Int) (List.length (S.mkl no fun j => to (j + ao)))
 (fun j =>
 bif Nat.beq j (Int.toNat ss) then true else S.at' (S.mkl no fun j => to (j + ao)) j)
 (1) (fun j => S.lit [k1] (0 : Int) j) (fun j => S.lit [k2] (0 : Int) j)
 fun j => S.lit [k3] (0 : Int) j
noncomputable abbrev c34_e_17 (aq : Nat) (nq : Nat) (tq : Nat → ByteArray) (vq : Nat → Int) (gq : Nat → Int) (de : Int) (ao : Nat) (no : Nat) (to : Nat → Bool) (k1 : Int) (k2 : Int) (k3 : Int) (ss : Int) :=
 (de, k1, k2, k3, true, false, (0 : Int), S.mkl nq fun j => (tq (j + aq), vq (j + aq), gq (j + aq)), S.mkl (List.length (S.mkl no fun j => to (j + ao))) fun j =>
 bif Nat.beq j (Int.toNat ss) then true else S.at' (S.mkl no fun j => to (j + ao)) j)
noncomputable abbrev c34_e_18 (aq : Nat) (nq : Nat) (tq : Nat → ByteArray) (vq : Nat → Int) (gq : Nat → Int) (de : Int) (ao : Nat) (no : Nat) (to : Nat → Bool) (k1 : Int) (k2 : Int) (k3 : Int) (ss : Int) :=
 (de, k1, k2, k3, false, true, (0 : Int), S.mkl nq fun j => (tq (j + aq), vq (j + aq), gq (j + aq)), S.mkl (List.length (S.mkl no fun j => to (j + ao))) fun j =>
 bif Nat.beq j (Int.toNat ss) then true else S.at' (S.mkl no fun j => to (j + ao)) j)
noncomputable abbrev c34_e_19 (aq : Nat) (nq : Nat) (tq : Nat → ByteArray) (vq : Nat → Int) (gq : Nat → Int) (de : Int) (ao : Nat) (no : Nat) (to : Nat → Bool) (k1 : Int) (k2 : Int) (k3 : Int) (ss : Int) :=
 (de, k1, k2, k3, true, true, (0 : Int), S.mkl nq fun j => (tq (j + aq), vq (j + aq), gq (j + aq)), S.mkl (List.length (S.mkl no fun j => to (j + ao))) fun j =>
 bif Nat.beq j (Int.toNat ss) then false else S.at' (S.mkl no fun j => to (j + ao)) j)
noncomputable abbrev c34_e_20 (ao : Nat) (no : Nat) (to : Nat → Bool) (k1 : Int) (k2 : Int) (k3 : Int) :=
 S.opnB (2 : Int) (List.length (S.mkl no fun j => to (j + ao)))
 (fun j => S.at' (S.mkl no fun j => to (j + ao)) j) (1)
 (fun j => S.lit [k1] (0 : Int) j) (fun j => S.lit [k2] (0 : Int) j) fun j =>
 S.lit [k3] (0 : Int) j
abbrev St34 := Empty
abbrev Rt34 := Int × Int × Int × Int × Bool × Bool × Int × List (ByteArray × Int × Int) × List Bool
noncomputable def V34 (aq nq mq : Nat) (tq : Nat → ByteArray) (vq : Nat → Int) (gq : Nat → Int) (de : Int) (ao no mo : Nat) (to : Nat → Bool) (k1 : Int) (k2 : Int) (k3 : Int) (la : Bool) (lb : Bool) (ki : Int) (ss : Int) (f1 : Int) (f2 : Int) (f3 : Int) (r : Rt34) : PV := PV.tup
 [PV.agg
 [PV.own (3) (3) (List.length r.2.2.2.2.2.2.2.1), PV.int IntKind.i64 r.1,
 PV.own (4) (1) (List.length r.2.2.2.2.2.2.2.2), PV.int IntKind.i64 r.2.1,
 PV.int IntKind.i64 r.2.2.1, PV.int IntKind.i64 r.2.2.2.1, PV.bool r.2.2.2.2.1, PV.bool r.2.2.2.2.2.1],
 PV.int IntKind.i64 r.2.2.2.2.2.2.1]
noncomputable def N34 (aq nq mq : Nat) (tq : Nat → ByteArray) (vq : Nat → Int) (gq : Nat → Int) (de : Int) (ao no mo : Nat) (to : Nat → Bool) (k1 : Int) (k2 : Int) (k3 : Int) (la : Bool) (lb : Bool) (ki : Int) (ss : Int) (f1 : Int) (f2 : Int) (f3 : Int) (r : Rt34) : List Blk := [Blk.cols (List.length r.2.2.2.2.2.2.2.1)
 [Col.str fun j => (S.at' r.2.2.2.2.2.2.2.1 j).1,
 Col.int IntKind.i64 fun j => (S.at' r.2.2.2.2.2.2.2.1 j).2.1,
 Col.int IntKind.i64 fun j => (S.at' r.2.2.2.2.2.2.2.1 j).2.2], Blk.cols (List.length r.2.2.2.2.2.2.2.2) [Col.bool fun j => S.at' r.2.2.2.2.2.2.2.2 j]]
noncomputable def I34 (aq nq mq : Nat) (tq : Nat → ByteArray) (vq : Nat → Int) (gq : Nat → Int) (de : Int) (ao no mo : Nat) (to : Nat → Bool) (k1 : Int) (k2 : Int) (k3 : Int) (la : Bool) (lb : Bool) (ki : Int) (ss : Int) (f1 : Int) (f2 : Int) (f3 : Int) : St34 → Hd := fun s => s.elim
noncomputable def q34 (aq nq mq : Nat) (tq : Nat → ByteArray) (vq : Nat → Int) (gq : Nat → Int) (de : Int) (ao no mo : Nat) (to : Nat → Bool) (k1 : Int) (k2 : Int) (k3 : Int) (la : Bool) (lb : Bool) (ki : Int) (ss : Int) (f1 : Int) (f2 : Int) (f3 : Int) : St34 → Option (St34 ⊕ Rt34) := fun s => s.elim
noncomputable def p34 (aq nq mq : Nat) (tq : Nat → ByteArray) (vq : Nat → Int) (gq : Nat → Int) (de : Int) (ao no mo : Nat) (to : Nat → Bool) (k1 : Int) (k2 : Int) (k3 : Int) (la : Bool) (lb : Bool) (ki : Int) (ss : Int) (f1 : Int) (f2 : Int) (f3 : Int) : Option (St34 ⊕ Rt34) := bif (decide (aq + nq ≤ mq ∧ nq ≤ 1000000 ∧ ao + no ≤ mo))
 then (bif (S.stE nq no
 (S.netE nq (fun j => tq (j + aq)) (fun j => vq (j + aq)) (fun j => gq (j + aq)) de)
 (fun j => to (j + ao)) k1 k2 k3 la lb !=
 (0 : Int))
 then (some (.inr ((0 : Int), (0 : Int), (0 : Int), (0 : Int), false, false, S.stE nq no
 (S.netE nq (fun j => tq (j + aq)) (fun j => vq (j + aq)) (fun j => gq (j + aq)) de)
 (fun j => to (j + ao)) k1 k2 k3 la lb, [], [])))
 else (bif (decide (aq + nq ≤ mq ∧ nq ≤ 1000000 ∧ ao + no ≤ mo ∧ no ≤ 1000000))
 then (bif (ki == (1 : Int))
 then (bif (decide (nq ≤ 1000000))
 then (bif (decide ((0 : Int) ≤ ss ∧ ss < (↑nq : Int)))
 then (bif (ki == (2 : Int))
 then (bif (decide ((0 : Int) ≤ ss ∧ ss < (↑(List.length (S.mkl no fun j => to (j + ao))) : Int)))
 then (bif (decide (Int.toNat ss < List.length (S.mkl no fun j => to (j + ao))))
 then (bif (la)
 then (bif (lb)
 then (some (.inr (c34_e_10 aq nq tq vq gq de ao no to k1 k2 k3 ss)))
 else (bif (c34_e_1 ao no to)
 then (bif (c34_e_6 ao no to k1 k2 k3 ss)
 then (some (.inr (c34_e_10 aq nq tq vq gq de ao no to k1 k2 k3 ss)))
 else (some (.inr (c34_e_17 aq nq tq vq gq de ao no to k1 k2 k3 ss))))
 else (none)))
 else (bif (c34_e_1 ao no to)
 then (bif (c34_e_16 ao no to k1 k2 k3 ss)
 then (bif (lb)
 then (some (.inr (c34_e_10 aq nq tq vq gq de ao no to k1 k2 k3 ss)))
 else (bif (c34_e_6 ao no to k1 k2 k3 ss)
 then (some (.inr (c34_e_10 aq nq tq vq gq de ao no to k1 k2 k3 ss)))
 else (some (.inr (c34_e_17 aq nq tq vq gq de ao no to k1 k2 k3 ss)))))
 else (bif (lb)
 then (some (.inr (c34_e_18 aq nq tq vq gq de ao no to k1 k2 k3 ss)))
 else (bif (c34_e_6 ao no to k1 k2 k3 ss)
 then (some (.inr (c34_e_18 aq nq tq vq gq de ao no to k1 k2 k3 ss)))
 else (some (.inr (de, k1, k2, k3, false, false, (0 : Int), S.mkl nq fun j => (tq (j + aq), vq (j + aq), gq (j + aq)), S.mkl (List.length (S.mkl no fun j => to (j + ao))) fun j =>
 bif Nat.beq j (Int.toNat ss) then true else S.at' (S.mkl no fun j => to (j + ao)) j))))))
 else (none)))
 else (none))
 else (none))
 else (bif (decide ((0 : Int) ≤ ss ∧ ss < (↑(List.length (S.mkl no fun j => to (j + ao))) : Int)))
 then (bif (decide (Int.toNat ss < List.length (S.mkl no fun j => to (j + ao))))
 then (bif (la)
 then (bif (lb)
 then (some (.inr (c34_e_19 aq nq tq vq gq de ao no to k1 k2 k3 ss)))
 else (bif (c34_e_1 ao no to)
 then (bif (c34_e_9 ao no to k1 k2 k3 ss)
 then (some (.inr (c34_e_19 aq nq tq vq gq de ao no to k1 k2 k3 ss)))
 else (some (.inr (de, k1, k2, k3, true, false, (0 : Int), S.mkl nq fun j => (tq (j + aq), vq (j + aq), gq (j + aq)), S.mkl (List.length (S.mkl no fun j => to (j + ao))) fun j =>
 bif Nat.beq j (Int.toNat ss) then false else S.at' (S.mkl no fun j => to (j + ao)) j))))
 else (none)))
 else (bif (c34_e_1 ao no to)
 then (bif (S.opnB (1 : Int) (List.length (S.mkl no fun j => to (j + ao)))
 (fun j =>
 bif Nat.beq j (Int.toNat ss) then false else S.at' (S.mkl no fun j => to (j + ao)) j)
 (1) (fun j => S.lit [k1] (0 : Int) j) (fun j => S.lit [k2] (0 : Int) j)
 fun j => S.lit [k3] (0 : Int) j)
 then (bif (lb)
 then (some (.inr (c34_e_19 aq nq tq vq gq de ao no to k1 k2 k3 ss)))
 else (bif (c34_e_9 ao no to k1 k2 k3 ss)
 then (some (.inr (c34_e_19 aq nq tq vq gq de ao no to k1 k2 k3 ss)))
 else (some (.inr (de, k1, k2, k3, true, false, (0 : Int), S.mkl nq fun j => (tq (j + aq), vq (j + aq), gq (j + aq)), S.mkl (List.length (S.mkl no fun j => to (j + ao))) fun j =>
 bif Nat.beq j (Int.toNat ss) then false else S.at' (S.mkl no fun j => to (j + ao)) j)))))
 else (bif (lb)
 then (some (.inr (de, k1, k2, k3, false, true, (0 : Int), S.mkl nq fun j => (tq (j + aq), vq (j + aq), gq (j + aq)), S.mkl (List.length (S.mkl no fun j => to (j + ao))) fun j =>
 bif Nat.beq j (Int.toNat ss) then false else S.at' (S.mkl no fun j => to (j + ao)) j)))
 else (bif (c34_e_9 ao no to k1 k2 k3 ss)
 then (some (.inr (de, k1, k2, k3, false, true, (0 : Int), S.mkl nq fun j => (tq (j + aq), vq (j + aq), gq (j + aq)), S.mkl (List.length (S.mkl no fun j => to (j + ao))) fun j =>
 bif Nat.beq j (Int.toNat ss) then false else S.at' (S.mkl no fun j => to (j + ao)) j)))
 else (some (.inr (de, k1, k2, k3, false, false, (0 : Int), S.mkl nq fun j => (tq (j + aq), vq (j + aq), gq (j + aq)), S.mkl (List.length (S.mkl no fun j => to (j + ao))) fun j =>
 bif Nat.beq j (Int.toNat ss) then false else S.at' (S.mkl no fun j => to (j + ao)) j))))))
 else (none)))
 else (none))
 else (none)))
 else (some (.inr ((0 : Int), (0 : Int), (0 : Int), (0 : Int), false, false, (6 : Int), [], []))))
 else (none))
 else (bif (ki == (2 : Int))
 then (bif (decide (nq ≤ 1000000))
 then (bif (decide ((0 : Int) ≤ ss ∧ ss < (↑nq : Int)))
 then (bif (decide ((0 : Int) ≤ ss ∧ ss < (↑(List.length (S.mkl no fun j => to (j + ao))) : Int)))
 then (bif (decide (Int.toNat ss < List.length (S.mkl no fun j => to (j + ao))))
 then (bif (la)
 then (bif (lb)
 then (some (.inr (c34_e_10 aq nq tq vq gq de ao no to k1 k2 k3 ss)))
 else (bif (c34_e_1 ao no to)
 then (bif (c34_e_6 ao no to k1 k2 k3 ss)
 then (some (.inr (c34_e_10 aq nq tq vq gq de ao no to k1 k2 k3 ss)))
 else (some (.inr (c34_e_17 aq nq tq vq gq de ao no to k1 k2 k3 ss))))
 else (none)))
 else (bif (c34_e_1 ao no to)
 then (bif (c34_e_16 ao no to k1 k2 k3 ss)
 then (bif (lb)
 then (some (.inr (c34_e_10 aq nq tq vq gq de ao no to k1 k2 k3 ss)))
 else (bif (c34_e_6 ao no to k1 k2 k3 ss)
 then (some (.inr (c34_e_10 aq nq tq vq gq de ao no to k1 k2 k3 ss)))
 else (some (.inr (c34_e_17 aq nq tq vq gq de ao no to k1 k2 k3 ss)))))
 else (bif (lb)
 then (some (.inr (c34_e_18 aq nq tq vq gq de ao no to k1 k2 k3 ss)))
 else (bif (c34_e_6 ao no to k1 k2 k3 ss)
 then (some (.inr (c34_e_18 aq nq tq vq gq de ao no to k1 k2 k3 ss)))
 else (some (.inr (de, k1, k2, k3, false, false, (0 : Int), S.mkl nq fun j => (tq (j + aq), vq (j + aq), gq (j + aq)), S.mkl (List.length (S.mkl no fun j => to (j + ao))) fun j =>
 bif Nat.beq j (Int.toNat ss) then true else S.at' (S.mkl no fun j => to (j + ao)) j))))))
 else (none)))
 else (none))
 else (none))
 else (some (.inr ((0 : Int), (0 : Int), (0 : Int), (0 : Int), false, false, (6 : Int), [], []))))
 else (none))
 else (bif (ki == (3 : Int))
 then (bif (decide (nq ≤ 100000))
 then (bif (S.failE nq f1 f2 f3 != (0 : Int))
 then (some (.inr ((0 : Int), (0 : Int), (0 : Int), (0 : Int), false, false, S.failE nq f1 f2 f3, [], [])))
 else (bif (la)
 then (bif (lb)
 then (some (.inr (de, f1, f2, f3, true, true, (0 : Int), S.mkl nq fun j => (tq (j + aq), vq (j + aq), gq (j + aq)), S.mkl no fun j => to (j + ao))))
 else (bif (c34_e_1 ao no to)
 then (bif (c34_e_13 ao no to f1 f2 f3)
 then (some (.inr (de, f1, f2, f3, true, true, (0 : Int), S.mkl nq fun j => (tq (j + aq), vq (j + aq), gq (j + aq)), S.mkl no fun j => to (j + ao))))
 else (some (.inr (de, f1, f2, f3, true, false, (0 : Int), S.mkl nq fun j => (tq (j + aq), vq (j + aq), gq (j + aq)), S.mkl no fun j => to (j + ao)))))
 else (none)))
 else (bif (c34_e_1 ao no to)
 then (bif (S.opnB (1 : Int) (List.length (S.mkl no fun j => to (j + ao)))
 (fun j => S.at' (S.mkl no fun j => to (j + ao)) j) (1)
 (fun j => S.lit [f1] (0 : Int) j) (fun j => S.lit [f2] (0 : Int) j) fun j =>
 S.lit [f3] (0 : Int) j)
 then (bif (lb)
 then (some (.inr (de, f1, f2, f3, true, true, (0 : Int), S.mkl nq fun j => (tq (j + aq), vq (j + aq), gq (j + aq)), S.mkl no fun j => to (j + ao))))
 else (bif (c34_e_13 ao no to f1 f2 f3)
 then (some (.inr (de, f1, f2, f3, true, true, (0 : Int), S.mkl nq fun j => (tq (j + aq), vq (j + aq), gq (j + aq)), S.mkl no fun j => to (j + ao))))
 else (some (.inr (de, f1, f2, f3, true, false, (0 : Int), S.mkl nq fun j => (tq (j + aq), vq (j + aq), gq (j + aq)), S.mkl no fun j => to (j + ao))))))
 else (bif (lb)
 then (some (.inr (de, f1, f2, f3, false, true, (0 : Int), S.mkl nq fun j => (tq (j + aq), vq (j + aq), gq (j + aq)), S.mkl no fun j => to (j + ao))))
 else (bif (c34_e_13 ao no to f1 f2 f3)
 then (some (.inr (de, f1, f2, f3, false, true, (0 : Int), S.mkl nq fun j => (tq (j + aq), vq (j + aq), gq (j + aq)), S.mkl no fun j => to (j + ao))))
 else (some (.inr (de, f1, f2, f3, false, false, (0 : Int), S.mkl nq fun j => (tq (j + aq), vq (j + aq), gq (j + aq)), S.mkl no fun j => to (j + ao)))))))
 else (none))))
 else (none))
 else (bif (ki == (4 : Int))
 then (bif (la)
 then (bif (lb)
 then (some (.inr (de, (0 : Int), (0 : Int), (0 : Int), true, true, (0 : Int), S.mkl nq fun j => (tq (j + aq), vq (j + aq), gq (j + aq)), S.mkl no fun j => to (j + ao))))
 else (bif (c34_e_1 ao no to)
 then (bif (c34_e_11 ao no to)
 then (some (.inr (de, (0 : Int), (0 : Int), (0 : Int), true, true, (0 : Int), S.mkl nq fun j => (tq (j + aq), vq (j + aq), gq (j + aq)), S.mkl no fun j => to (j + ao))))
 else (some (.inr (de, (0 : Int), (0 : Int), (0 : Int), true, false, (0 : Int), S.mkl nq fun j => (tq (j + aq), vq (j + aq), gq (j + aq)), S.mkl no fun j => to (j + ao)))))
 else (none)))
 else (bif (c34_e_1 ao no to)
 then (bif (S.opnB (1 : Int) (List.length (S.mkl no fun j => to (j + ao)))
 (fun j => S.at' (S.mkl no fun j => to (j + ao)) j) (1)
 (fun j => S.lit [(0 : Int)] (0 : Int) j) (fun j => S.lit [(0 : Int)] (0 : Int) j)
 fun j => S.lit [(0 : Int)] (0 : Int) j)
 then (bif (lb)
 then (some (.inr (de, (0 : Int), (0 : Int), (0 : Int), true, true, (0 : Int), S.mkl nq fun j => (tq (j + aq), vq (j + aq), gq (j + aq)), S.mkl no fun j => to (j + ao))))
 else (bif (c34_e_11 ao no to)
 then (some (.inr (de, (0 : Int), (0 : Int), (0 : Int), true, true, (0 : Int), S.mkl nq fun j => (tq (j + aq), vq (j + aq), gq (j + aq)), S.mkl no fun j => to (j + ao))))
 else (some (.inr (de, (0 : Int), (0 : Int), (0 : Int), true, false, (0 : Int), S.mkl nq fun j => (tq (j + aq), vq (j + aq), gq (j + aq)), S.mkl no fun j => to (j + ao))))))
 else (bif (lb)
 then (some (.inr (de, (0 : Int), (0 : Int), (0 : Int), false, true, (0 : Int), S.mkl nq fun j => (tq (j + aq), vq (j + aq), gq (j + aq)), S.mkl no fun j => to (j + ao))))
 else (bif (c34_e_11 ao no to)
 then (some (.inr (de, (0 : Int), (0 : Int), (0 : Int), false, true, (0 : Int), S.mkl nq fun j => (tq (j + aq), vq (j + aq), gq (j + aq)), S.mkl no fun j => to (j + ao))))
 else (some (.inr (de, (0 : Int), (0 : Int), (0 : Int), false, false, (0 : Int), S.mkl nq fun j => (tq (j + aq), vq (j + aq), gq (j + aq)), S.mkl no fun j => to (j + ao)))))))
 else (none)))
 else (bif (ki == (5 : Int))
 then (bif (decide (ao + no ≤ mo ∧ no ≤ 1000000))
 then (bif (S.any (fun j => to (j + ao) == false) no)
 then (some (.inr ((0 : Int), (0 : Int), (0 : Int), (0 : Int), false, false, (8 : Int), [], [])))
 else (bif (decide (1 ≤ 1 ∧ 1 ≤ 1000000 ∧ ao + no ≤ mo ∧ no ≤ 1000000))
 then (bif (S.safB no (fun j => to (j + ao)) (1) (fun j => S.lit [k1] (0 : Int) j)
 (fun j => S.lit [k2] (0 : Int) j) fun j => S.lit [k3] (0 : Int) j)
 then (some (.inr ((0 : Int), (0 : Int), (0 : Int), (0 : Int), false, false, (8 : Int), [], [])))
 else (bif (c34_e_1 ao no to)
 then (bif (S.opnB (1 : Int) (List.length (S.mkl no fun j => to (j + ao)))
 (fun j => S.at' (S.mkl no fun j => to (j + ao)) j) (1)
 (fun j => S.lit [k1] (0 : Int) j) (fun j => S.lit [k2] (0 : Int) j) fun j =>
 S.lit [k3] (0 : Int) j)
 then (bif (c34_e_20 ao no to k1 k2 k3)
 then (some (.inr (de, k1, k2, k3, true, true, (0 : Int), S.mkl nq fun j => (tq (j + aq), vq (j + aq), gq (j + aq)), S.mkl no fun j => to (j + ao))))
 else (some (.inr (de, k1, k2, k3, true, false, (0 : Int), S.mkl nq fun j => (tq (j + aq), vq (j + aq), gq (j + aq)), S.mkl no fun j => to (j + ao)))))
 else (bif (c34_e_20 ao no to k1 k2 k3)
 then (some (.inr (de, k1, k2, k3, false, true, (0 : Int), S.mkl nq fun j => (tq (j + aq), vq (j + aq), gq (j + aq)), S.mkl no fun j => to (j + ao))))
 else (some (.inr (de, k1, k2, k3, false, false, (0 : Int), S.mkl nq fun j => (tq (j + aq), vq (j + aq), gq (j + aq)), S.mkl no fun j => to (j + ao))))))
 else (none)))
 else (none)))
 else (none))
 else (some (.inr ((0 : Int), (0 : Int), (0 : Int), (0 : Int), false, false, (1 : Int), [], []))))))))
 else (none)))
 else (none)
noncomputable def Te34 (test : Bool → Prop → Prop → Prop) (Kst : KS) (Kret : KR) (aq nq mq : Nat) (tq : Nat → ByteArray) (vq : Nat → Int) (gq : Nat → Int) (de : Int) (ao no mo : Nat) (to : Nat → Bool) (k1 : Int) (k2 : Int) (k3 : Int) (la : Bool) (lb : Bool) (ki : Int) (ss : Int) (f1 : Int) (f2 : Int) (f3 : Int) : Prop :=
  test (decide (aq + nq ≤ mq ∧ nq ≤ 1000000 ∧ ao + no ≤ mo))
 (test (S.stE nq no
 (S.netE nq (fun j => tq (j + aq)) (fun j => vq (j + aq)) (fun j => gq (j + aq)) de)
 (fun j => to (j + ao)) k1 k2 k3 la lb !=
 (0 : Int))
 (Kret (PV.tup
 [PV.agg
 [PV.nils, PV.int IntKind.i64 (0 : Int), PV.nils, PV.int IntKind.i64 (0 : Int),
 PV.int IntKind.i64 (0 : Int), PV.int IntKind.i64 (0 : Int), PV.tf false,
 PV.tf false],
 PV.int IntKind.i64
 (S.stE nq no
 (S.netE nq (fun j => tq (j + aq)) (fun j => vq (j + aq)) (fun j => gq (j + aq))
 de)
 (fun j => to (j + ao)) k1 k2 k3 la lb)]) ([[(1, false, Blk.cols mo [Col.bool to]),
 (0, false,
 Blk.cols mq [Col.str tq, Col.int IntKind.i64 vq, Col.int IntKind.i64 gq])]]) (6))
 (test (decide (aq + nq ≤ mq ∧ nq ≤ 1000000 ∧ ao + no ≤ mo ∧ no ≤ 1000000))
 (test (ki == (1 : Int))
 (test (decide (nq ≤ 1000000))
 (test (decide ((0 : Int) ≤ ss ∧ ss < (↑nq : Int)))
 (test (ki == (2 : Int))
 (test (decide ((0 : Int) ≤ ss ∧ ss < (↑(List.length (S.mkl no fun j => to (j + ao))) : Int)))
 (test (decide (Int.toNat ss < List.length (S.mkl no fun j => to (j + ao))))
 (test (la)
 (test (lb)
 (Kret (c34_e_5 aq nq tq vq gq de ao no to k1 k2 k3) (c34_e_4 aq nq mq tq vq gq ao no mo to ss) (11))
 (test (c34_e_1 ao no to)
 (test (c34_e_6 ao no to k1 k2 k3 ss)
 (Kret (c34_e_5 aq nq tq vq gq de ao no to k1 k2 k3) (c34_e_4 aq nq mq tq vq gq ao no mo to ss) (13))
 (Kret (c34_e_7 aq nq tq vq gq de ao no to k1 k2 k3) (c34_e_4 aq nq mq tq vq gq ao no mo to ss) (13)))
 (False)))
 (test (c34_e_1 ao no to)
 (test (c34_e_16 ao no to k1 k2 k3 ss)
 (test (lb)
 (Kret (c34_e_5 aq nq tq vq gq de ao no to k1 k2 k3) (c34_e_4 aq nq mq tq vq gq ao no mo to ss) (13))
 (test (c34_e_1 ao no to)
 (test (c34_e_6 ao no to k1 k2 k3 ss)
 (Kret (c34_e_5 aq nq tq vq gq de ao no to k1 k2 k3) (c34_e_4 aq nq mq tq vq gq ao no mo to ss) (15))
 (Kret (c34_e_7 aq nq tq vq gq de ao no to k1 k2 k3) (c34_e_4 aq nq mq tq vq gq ao no mo to ss) (15)))
 (False)))
 (test (lb)
 (Kret (c34_e_8 aq nq tq vq gq de ao no to k1 k2 k3) (c34_e_4 aq nq mq tq vq gq ao no mo to ss) (13))
 (test (c34_e_1 ao no to)
 (test (c34_e_6 ao no to k1 k2 k3 ss)
 (Kret (c34_e_8 aq nq tq vq gq de ao no to k1 k2 k3) (c34_e_4 aq nq mq tq vq gq ao no mo to ss) (15))
 (Kret (c34_e_12 aq nq tq vq gq de ao no to k1 k2 k3) (c34_e_4 aq nq mq tq vq gq ao no mo to ss) (15)))
 (False))))
 (False)))
 (False))
 (False))
 (test (decide ((0 : Int) ≤ ss ∧ ss < (↑(List.length (S.mkl no fun j => to (j + ao))) : Int)))
 (test (decide (Int.toNat ss < List.length (S.mkl no fun j => to (j + ao))))
 (test (la)
 (test (lb)
 (Kret (c34_e_5 aq nq tq vq gq de ao no to k1 k2 k3) (c34_e_3 aq nq mq tq vq gq ao no mo to ss) (11))
 (test (c34_e_1 ao no to)
 (test (c34_e_9 ao no to k1 k2 k3 ss)
 (Kret (c34_e_5 aq nq tq vq gq de ao no to k1 k2 k3) (c34_e_3 aq nq mq tq vq gq ao no mo to ss) (13))
 (Kret (c34_e_7 aq nq tq vq gq de ao no to k1 k2 k3) (c34_e_3 aq nq mq tq vq gq ao no mo to ss) (13)))
 (False)))
 (test (c34_e_1 ao no to)
 (test (S.opnB (1 : Int) (List.length (S.mkl no fun j => to (j + ao)))
 (fun j =>
 bif Nat.beq j (Int.toNat ss) then false else S.at' (S.mkl no fun j => to (j + ao)) j)
 (1) (fun j => S.lit [k1] (0 : Int) j) (fun j => S.lit [k2] (0 : Int) j)
 fun j => S.lit [k3] (0 : Int) j)
 (test (lb)
 (Kret (c34_e_5 aq nq tq vq gq de ao no to k1 k2 k3) (c34_e_3 aq nq mq tq vq gq ao no mo to ss) (13))
 (test (c34_e_1 ao no to)
 (test (c34_e_9 ao no to k1 k2 k3 ss)
 (Kret (c34_e_5 aq nq tq vq gq de ao no to k1 k2 k3) (c34_e_3 aq nq mq tq vq gq ao no mo to ss) (15))
 (Kret (c34_e_7 aq nq tq vq gq de ao no to k1 k2 k3) (c34_e_3 aq nq mq tq vq gq ao no mo to ss) (15)))
 (False)))
 (test (lb)
 (Kret (c34_e_8 aq nq tq vq gq de ao no to k1 k2 k3) (c34_e_3 aq nq mq tq vq gq ao no mo to ss) (13))
 (test (c34_e_1 ao no to)
 (test (c34_e_9 ao no to k1 k2 k3 ss)
 (Kret (c34_e_8 aq nq tq vq gq de ao no to k1 k2 k3) (c34_e_3 aq nq mq tq vq gq ao no mo to ss) (15))
 (Kret (c34_e_12 aq nq tq vq gq de ao no to k1 k2 k3) (c34_e_3 aq nq mq tq vq gq ao no mo to ss) (15)))
 (False))))
 (False)))
 (False))
 (False)))
 (Kret (PV.tup
 [PV.agg
 [PV.nils, PV.int IntKind.i64 (0 : Int), PV.nils, PV.int IntKind.i64 (0 : Int),
 PV.int IntKind.i64 (0 : Int), PV.int IntKind.i64 (0 : Int), PV.tf false,
 PV.tf false],
 PV.int IntKind.i64 (6 : Int)]) ([[(1, false, Blk.cols mo [Col.bool to]),
 (0, false,
 Blk.cols mq [Col.str tq, Col.int IntKind.i64 vq, Col.int IntKind.i64 gq])]]) (11)))
 (False))
 (test (ki == (2 : Int))
 (test (decide (nq ≤ 1000000))
 (test (decide ((0 : Int) ≤ ss ∧ ss < (↑nq : Int)))
 (test (ki == (2 : Int))
 (test (decide ((0 : Int) ≤ ss ∧ ss < (↑(List.length (S.mkl no fun j => to (j + ao))) : Int)))
 (test (decide (Int.toNat ss < List.length (S.mkl no fun j => to (j + ao))))
 (test (la)
 (test (lb)
 (Kret (c34_e_5 aq nq tq vq gq de ao no to k1 k2 k3) (c34_e_4 aq nq mq tq vq gq ao no mo to ss) (11))
 (test (c34_e_1 ao no to)
 (test (c34_e_6 ao no to k1 k2 k3 ss)
 (Kret (c34_e_5 aq nq tq vq gq de ao no to k1 k2 k3) (c34_e_4 aq nq mq tq vq gq ao no mo to ss) (13))
 (Kret (c34_e_7 aq nq tq vq gq de ao no to k1 k2 k3) (c34_e_4 aq nq mq tq vq gq ao no mo to ss) (13)))
 (False)))
 (test (c34_e_1 ao no to)
 (test (c34_e_16 ao no to k1 k2 k3 ss)
 (test (lb)
 (Kret (c34_e_5 aq nq tq vq gq de ao no to k1 k2 k3) (c34_e_4 aq nq mq tq vq gq ao no mo to ss) (13))
 (test (c34_e_1 ao no to)
 (test (c34_e_6 ao no to k1 k2 k3 ss)
 (Kret (c34_e_5 aq nq tq vq gq de ao no to k1 k2 k3) (c34_e_4 aq nq mq tq vq gq ao no mo to ss) (15))
 (Kret (c34_e_7 aq nq tq vq gq de ao no to k1 k2 k3) (c34_e_4 aq nq mq tq vq gq ao no mo to ss) (15)))
 (False)))
 (test (lb)
 (Kret (c34_e_8 aq nq tq vq gq de ao no to k1 k2 k3) (c34_e_4 aq nq mq tq vq gq ao no mo to ss) (13))
 (test (c34_e_1 ao no to)
 (test (c34_e_6 ao no to k1 k2 k3 ss)
 (Kret (c34_e_8 aq nq tq vq gq de ao no to k1 k2 k3) (c34_e_4 aq nq mq tq vq gq ao no mo to ss) (15))
 (Kret (c34_e_12 aq nq tq vq gq de ao no to k1 k2 k3) (c34_e_4 aq nq mq tq vq gq ao no mo to ss) (15)))
 (False))))
 (False)))
 (False))
 (False))
 (test (decide ((0 : Int) ≤ ss ∧ ss < (↑(List.length (S.mkl no fun j => to (j + ao))) : Int)))
 (test (decide (Int.toNat ss < List.length (S.mkl no fun j => to (j + ao))))
 (test (la)
 (test (lb)
 (Kret (c34_e_5 aq nq tq vq gq de ao no to k1 k2 k3) (c34_e_3 aq nq mq tq vq gq ao no mo to ss) (11))
 (test (c34_e_1 ao no to)
 (test (c34_e_9 ao no to k1 k2 k3 ss)
 (Kret (c34_e_5 aq nq tq vq gq de ao no to k1 k2 k3) (c34_e_3 aq nq mq tq vq gq ao no mo to ss) (13))
 (Kret (c34_e_7 aq nq tq vq gq de ao no to k1 k2 k3) (c34_e_3 aq nq mq tq vq gq ao no mo to ss) (13)))
 (False)))
 (test (c34_e_1 ao no to)
 (test (S.opnB (1 : Int) (List.length (S.mkl no fun j => to (j + ao)))
 (fun j =>
 bif Nat.beq j (Int.toNat ss) then false else S.at' (S.mkl no fun j => to (j + ao)) j)
 (1) (fun j => S.lit [k1] (0 : Int) j) (fun j => S.lit [k2] (0 : Int) j)
 fun j => S.lit [k3] (0 : Int) j)
 (test (lb)
 (Kret (c34_e_5 aq nq tq vq gq de ao no to k1 k2 k3) (c34_e_3 aq nq mq tq vq gq ao no mo to ss) (13))
 (test (c34_e_1 ao no to)
 (test (c34_e_9 ao no to k1 k2 k3 ss)
 (Kret (c34_e_5 aq nq tq vq gq de ao no to k1 k2 k3) (c34_e_3 aq nq mq tq vq gq ao no mo to ss) (15))
 (Kret (c34_e_7 aq nq tq vq gq de ao no to k1 k2 k3) (c34_e_3 aq nq mq tq vq gq ao no mo to ss) (15)))
 (False)))
 (test (lb)
 (Kret (c34_e_8 aq nq tq vq gq de ao no to k1 k2 k3) (c34_e_3 aq nq mq tq vq gq ao no mo to ss) (13))
 (test (c34_e_1 ao no to)
 (test (c34_e_9 ao no to k1 k2 k3 ss)
 (Kret (c34_e_8 aq nq tq vq gq de ao no to k1 k2 k3) (c34_e_3 aq nq mq tq vq gq ao no mo to ss) (15))
 (Kret (c34_e_12 aq nq tq vq gq de ao no to k1 k2 k3) (c34_e_3 aq nq mq tq vq gq ao no mo to ss) (15)))
 (False))))
 (False)))
 (False))
 (False)))
 (Kret (PV.tup
 [PV.agg
 [PV.nils, PV.int IntKind.i64 (0 : Int), PV.nils, PV.int IntKind.i64 (0 : Int),
 PV.int IntKind.i64 (0 : Int), PV.int IntKind.i64 (0 : Int), PV.tf false,
 PV.tf false],
 PV.int IntKind.i64 (6 : Int)]) ([[(1, false, Blk.cols mo [Col.bool to]),
 (0, false,
 Blk.cols mq [Col.str tq, Col.int IntKind.i64 vq, Col.int IntKind.i64 gq])]]) (11)))
 (False))
 (test (ki == (3 : Int))
 (test (decide (nq ≤ 100000))
 (test (S.failE nq f1 f2 f3 != (0 : Int))
 (Kret (PV.tup
 [PV.agg
 [PV.nils, PV.int IntKind.i64 (0 : Int), PV.nils, PV.int IntKind.i64 (0 : Int),
 PV.int IntKind.i64 (0 : Int), PV.int IntKind.i64 (0 : Int), PV.tf false,
 PV.tf false],
 PV.int IntKind.i64 (S.failE nq f1 f2 f3)]) ([[(1, false, Blk.cols mo [Col.bool to]),
 (0, false,
 Blk.cols mq [Col.str tq, Col.int IntKind.i64 vq, Col.int IntKind.i64 gq])]]) (11))
 (test (la)
 (test (lb)
 (Kret (c34_e_15 aq nq tq vq gq de ao no to f1 f2 f3) (c34_e_2 aq nq mq tq vq gq ao no mo to) (11))
 (test (c34_e_1 ao no to)
 (test (c34_e_13 ao no to f1 f2 f3)
 (Kret (c34_e_15 aq nq tq vq gq de ao no to f1 f2 f3) (c34_e_2 aq nq mq tq vq gq ao no mo to) (13))
 (Kret (PV.tup
 [PV.agg
 [PV.own (7) (3)
 (List.length (S.mkl nq fun j => (tq (j + aq), vq (j + aq), gq (j + aq)))),
 PV.int IntKind.i64 de,
 PV.own (8) (1) (List.length (S.mkl no fun j => to (j + ao))),
 PV.int IntKind.i64 f1, PV.int IntKind.i64 f2, PV.int IntKind.i64 f3,
 PV.tf true, PV.tf false],
 PV.int IntKind.i64 (0 : Int)]) (c34_e_2 aq nq mq tq vq gq ao no mo to) (13)))
 (False)))
 (test (c34_e_1 ao no to)
 (test (S.opnB (1 : Int) (List.length (S.mkl no fun j => to (j + ao)))
 (fun j => S.at' (S.mkl no fun j => to (j + ao)) j) (1)
 (fun j => S.lit [f1] (0 : Int) j) (fun j => S.lit [f2] (0 : Int) j) fun j =>
 S.lit [f3] (0 : Int) j)
 (test (lb)
 (Kret (c34_e_15 aq nq tq vq gq de ao no to f1 f2 f3) (c34_e_2 aq nq mq tq vq gq ao no mo to) (13))
 (test (c34_e_1 ao no to)
 (test (c34_e_13 ao no to f1 f2 f3)
 (Kret (c34_e_15 aq nq tq vq gq de ao no to f1 f2 f3) (c34_e_2 aq nq mq tq vq gq ao no mo to) (15))
 (Kret (PV.tup
 [PV.agg
 [PV.own (7) (3)
 (List.length (S.mkl nq fun j => (tq (j + aq), vq (j + aq), gq (j + aq)))),
 PV.int IntKind.i64 de,
 PV.own (8) (1) (List.length (S.mkl no fun j => to (j + ao))),
 PV.int IntKind.i64 f1, PV.int IntKind.i64 f2, PV.int IntKind.i64 f3,
 PV.tf true, PV.tf false],
 PV.int IntKind.i64 (0 : Int)]) (c34_e_2 aq nq mq tq vq gq ao no mo to) (15)))
 (False)))
 (test (lb)
 (Kret (PV.tup
 [PV.agg
 [PV.own (7) (3)
 (List.length (S.mkl nq fun j => (tq (j + aq), vq (j + aq), gq (j + aq)))),
 PV.int IntKind.i64 de,
 PV.own (8) (1) (List.length (S.mkl no fun j => to (j + ao))),
 PV.int IntKind.i64 f1, PV.int IntKind.i64 f2, PV.int IntKind.i64 f3,
 PV.tf false, PV.tf true],
 PV.int IntKind.i64 (0 : Int)]) (c34_e_2 aq nq mq tq vq gq ao no mo to) (13))
 (test (c34_e_1 ao no to)
 (test (c34_e_13 ao no to f1 f2 f3)
 (Kret (PV.tup
 [PV.agg
 [PV.own (7) (3)
 (List.length (S.mkl nq fun j => (tq (j + aq), vq (j + aq), gq (j + aq)))),
 PV.int IntKind.i64 de,
 PV.own (8) (1) (List.length (S.mkl no fun j => to (j + ao))),
 PV.int IntKind.i64 f1, PV.int IntKind.i64 f2, PV.int IntKind.i64 f3,
 PV.tf false, PV.tf true],
 PV.int IntKind.i64 (0 : Int)]) (c34_e_2 aq nq mq tq vq gq ao no mo to) (15))
 (Kret (PV.tup
 [PV.agg
 [PV.own (7) (3)
 (List.length (S.mkl nq fun j => (tq (j + aq), vq (j + aq), gq (j + aq)))),
 PV.int IntKind.i64 de,
 PV.own (8) (1) (List.length (S.mkl no fun j => to (j + ao))),
 PV.int IntKind.i64 f1, PV.int IntKind.i64 f2, PV.int IntKind.i64 f3,
 PV.tf false, PV.tf false],
 PV.int IntKind.i64 (0 : Int)]) (c34_e_2 aq nq mq tq vq gq ao no mo to) (15)))
 (False))))
 (False))))
 (False))
 (test (ki == (4 : Int))
 (test (la)
 (test (lb)
 (Kret (c34_e_14 aq nq tq vq gq de ao no to) (c34_e_2 aq nq mq tq vq gq ao no mo to) (10))
 (test (c34_e_1 ao no to)
 (test (c34_e_11 ao no to)
 (Kret (c34_e_14 aq nq tq vq gq de ao no to) (c34_e_2 aq nq mq tq vq gq ao no mo to) (12))
 (Kret (PV.tup
 [PV.agg
 [PV.own (7) (3)
 (List.length (S.mkl nq fun j => (tq (j + aq), vq (j + aq), gq (j + aq)))),
 PV.int IntKind.i64 de,
 PV.own (8) (1) (List.length (S.mkl no fun j => to (j + ao))),
 PV.int IntKind.i64 (0 : Int), PV.int IntKind.i64 (0 : Int),
 PV.int IntKind.i64 (0 : Int), PV.tf true, PV.tf false],
 PV.int IntKind.i64 (0 : Int)]) (c34_e_2 aq nq mq tq vq gq ao no mo to) (12)))
 (False)))
 (test (c34_e_1 ao no to)
 (test (S.opnB (1 : Int) (List.length (S.mkl no fun j => to (j + ao)))
 (fun j => S.at' (S.mkl no fun j => to (j + ao)) j) (1)
 (fun j => S.lit [(0 : Int)] (0 : Int) j) (fun j => S.lit [(0 : Int)] (0 : Int) j)
 fun j => S.lit [(0 : Int)] (0 : Int) j)
 (test (lb)
 (Kret (c34_e_14 aq nq tq vq gq de ao no to) (c34_e_2 aq nq mq tq vq gq ao no mo to) (12))
 (test (c34_e_1 ao no to)
 (test (c34_e_11 ao no to)
 (Kret (c34_e_14 aq nq tq vq gq de ao no to) (c34_e_2 aq nq mq tq vq gq ao no mo to) (14))
 (Kret (PV.tup
 [PV.agg
 [PV.own (7) (3)
 (List.length (S.mkl nq fun j => (tq (j + aq), vq (j + aq), gq (j + aq)))),
 PV.int IntKind.i64 de,
 PV.own (8) (1) (List.length (S.mkl no fun j => to (j + ao))),
 PV.int IntKind.i64 (0 : Int), PV.int IntKind.i64 (0 : Int),
 PV.int IntKind.i64 (0 : Int), PV.tf true, PV.tf false],
 PV.int IntKind.i64 (0 : Int)]) (c34_e_2 aq nq mq tq vq gq ao no mo to) (14)))
 (False)))
 (test (lb)
 (Kret (PV.tup
 [PV.agg
 [PV.own (7) (3)
 (List.length (S.mkl nq fun j => (tq (j + aq), vq (j + aq), gq (j + aq)))),
 PV.int IntKind.i64 de,
 PV.own (8) (1) (List.length (S.mkl no fun j => to (j + ao))),
 PV.int IntKind.i64 (0 : Int), PV.int IntKind.i64 (0 : Int),
 PV.int IntKind.i64 (0 : Int), PV.tf false, PV.tf true],
 PV.int IntKind.i64 (0 : Int)]) (c34_e_2 aq nq mq tq vq gq ao no mo to) (12))
 (test (c34_e_1 ao no to)
 (test (c34_e_11 ao no to)
 (Kret (PV.tup
 [PV.agg
 [PV.own (7) (3)
 (List.length (S.mkl nq fun j => (tq (j + aq), vq (j + aq), gq (j + aq)))),
 PV.int IntKind.i64 de,
 PV.own (8) (1) (List.length (S.mkl no fun j => to (j + ao))),
 PV.int IntKind.i64 (0 : Int), PV.int IntKind.i64 (0 : Int),
 PV.int IntKind.i64 (0 : Int), PV.tf false, PV.tf true],
 PV.int IntKind.i64 (0 : Int)]) (c34_e_2 aq nq mq tq vq gq ao no mo to) (14))
 (Kret (PV.tup
 [PV.agg
 [PV.own (7) (3)
 (List.length (S.mkl nq fun j => (tq (j + aq), vq (j + aq), gq (j + aq)))),
 PV.int IntKind.i64 de,
 PV.own (8) (1) (List.length (S.mkl no fun j => to (j + ao))),
 PV.int IntKind.i64 (0 : Int), PV.int IntKind.i64 (0 : Int),
 PV.int IntKind.i64 (0 : Int), PV.tf false, PV.tf false],
 PV.int IntKind.i64 (0 : Int)]) (c34_e_2 aq nq mq tq vq gq ao no mo to) (14)))
 (False))))
 (False)))
 (test (ki == (5 : Int))
 (test (decide (ao + no ≤ mo ∧ no ≤ 1000000))
 (test (S.any (fun j => to (j + ao) == false) no)
 (Kret (PV.tup
 [PV.agg
 [PV.nils, PV.int IntKind.i64 (0 : Int), PV.nils, PV.int IntKind.i64 (0 : Int),
 PV.int IntKind.i64 (0 : Int), PV.int IntKind.i64 (0 : Int), PV.tf false,
 PV.tf false],
 PV.int IntKind.i64 (8 : Int)]) ([[(1, false, Blk.cols mo [Col.bool to]),
 (0, false,
 Blk.cols mq [Col.str tq, Col.int IntKind.i64 vq, Col.int IntKind.i64 gq])]]) (11))
 (test (decide (1 ≤ 1 ∧ 1 ≤ 1000000 ∧ ao + no ≤ mo ∧ no ≤ 1000000))
 (test (S.safB no (fun j => to (j + ao)) (1) (fun j => S.lit [k1] (0 : Int) j)
 (fun j => S.lit [k2] (0 : Int) j) fun j => S.lit [k3] (0 : Int) j)
 (Kret (PV.tup
 [PV.agg
 [PV.nils, PV.int IntKind.i64 (0 : Int), PV.nils, PV.int IntKind.i64 (0 : Int),
 PV.int IntKind.i64 (0 : Int), PV.int IntKind.i64 (0 : Int), PV.tf false,
 PV.tf false],
 PV.int IntKind.i64 (8 : Int)]) ([[(1, false, Blk.cols mo [Col.bool to]),
 (0, false,
 Blk.cols mq [Col.str tq, Col.int IntKind.i64 vq, Col.int IntKind.i64 gq])]]) (13))
 (test (c34_e_1 ao no to)
 (test (S.opnB (1 : Int) (List.length (S.mkl no fun j => to (j + ao)))
 (fun j => S.at' (S.mkl no fun j => to (j + ao)) j) (1)
 (fun j => S.lit [k1] (0 : Int) j) (fun j => S.lit [k2] (0 : Int) j) fun j =>
 S.lit [k3] (0 : Int) j)
 (test (c34_e_1 ao no to)
 (test (c34_e_20 ao no to k1 k2 k3)
 (Kret (c34_e_5 aq nq tq vq gq de ao no to k1 k2 k3) (c34_e_2 aq nq mq tq vq gq ao no mo to) (17))
 (Kret (c34_e_7 aq nq tq vq gq de ao no to k1 k2 k3) (c34_e_2 aq nq mq tq vq gq ao no mo to) (17)))
 (False))
 (test (c34_e_1 ao no to)
 (test (c34_e_20 ao no to k1 k2 k3)
 (Kret (c34_e_8 aq nq tq vq gq de ao no to k1 k2 k3) (c34_e_2 aq nq mq tq vq gq ao no mo to) (17))
 (Kret (c34_e_12 aq nq tq vq gq de ao no to k1 k2 k3) (c34_e_2 aq nq mq tq vq gq ao no mo to) (17)))
 (False)))
 (False)))
 (False)))
 (False))
 (Kret (PV.tup
 [PV.agg
 [PV.nils, PV.int IntKind.i64 (0 : Int), PV.nils, PV.int IntKind.i64 (0 : Int),
 PV.int IntKind.i64 (0 : Int), PV.int IntKind.i64 (0 : Int), PV.tf false,
 PV.tf false],
 PV.int IntKind.i64 (1 : Int)]) ([[(1, false, Blk.cols mo [Col.bool to]),
 (0, false,
 Blk.cols mq [Col.str tq, Col.int IntKind.i64 vq, Col.int IntKind.i64 gq])]]) (10)))))))
 (False)))
 (False)
theorem te34 (test : Bool → Prop → Prop → Prop) (Kst : KS) (Kret : KR) (aq nq mq : Nat) (tq : Nat → ByteArray) (vq : Nat → Int) (gq : Nat → Int) (de : Int) (ao no mo : Nat) (to : Nat → Bool) (k1 : Int) (k2 : Int) (k3 : Int) (la : Bool) (lb : Bool) (ki : Int) (ss : Int) (f1 : Int) (f2 : Int) (f3 : Int) : run test Try.env true (xO test) true 400 ⟨34, [.cd (mkFn Try.f34).body], argT 0 [.agg [.loose ⟨0, 3, aq, 0⟩ nq, .int .i64 de, .loose ⟨1, 1, ao, 0⟩ no, .int .i64 k1, .int .i64 k2, .int .i64 k3, .bool la, .bool lb], .agg [.int .i64 ki, .int .i64 ss, .int .i64 f1, .int .i64 f2, .int .i64 f3]], [[], [(0, (false, .cols mq [.str tq, .int .i64 vq, .int .i64 gq])), (1, (false, .cols mo [.bool to]))]], 2⟩ (proj 2 [] Kst Kret) =
  Te34 test Kst Kret aq nq mq tq vq gq de ao no mo to k1 k2 k3 la lb ki ss f1 f2 f3 := by kernel_rfl
theorem be34 (aq nq mq : Nat) (tq : Nat → ByteArray) (vq : Nat → Int) (gq : Nat → Int) (de : Int) (ao no mo : Nat) (to : Nat → Bool) (k1 : Int) (k2 : Int) (k3 : Int) (la : Bool) (lb : Bool) (ki : Int) (ss : Int) (f1 : Int) (f2 : Int) (f3 : Int) (Kst : KS) (Kret : KR) (x : St34 ⊕ Rt34) (hS : HS 2 400 ((I34 aq nq mq tq vq gq de ao no mo to k1 k2 k3 la lb ki ss f1 f2 f3)) Kst x) (hR : HR 2 400 ((V34 aq nq mq tq vq gq de ao no mo to k1 k2 k3 la lb ki ss f1 f2 f3)) (fun r => [newL (2 + 1) ((N34 aq nq mq tq vq gq de ao no mo to k1 k2 k3 la lb ki ss f1 f2 f3) r) ++ [(0, (false, .cols mq [.str tq, .int .i64 vq, .int .i64 gq])), (1, (false, .cols mo [.bool to]))]]) Kret x) (h : (bif (decide (aq + nq ≤ mq ∧ nq ≤ 1000000 ∧ ao + no ≤ mo))
 then (bif (S.stE nq no
 (S.netE nq (fun j => tq (j + aq)) (fun j => vq (j + aq)) (fun j => gq (j + aq)) de)
 (fun j => to (j + ao)) k1 k2 k3 la lb !=
 (0 : Int))
 then (some (.inr ((0 : Int), (0 : Int), (0 : Int), (0 : Int), false, false, S.stE nq no
 (S.netE nq (fun j => tq (j + aq)) (fun j => vq (j + aq)) (fun j => gq (j + aq)) de)
 (fun j => to (j + ao)) k1 k2 k3 la lb, [], [])))
 else (bif (decide (aq + nq ≤ mq ∧ nq ≤ 1000000 ∧ ao + no ≤ mo ∧ no ≤ 1000000))
 then (bif (ki == (1 : Int))
 then (bif (decide (nq ≤ 1000000))
 then (bif (decide ((0 : Int) ≤ ss ∧ ss < (↑nq : Int)))
 then (bif (ki == (2 : Int))
 then (bif (decide ((0 : Int) ≤ ss ∧ ss < (↑(List.length (S.mkl no fun j => to (j + ao))) : Int)))
 then (bif (decide (Int.toNat ss < List.length (S.mkl no fun j => to (j + ao))))
 then (bif (la)
 then (bif (lb)
 then (some (.inr (c34_e_10 aq nq tq vq gq de ao no to k1 k2 k3 ss)))
 else (bif (c34_e_1 ao no to)
 then (bif (c34_e_6 ao no to k1 k2 k3 ss)
 then (some (.inr (c34_e_10 aq nq tq vq gq de ao no to k1 k2 k3 ss)))
 else (some (.inr (c34_e_17 aq nq tq vq gq de ao no to k1 k2 k3 ss))))
 else (none)))
 else (bif (c34_e_1 ao no to)
 then (bif (c34_e_16 ao no to k1 k2 k3 ss)
 then (bif (lb)
 then (some (.inr (c34_e_10 aq nq tq vq gq de ao no to k1 k2 k3 ss)))
 else (bif (c34_e_6 ao no to k1 k2 k3 ss)
 then (some (.inr (c34_e_10 aq nq tq vq gq de ao no to k1 k2 k3 ss)))
 else (some (.inr (c34_e_17 aq nq tq vq gq de ao no to k1 k2 k3 ss)))))
 else (bif (lb)
 then (some (.inr (c34_e_18 aq nq tq vq gq de ao no to k1 k2 k3 ss)))
 else (bif (c34_e_6 ao no to k1 k2 k3 ss)
 then (some (.inr (c34_e_18 aq nq tq vq gq de ao no to k1 k2 k3 ss)))
 else (some (.inr (de, k1, k2, k3, false, false, (0 : Int), S.mkl nq fun j => (tq (j + aq), vq (j + aq), gq (j + aq)), S.mkl (List.length (S.mkl no fun j => to (j + ao))) fun j =>
 bif Nat.beq j (Int.toNat ss) then true else S.at' (S.mkl no fun j => to (j + ao)) j))))))
 else (none)))
 else (none))
 else (none))
 else (bif (decide ((0 : Int) ≤ ss ∧ ss < (↑(List.length (S.mkl no fun j => to (j + ao))) : Int)))
 then (bif (decide (Int.toNat ss < List.length (S.mkl no fun j => to (j + ao))))
 then (bif (la)
 then (bif (lb)
 then (some (.inr (c34_e_19 aq nq tq vq gq de ao no to k1 k2 k3 ss)))
 else (bif (c34_e_1 ao no to)
 then (bif (c34_e_9 ao no to k1 k2 k3 ss)
 then (some (.inr (c34_e_19 aq nq tq vq gq de ao no to k1 k2 k3 ss)))
 else (some (.inr (de, k1, k2, k3, true, false, (0 : Int), S.mkl nq fun j => (tq (j + aq), vq (j + aq), gq (j + aq)), S.mkl (List.length (S.mkl no fun j => to (j + ao))) fun j =>
 bif Nat.beq j (Int.toNat ss) then false else S.at' (S.mkl no fun j => to (j + ao)) j))))
 else (none)))
 else (bif (c34_e_1 ao no to)
 then (bif (S.opnB (1 : Int) (List.length (S.mkl no fun j => to (j + ao)))
 (fun j =>
 bif Nat.beq j (Int.toNat ss) then false else S.at' (S.mkl no fun j => to (j + ao)) j)
 (1) (fun j => S.lit [k1] (0 : Int) j) (fun j => S.lit [k2] (0 : Int) j)
 fun j => S.lit [k3] (0 : Int) j)
 then (bif (lb)
 then (some (.inr (c34_e_19 aq nq tq vq gq de ao no to k1 k2 k3 ss)))
 else (bif (c34_e_9 ao no to k1 k2 k3 ss)
 then (some (.inr (c34_e_19 aq nq tq vq gq de ao no to k1 k2 k3 ss)))
 else (some (.inr (de, k1, k2, k3, true, false, (0 : Int), S.mkl nq fun j => (tq (j + aq), vq (j + aq), gq (j + aq)), S.mkl (List.length (S.mkl no fun j => to (j + ao))) fun j =>
 bif Nat.beq j (Int.toNat ss) then false else S.at' (S.mkl no fun j => to (j + ao)) j)))))
 else (bif (lb)
 then (some (.inr (de, k1, k2, k3, false, true, (0 : Int), S.mkl nq fun j => (tq (j + aq), vq (j + aq), gq (j + aq)), S.mkl (List.length (S.mkl no fun j => to (j + ao))) fun j =>
 bif Nat.beq j (Int.toNat ss) then false else S.at' (S.mkl no fun j => to (j + ao)) j)))
 else (bif (c34_e_9 ao no to k1 k2 k3 ss)
 then (some (.inr (de, k1, k2, k3, false, true, (0 : Int), S.mkl nq fun j => (tq (j + aq), vq (j + aq), gq (j + aq)), S.mkl (List.length (S.mkl no fun j => to (j + ao))) fun j =>
 bif Nat.beq j (Int.toNat ss) then false else S.at' (S.mkl no fun j => to (j + ao)) j)))
 else (some (.inr (de, k1, k2, k3, false, false, (0 : Int), S.mkl nq fun j => (tq (j + aq), vq (j + aq), gq (j + aq)), S.mkl (List.length (S.mkl no fun j => to (j + ao))) fun j =>
 bif Nat.beq j (Int.toNat ss) then false else S.at' (S.mkl no fun j => to (j + ao)) j))))))
 else (none)))
 else (none))
 else (none)))
 else (some (.inr ((0 : Int), (0 : Int), (0 : Int), (0 : Int), false, false, (6 : Int), [], []))))
 else (none))
 else (bif (ki == (2 : Int))
 then (bif (decide (nq ≤ 1000000))
 then (bif (decide ((0 : Int) ≤ ss ∧ ss < (↑nq : Int)))
 then (bif (decide ((0 : Int) ≤ ss ∧ ss < (↑(List.length (S.mkl no fun j => to (j + ao))) : Int)))
 then (bif (decide (Int.toNat ss < List.length (S.mkl no fun j => to (j + ao))))
 then (bif (la)
 then (bif (lb)
 then (some (.inr (c34_e_10 aq nq tq vq gq de ao no to k1 k2 k3 ss)))
 else (bif (c34_e_1 ao no to)
 then (bif (c34_e_6 ao no to k1 k2 k3 ss)
 then (some (.inr (c34_e_10 aq nq tq vq gq de ao no to k1 k2 k3 ss)))
 else (some (.inr (c34_e_17 aq nq tq vq gq de ao no to k1 k2 k3 ss))))
 else (none)))
 else (bif (c34_e_1 ao no to)
 then (bif (c34_e_16 ao no to k1 k2 k3 ss)
 then (bif (lb)
 then (some (.inr (c34_e_10 aq nq tq vq gq de ao no to k1 k2 k3 ss)))
 else (bif (c34_e_6 ao no to k1 k2 k3 ss)
 then (some (.inr (c34_e_10 aq nq tq vq gq de ao no to k1 k2 k3 ss)))
 else (some (.inr (c34_e_17 aq nq tq vq gq de ao no to k1 k2 k3 ss)))))
 else (bif (lb)
 then (some (.inr (c34_e_18 aq nq tq vq gq de ao no to k1 k2 k3 ss)))
 else (bif (c34_e_6 ao no to k1 k2 k3 ss)
 then (some (.inr (c34_e_18 aq nq tq vq gq de ao no to k1 k2 k3 ss)))
 else (some (.inr (de, k1, k2, k3, false, false, (0 : Int), S.mkl nq fun j => (tq (j + aq), vq (j + aq), gq (j + aq)), S.mkl (List.length (S.mkl no fun j => to (j + ao))) fun j =>
 bif Nat.beq j (Int.toNat ss) then true else S.at' (S.mkl no fun j => to (j + ao)) j))))))
 else (none)))
 else (none))
 else (none))
 else (some (.inr ((0 : Int), (0 : Int), (0 : Int), (0 : Int), false, false, (6 : Int), [], []))))
 else (none))
 else (bif (ki == (3 : Int))
 then (bif (decide (nq ≤ 100000))
 then (bif (S.failE nq f1 f2 f3 != (0 : Int))
 then (some (.inr ((0 : Int), (0 : Int), (0 : Int), (0 : Int), false, false, S.failE nq f1 f2 f3, [], [])))
 else (bif (la)
 then (bif (lb)
 then (some (.inr (de, f1, f2, f3, true, true, (0 : Int), S.mkl nq fun j => (tq (j + aq), vq (j + aq), gq (j + aq)), S.mkl no fun j => to (j + ao))))
 else (bif (c34_e_1 ao no to)
 then (bif (c34_e_13 ao no to f1 f2 f3)
 then (some (.inr (de, f1, f2, f3, true, true, (0 : Int), S.mkl nq fun j => (tq (j + aq), vq (j + aq), gq (j + aq)), S.mkl no fun j => to (j + ao))))
 else (some (.inr (de, f1, f2, f3, true, false, (0 : Int), S.mkl nq fun j => (tq (j + aq), vq (j + aq), gq (j + aq)), S.mkl no fun j => to (j + ao)))))
 else (none)))
 else (bif (c34_e_1 ao no to)
 then (bif (S.opnB (1 : Int) (List.length (S.mkl no fun j => to (j + ao)))
 (fun j => S.at' (S.mkl no fun j => to (j + ao)) j) (1)
 (fun j => S.lit [f1] (0 : Int) j) (fun j => S.lit [f2] (0 : Int) j) fun j =>
 S.lit [f3] (0 : Int) j)
 then (bif (lb)
 then (some (.inr (de, f1, f2, f3, true, true, (0 : Int), S.mkl nq fun j => (tq (j + aq), vq (j + aq), gq (j + aq)), S.mkl no fun j => to (j + ao))))
 else (bif (c34_e_13 ao no to f1 f2 f3)
 then (some (.inr (de, f1, f2, f3, true, true, (0 : Int), S.mkl nq fun j => (tq (j + aq), vq (j + aq), gq (j + aq)), S.mkl no fun j => to (j + ao))))
 else (some (.inr (de, f1, f2, f3, true, false, (0 : Int), S.mkl nq fun j => (tq (j + aq), vq (j + aq), gq (j + aq)), S.mkl no fun j => to (j + ao))))))
 else (bif (lb)
 then (some (.inr (de, f1, f2, f3, false, true, (0 : Int), S.mkl nq fun j => (tq (j + aq), vq (j + aq), gq (j + aq)), S.mkl no fun j => to (j + ao))))
 else (bif (c34_e_13 ao no to f1 f2 f3)
 then (some (.inr (de, f1, f2, f3, false, true, (0 : Int), S.mkl nq fun j => (tq (j + aq), vq (j + aq), gq (j + aq)), S.mkl no fun j => to (j + ao))))
 else (some (.inr (de, f1, f2, f3, false, false, (0 : Int), S.mkl nq fun j => (tq (j + aq), vq (j + aq), gq (j + aq)), S.mkl no fun j => to (j + ao)))))))
 else (none))))
 else (none))
 else (bif (ki == (4 : Int))
 then (bif (la)
 then (bif (lb)
 then (some (.inr (de, (0 : Int), (0 : Int), (0 : Int), true, true, (0 : Int), S.mkl nq fun j => (tq (j + aq), vq (j + aq), gq (j + aq)), S.mkl no fun j => to (j + ao))))
 else (bif (c34_e_1 ao no to)
 then (bif (c34_e_11 ao no to)
 then (some (.inr (de, (0 : Int), (0 : Int), (0 : Int), true, true, (0 : Int), S.mkl nq fun j => (tq (j + aq), vq (j + aq), gq (j + aq)), S.mkl no fun j => to (j + ao))))
 else (some (.inr (de, (0 : Int), (0 : Int), (0 : Int), true, false, (0 : Int), S.mkl nq fun j => (tq (j + aq), vq (j + aq), gq (j + aq)), S.mkl no fun j => to (j + ao)))))
 else (none)))
 else (bif (c34_e_1 ao no to)
 then (bif (S.opnB (1 : Int) (List.length (S.mkl no fun j => to (j + ao)))
 (fun j => S.at' (S.mkl no fun j => to (j + ao)) j) (1)
 (fun j => S.lit [(0 : Int)] (0 : Int) j) (fun j => S.lit [(0 : Int)] (0 : Int) j)
 fun j => S.lit [(0 : Int)] (0 : Int) j)
 then (bif (lb)
 then (some (.inr (de, (0 : Int), (0 : Int), (0 : Int), true, true, (0 : Int), S.mkl nq fun j => (tq (j + aq), vq (j + aq), gq (j + aq)), S.mkl no fun j => to (j + ao))))
 else (bif (c34_e_11 ao no to)
 then (some (.inr (de, (0 : Int), (0 : Int), (0 : Int), true, true, (0 : Int), S.mkl nq fun j => (tq (j + aq), vq (j + aq), gq (j + aq)), S.mkl no fun j => to (j + ao))))
 else (some (.inr (de, (0 : Int), (0 : Int), (0 : Int), true, false, (0 : Int), S.mkl nq fun j => (tq (j + aq), vq (j + aq), gq (j + aq)), S.mkl no fun j => to (j + ao))))))
 else (bif (lb)
 then (some (.inr (de, (0 : Int), (0 : Int), (0 : Int), false, true, (0 : Int), S.mkl nq fun j => (tq (j + aq), vq (j + aq), gq (j + aq)), S.mkl no fun j => to (j + ao))))
 else (bif (c34_e_11 ao no to)
 then (some (.inr (de, (0 : Int), (0 : Int), (0 : Int), false, true, (0 : Int), S.mkl nq fun j => (tq (j + aq), vq (j + aq), gq (j + aq)), S.mkl no fun j => to (j + ao))))
 else (some (.inr (de, (0 : Int), (0 : Int), (0 : Int), false, false, (0 : Int), S.mkl nq fun j => (tq (j + aq), vq (j + aq), gq (j + aq)), S.mkl no fun j => to (j + ao)))))))
 else (none)))
 else (bif (ki == (5 : Int))
 then (bif (decide (ao + no ≤ mo ∧ no ≤ 1000000))
 then (bif (S.any (fun j => to (j + ao) == false) no)
 then (some (.inr ((0 : Int), (0 : Int), (0 : Int), (0 : Int), false, false, (8 : Int), [], [])))
 else (bif (decide (1 ≤ 1 ∧ 1 ≤ 1000000 ∧ ao + no ≤ mo ∧ no ≤ 1000000))
 then (bif (S.safB no (fun j => to (j + ao)) (1) (fun j => S.lit [k1] (0 : Int) j)
 (fun j => S.lit [k2] (0 : Int) j) fun j => S.lit [k3] (0 : Int) j)
 then (some (.inr ((0 : Int), (0 : Int), (0 : Int), (0 : Int), false, false, (8 : Int), [], [])))
 else (bif (c34_e_1 ao no to)
 then (bif (S.opnB (1 : Int) (List.length (S.mkl no fun j => to (j + ao)))
 (fun j => S.at' (S.mkl no fun j => to (j + ao)) j) (1)
 (fun j => S.lit [k1] (0 : Int) j) (fun j => S.lit [k2] (0 : Int) j) fun j =>
 S.lit [k3] (0 : Int) j)
 then (bif (c34_e_20 ao no to k1 k2 k3)
 then (some (.inr (de, k1, k2, k3, true, true, (0 : Int), S.mkl nq fun j => (tq (j + aq), vq (j + aq), gq (j + aq)), S.mkl no fun j => to (j + ao))))
 else (some (.inr (de, k1, k2, k3, true, false, (0 : Int), S.mkl nq fun j => (tq (j + aq), vq (j + aq), gq (j + aq)), S.mkl no fun j => to (j + ao)))))
 else (bif (c34_e_20 ao no to k1 k2 k3)
 then (some (.inr (de, k1, k2, k3, false, true, (0 : Int), S.mkl nq fun j => (tq (j + aq), vq (j + aq), gq (j + aq)), S.mkl no fun j => to (j + ao))))
 else (some (.inr (de, k1, k2, k3, false, false, (0 : Int), S.mkl nq fun j => (tq (j + aq), vq (j + aq), gq (j + aq)), S.mkl no fun j => to (j + ao))))))
 else (none)))
 else (none)))
 else (none))
 else (some (.inr ((0 : Int), (0 : Int), (0 : Int), (0 : Int), false, false, (1 : Int), [], []))))))))
 else (none)))
 else (none) : Option (St34 ⊕ Rt34)) = some x) : Te34 cond Kst Kret aq nq mq tq vq gq de ao no mo to k1 k2 k3 la lb ki ss f1 f2 f3 := by
  unfold Te34
  exact bif_split h
   (fun c0 h => bif_split h
   (fun c1 h => ret_at hR _ h (fun n => bif Nat.beq n 3 then 399 else bif Nat.beq n 4 then 398 else n) rfl rfl rfl (rn_tup ⟨(rn_agg ⟨(rn_own_nils rfl), (rn_int rfl), (rn_own_nils rfl), (rn_int rfl), (rn_int rfl), (rn_int rfl), (rn_bool_tf rfl), (rn_bool_tf rfl), trivial⟩), (rn_int rfl), trivial⟩) rfl (entl_fresh (use_own rfl) (fresh_ok rfl) (entl_fresh (use_own rfl) (fresh_ok rfl) (entl_bor (use_lo rfl) rfl rfl (entl_bor (use_lo rfl) rfl rfl entl_nil)))))
   (fun c1 h => bif_split h
   (fun c2 h => bif_split h
   (fun c3 h => bif_split h
   (fun c4 h => bif_split h
   (fun c5 h => bif_split h
   (fun c6 h => bif_split h
   (fun c7 h => bif_split h
   (fun c8 h => bif_split h
   (fun c9 h => bif_split h
   (fun c10 h => ret_at hR _ h (fun n => bif Nat.beq n 3 then 7 else bif Nat.beq n 4 then 8 else n) rfl rfl rfl (rn_tup ⟨(rn_agg ⟨(rn_own (use_own rfl) rfl rfl), (rn_int rfl), (rn_own (use_own rfl) rfl mkl_len), (rn_int rfl), (rn_int rfl), (rn_int rfl), (rn_bool_tf rfl), (rn_bool_tf rfl), trivial⟩), (rn_int rfl), trivial⟩) rfl (entl_new (use_own rfl) rfl (Nat.le_of_eq rfl) (rcs_str (fun _ _ => rfl) (rcs_int (fun _ _ => rfl) (rcs_int (fun _ _ => rfl) rcs_nil))) (entl_new (use_own rfl) rfl (Nat.le_of_eq mkl_len) (rcs_bool (fun _ hj => col_mkl (fun (t : Bool) => t) hj) rcs_nil) (entl_bor (use_lo rfl) rfl rfl (entl_bor (use_lo rfl) rfl rfl entl_nil)))))
   (fun c10 h => bif_split h
   (fun c11 h => bif_split h
   (fun c12 h => ret_at hR _ h (fun n => bif Nat.beq n 3 then 7 else bif Nat.beq n 4 then 8 else n) rfl rfl rfl (rn_tup ⟨(rn_agg ⟨(rn_own (use_own rfl) rfl rfl), (rn_int rfl), (rn_own (use_own rfl) rfl mkl_len), (rn_int rfl), (rn_int rfl), (rn_int rfl), (rn_bool_tf rfl), (rn_bool_tf rfl), trivial⟩), (rn_int rfl), trivial⟩) rfl (entl_new (use_own rfl) rfl (Nat.le_of_eq rfl) (rcs_str (fun _ _ => rfl) (rcs_int (fun _ _ => rfl) (rcs_int (fun _ _ => rfl) rcs_nil))) (entl_new (use_own rfl) rfl (Nat.le_of_eq mkl_len) (rcs_bool (fun _ hj => col_mkl (fun (t : Bool) => t) hj) rcs_nil) (entl_bor (use_lo rfl) rfl rfl (entl_bor (use_lo rfl) rfl rfl entl_nil)))))
   (fun c12 h => ret_at hR _ h (fun n => bif Nat.beq n 3 then 7 else bif Nat.beq n 4 then 8 else n) rfl rfl rfl (rn_tup ⟨(rn_agg ⟨(rn_own (use_own rfl) rfl rfl), (rn_int rfl), (rn_own (use_own rfl) rfl mkl_len), (rn_int rfl), (rn_int rfl), (rn_int rfl), (rn_bool_tf rfl), (rn_bool_tf rfl), trivial⟩), (rn_int rfl), trivial⟩) rfl (entl_new (use_own rfl) rfl (Nat.le_of_eq rfl) (rcs_str (fun _ _ => rfl) (rcs_int (fun _ _ => rfl) (rcs_int (fun _ _ => rfl) rcs_nil))) (entl_new (use_own rfl) rfl (Nat.le_of_eq mkl_len) (rcs_bool (fun _ hj => col_mkl (fun (t : Bool) => t) hj) rcs_nil) (entl_bor (use_lo rfl) rfl rfl (entl_bor (use_lo rfl) rfl rfl entl_nil))))))
   (fun c11 h => no_some h)))
   (fun c9 h => bif_split h
   (fun c10 h => bif_split h
   (fun c11 h => bif_split h
   (fun c12 h => ret_at hR _ h (fun n => bif Nat.beq n 3 then 7 else bif Nat.beq n 4 then 8 else n) rfl rfl rfl (rn_tup ⟨(rn_agg ⟨(rn_own (use_own rfl) rfl rfl), (rn_int rfl), (rn_own (use_own rfl) rfl mkl_len), (rn_int rfl), (rn_int rfl), (rn_int rfl), (rn_bool_tf rfl), (rn_bool_tf rfl), trivial⟩), (rn_int rfl), trivial⟩) rfl (entl_new (use_own rfl) rfl (Nat.le_of_eq rfl) (rcs_str (fun _ _ => rfl) (rcs_int (fun _ _ => rfl) (rcs_int (fun _ _ => rfl) rcs_nil))) (entl_new (use_own rfl) rfl (Nat.le_of_eq mkl_len) (rcs_bool (fun _ hj => col_mkl (fun (t : Bool) => t) hj) rcs_nil) (entl_bor (use_lo rfl) rfl rfl (entl_bor (use_lo rfl) rfl rfl entl_nil)))))
   (fun c12 h => cond_yes c10 (bif_split h
   (fun c13 h => ret_at hR _ h (fun n => bif Nat.beq n 3 then 7 else bif Nat.beq n 4 then 8 else n) rfl rfl rfl (rn_tup ⟨(rn_agg ⟨(rn_own (use_own rfl) rfl rfl), (rn_int rfl), (rn_own (use_own rfl) rfl mkl_len), (rn_int rfl), (rn_int rfl), (rn_int rfl), (rn_bool_tf rfl), (rn_bool_tf rfl), trivial⟩), (rn_int rfl), trivial⟩) rfl (entl_new (use_own rfl) rfl (Nat.le_of_eq rfl) (rcs_str (fun _ _ => rfl) (rcs_int (fun _ _ => rfl) (rcs_int (fun _ _ => rfl) rcs_nil))) (entl_new (use_own rfl) rfl (Nat.le_of_eq mkl_len) (rcs_bool (fun _ hj => col_mkl (fun (t : Bool) => t) hj) rcs_nil) (entl_bor (use_lo rfl) rfl rfl (entl_bor (use_lo rfl) rfl rfl entl_nil)))))
   (fun c13 h => ret_at hR _ h (fun n => bif Nat.beq n 3 then 7 else bif Nat.beq n 4 then 8 else n) rfl rfl rfl (rn_tup ⟨(rn_agg ⟨(rn_own (use_own rfl) rfl rfl), (rn_int rfl), (rn_own (use_own rfl) rfl mkl_len), (rn_int rfl), (rn_int rfl), (rn_int rfl), (rn_bool_tf rfl), (rn_bool_tf rfl), trivial⟩), (rn_int rfl), trivial⟩) rfl (entl_new (use_own rfl) rfl (Nat.le_of_eq rfl) (rcs_str (fun _ _ => rfl) (rcs_int (fun _ _ => rfl) (rcs_int (fun _ _ => rfl) rcs_nil))) (entl_new (use_own rfl) rfl (Nat.le_of_eq mkl_len) (rcs_bool (fun _ hj => col_mkl (fun (t : Bool) => t) hj) rcs_nil) (entl_bor (use_lo rfl) rfl rfl (entl_bor (use_lo rfl) rfl rfl entl_nil))))))))
   (fun c11 h => bif_split h
   (fun c12 h => ret_at hR _ h (fun n => bif Nat.beq n 3 then 7 else bif Nat.beq n 4 then 8 else n) rfl rfl rfl (rn_tup ⟨(rn_agg ⟨(rn_own (use_own rfl) rfl rfl), (rn_int rfl), (rn_own (use_own rfl) rfl mkl_len), (rn_int rfl), (rn_int rfl), (rn_int rfl), (rn_bool_tf rfl), (rn_bool_tf rfl), trivial⟩), (rn_int rfl), trivial⟩) rfl (entl_new (use_own rfl) rfl (Nat.le_of_eq rfl) (rcs_str (fun _ _ => rfl) (rcs_int (fun _ _ => rfl) (rcs_int (fun _ _ => rfl) rcs_nil))) (entl_new (use_own rfl) rfl (Nat.le_of_eq mkl_len) (rcs_bool (fun _ hj => col_mkl (fun (t : Bool) => t) hj) rcs_nil) (entl_bor (use_lo rfl) rfl rfl (entl_bor (use_lo rfl) rfl rfl entl_nil)))))
   (fun c12 h => cond_yes c10 (bif_split h
   (fun c13 h => ret_at hR _ h (fun n => bif Nat.beq n 3 then 7 else bif Nat.beq n 4 then 8 else n) rfl rfl rfl (rn_tup ⟨(rn_agg ⟨(rn_own (use_own rfl) rfl rfl), (rn_int rfl), (rn_own (use_own rfl) rfl mkl_len), (rn_int rfl), (rn_int rfl), (rn_int rfl), (rn_bool_tf rfl), (rn_bool_tf rfl), trivial⟩), (rn_int rfl), trivial⟩) rfl (entl_new (use_own rfl) rfl (Nat.le_of_eq rfl) (rcs_str (fun _ _ => rfl) (rcs_int (fun _ _ => rfl) (rcs_int (fun _ _ => rfl) rcs_nil))) (entl_new (use_own rfl) rfl (Nat.le_of_eq mkl_len) (rcs_bool (fun _ hj => col_mkl (fun (t : Bool) => t) hj) rcs_nil) (entl_bor (use_lo rfl) rfl rfl (entl_bor (use_lo rfl) rfl rfl entl_nil)))))
   (fun c13 h => ret_at hR _ h (fun n => bif Nat.beq n 3 then 7 else bif Nat.beq n 4 then 8 else n) rfl rfl rfl (rn_tup ⟨(rn_agg ⟨(rn_own (use_own rfl) rfl rfl), (rn_int rfl), (rn_own (use_own rfl) rfl mkl_len), (rn_int rfl), (rn_int rfl), (rn_int rfl), (rn_bool_tf rfl), (rn_bool_tf rfl), trivial⟩), (rn_int rfl), trivial⟩) rfl (entl_new (use_own rfl) rfl (Nat.le_of_eq rfl) (rcs_str (fun _ _ => rfl) (rcs_int (fun _ _ => rfl) (rcs_int (fun _ _ => rfl) rcs_nil))) (entl_new (use_own rfl) rfl (Nat.le_of_eq mkl_len) (rcs_bool (fun _ hj => col_mkl (fun (t : Bool) => t) hj) rcs_nil) (entl_bor (use_lo rfl) rfl rfl (entl_bor (use_lo rfl) rfl rfl entl_nil)))))))))
   (fun c10 h => no_some h)))
   (fun c8 h => no_some h))
   (fun c7 h => no_some h))
   (fun c6 h => bif_split h
   (fun c7 h => bif_split h
   (fun c8 h => bif_split h
   (fun c9 h => bif_split h
   (fun c10 h => ret_at hR _ h (fun n => bif Nat.beq n 3 then 7 else bif Nat.beq n 4 then 8 else n) rfl rfl rfl (rn_tup ⟨(rn_agg ⟨(rn_own (use_own rfl) rfl rfl), (rn_int rfl), (rn_own (use_own rfl) rfl mkl_len), (rn_int rfl), (rn_int rfl), (rn_int rfl), (rn_bool_tf rfl), (rn_bool_tf rfl), trivial⟩), (rn_int rfl), trivial⟩) rfl (entl_new (use_own rfl) rfl (Nat.le_of_eq rfl) (rcs_str (fun _ _ => rfl) (rcs_int (fun _ _ => rfl) (rcs_int (fun _ _ => rfl) rcs_nil))) (entl_new (use_own rfl) rfl (Nat.le_of_eq mkl_len) (rcs_bool (fun _ hj => col_mkl (fun (t : Bool) => t) hj) rcs_nil) (entl_bor (use_lo rfl) rfl rfl (entl_bor (use_lo rfl) rfl rfl entl_nil)))))
   (fun c10 h => bif_split h
   (fun c11 h => bif_split h
   (fun c12 h => ret_at hR _ h (fun n => bif Nat.beq n 3 then 7 else bif Nat.beq n 4 then 8 else n) rfl rfl rfl (rn_tup ⟨(rn_agg ⟨(rn_own (use_own rfl) rfl rfl), (rn_int rfl), (rn_own (use_own rfl) rfl mkl_len), (rn_int rfl), (rn_int rfl), (rn_int rfl), (rn_bool_tf rfl), (rn_bool_tf rfl), trivial⟩), (rn_int rfl), trivial⟩) rfl (entl_new (use_own rfl) rfl (Nat.le_of_eq rfl) (rcs_str (fun _ _ => rfl) (rcs_int (fun _ _ => rfl) (rcs_int (fun _ _ => rfl) rcs_nil))) (entl_new (use_own rfl) rfl (Nat.le_of_eq mkl_len) (rcs_bool (fun _ hj => col_mkl (fun (t : Bool) => t) hj) rcs_nil) (entl_bor (use_lo rfl) rfl rfl (entl_bor (use_lo rfl) rfl rfl entl_nil)))))
   (fun c12 h => ret_at hR _ h (fun n => bif Nat.beq n 3 then 7 else bif Nat.beq n 4 then 8 else n) rfl rfl rfl (rn_tup ⟨(rn_agg ⟨(rn_own (use_own rfl) rfl rfl), (rn_int rfl), (rn_own (use_own rfl) rfl mkl_len), (rn_int rfl), (rn_int rfl), (rn_int rfl), (rn_bool_tf rfl), (rn_bool_tf rfl), trivial⟩), (rn_int rfl), trivial⟩) rfl (entl_new (use_own rfl) rfl (Nat.le_of_eq rfl) (rcs_str (fun _ _ => rfl) (rcs_int (fun _ _ => rfl) (rcs_int (fun _ _ => rfl) rcs_nil))) (entl_new (use_own rfl) rfl (Nat.le_of_eq mkl_len) (rcs_bool (fun _ hj => col_mkl (fun (t : Bool) => t) hj) rcs_nil) (entl_bor (use_lo rfl) rfl rfl (entl_bor (use_lo rfl) rfl rfl entl_nil))))))
   (fun c11 h => no_some h)))
   (fun c9 h => bif_split h
   (fun c10 h => bif_split h
   (fun c11 h => bif_split h
   (fun c12 h => ret_at hR _ h (fun n => bif Nat.beq n 3 then 7 else bif Nat.beq n 4 then 8 else n) rfl rfl rfl (rn_tup ⟨(rn_agg ⟨(rn_own (use_own rfl) rfl rfl), (rn_int rfl), (rn_own (use_own rfl) rfl mkl_len), (rn_int rfl), (rn_int rfl), (rn_int rfl), (rn_bool_tf rfl), (rn_bool_tf rfl), trivial⟩), (rn_int rfl), trivial⟩) rfl (entl_new (use_own rfl) rfl (Nat.le_of_eq rfl) (rcs_str (fun _ _ => rfl) (rcs_int (fun _ _ => rfl) (rcs_int (fun _ _ => rfl) rcs_nil))) (entl_new (use_own rfl) rfl (Nat.le_of_eq mkl_len) (rcs_bool (fun _ hj => col_mkl (fun (t : Bool) => t) hj) rcs_nil) (entl_bor (use_lo rfl) rfl rfl (entl_bor (use_lo rfl) rfl rfl entl_nil)))))
   (fun c12 h => cond_yes c10 (bif_split h
   (fun c13 h => ret_at hR _ h (fun n => bif Nat.beq n 3 then 7 else bif Nat.beq n 4 then 8 else n) rfl rfl rfl (rn_tup ⟨(rn_agg ⟨(rn_own (use_own rfl) rfl rfl), (rn_int rfl), (rn_own (use_own rfl) rfl mkl_len), (rn_int rfl), (rn_int rfl), (rn_int rfl), (rn_bool_tf rfl), (rn_bool_tf rfl), trivial⟩), (rn_int rfl), trivial⟩) rfl (entl_new (use_own rfl) rfl (Nat.le_of_eq rfl) (rcs_str (fun _ _ => rfl) (rcs_int (fun _ _ => rfl) (rcs_int (fun _ _ => rfl) rcs_nil))) (entl_new (use_own rfl) rfl (Nat.le_of_eq mkl_len) (rcs_bool (fun _ hj => col_mkl (fun (t : Bool) => t) hj) rcs_nil) (entl_bor (use_lo rfl) rfl rfl (entl_bor (use_lo rfl) rfl rfl entl_nil)))))
   (fun c13 h => ret_at hR _ h (fun n => bif Nat.beq n 3 then 7 else bif Nat.beq n 4 then 8 else n) rfl rfl rfl (rn_tup ⟨(rn_agg ⟨(rn_own (use_own rfl) rfl rfl), (rn_int rfl), (rn_own (use_own rfl) rfl mkl_len), (rn_int rfl), (rn_int rfl), (rn_int rfl), (rn_bool_tf rfl), (rn_bool_tf rfl), trivial⟩), (rn_int rfl), trivial⟩) rfl (entl_new (use_own rfl) rfl (Nat.le_of_eq rfl) (rcs_str (fun _ _ => rfl) (rcs_int (fun _ _ => rfl) (rcs_int (fun _ _ => rfl) rcs_nil))) (entl_new (use_own rfl) rfl (Nat.le_of_eq mkl_len) (rcs_bool (fun _ hj => col_mkl (fun (t : Bool) => t) hj) rcs_nil) (entl_bor (use_lo rfl) rfl rfl (entl_bor (use_lo rfl) rfl rfl entl_nil))))))))
   (fun c11 h => bif_split h
   (fun c12 h => ret_at hR _ h (fun n => bif Nat.beq n 3 then 7 else bif Nat.beq n 4 then 8 else n) rfl rfl rfl (rn_tup ⟨(rn_agg ⟨(rn_own (use_own rfl) rfl rfl), (rn_int rfl), (rn_own (use_own rfl) rfl mkl_len), (rn_int rfl), (rn_int rfl), (rn_int rfl), (rn_bool_tf rfl), (rn_bool_tf rfl), trivial⟩), (rn_int rfl), trivial⟩) rfl (entl_new (use_own rfl) rfl (Nat.le_of_eq rfl) (rcs_str (fun _ _ => rfl) (rcs_int (fun _ _ => rfl) (rcs_int (fun _ _ => rfl) rcs_nil))) (entl_new (use_own rfl) rfl (Nat.le_of_eq mkl_len) (rcs_bool (fun _ hj => col_mkl (fun (t : Bool) => t) hj) rcs_nil) (entl_bor (use_lo rfl) rfl rfl (entl_bor (use_lo rfl) rfl rfl entl_nil)))))
   (fun c12 h => cond_yes c10 (bif_split h
   (fun c13 h => ret_at hR _ h (fun n => bif Nat.beq n 3 then 7 else bif Nat.beq n 4 then 8 else n) rfl rfl rfl (rn_tup ⟨(rn_agg ⟨(rn_own (use_own rfl) rfl rfl), (rn_int rfl), (rn_own (use_own rfl) rfl mkl_len), (rn_int rfl), (rn_int rfl), (rn_int rfl), (rn_bool_tf rfl), (rn_bool_tf rfl), trivial⟩), (rn_int rfl), trivial⟩) rfl (entl_new (use_own rfl) rfl (Nat.le_of_eq rfl) (rcs_str (fun _ _ => rfl) (rcs_int (fun _ _ => rfl) (rcs_int (fun _ _ => rfl) rcs_nil))) (entl_new (use_own rfl) rfl (Nat.le_of_eq mkl_len) (rcs_bool (fun _ hj => col_mkl (fun (t : Bool) => t) hj) rcs_nil) (entl_bor (use_lo rfl) rfl rfl (entl_bor (use_lo rfl) rfl rfl entl_nil)))))
   (fun c13 h => ret_at hR _ h (fun n => bif Nat.beq n 3 then 7 else bif Nat.beq n 4 then 8 else n) rfl rfl rfl (rn_tup ⟨(rn_agg ⟨(rn_own (use_own rfl) rfl rfl), (rn_int rfl), (rn_own (use_own rfl) rfl mkl_len), (rn_int rfl), (rn_int rfl), (rn_int rfl), (rn_bool_tf rfl), (rn_bool_tf rfl), trivial⟩), (rn_int rfl), trivial⟩) rfl (entl_new (use_own rfl) rfl (Nat.le_of_eq rfl) (rcs_str (fun _ _ => rfl) (rcs_int (fun _ _ => rfl) (rcs_int (fun _ _ => rfl) rcs_nil))) (entl_new (use_own rfl) rfl (Nat.le_of_eq mkl_len) (rcs_bool (fun _ hj => col_mkl (fun (t : Bool) => t) hj) rcs_nil) (entl_bor (use_lo rfl) rfl rfl (entl_bor (use_lo rfl) rfl rfl entl_nil)))))))))
   (fun c10 h => no_some h)))
   (fun c8 h => no_some h))
   (fun c7 h => no_some h)))
   (fun c5 h => ret_at hR _ h (fun n => bif Nat.beq n 3 then 399 else bif Nat.beq n 4 then 398 else n) rfl rfl rfl (rn_tup ⟨(rn_agg ⟨(rn_own_nils rfl), (rn_int rfl), (rn_own_nils rfl), (rn_int rfl), (rn_int rfl), (rn_int rfl), (rn_bool_tf rfl), (rn_bool_tf rfl), trivial⟩), (rn_int rfl), trivial⟩) rfl (entl_fresh (use_own rfl) (fresh_ok rfl) (entl_fresh (use_own rfl) (fresh_ok rfl) (entl_bor (use_lo rfl) rfl rfl (entl_bor (use_lo rfl) rfl rfl entl_nil))))))
   (fun c4 h => no_some h))
   (fun c3 h => bif_split h
   (fun c4 h => bif_split h
   (fun c5 h => bif_split h
   (fun c6 h => cond_yes c4 (bif_split h
   (fun c7 h => bif_split h
   (fun c8 h => bif_split h
   (fun c9 h => bif_split h
   (fun c10 h => ret_at hR _ h (fun n => bif Nat.beq n 3 then 7 else bif Nat.beq n 4 then 8 else n) rfl rfl rfl (rn_tup ⟨(rn_agg ⟨(rn_own (use_own rfl) rfl rfl), (rn_int rfl), (rn_own (use_own rfl) rfl mkl_len), (rn_int rfl), (rn_int rfl), (rn_int rfl), (rn_bool_tf rfl), (rn_bool_tf rfl), trivial⟩), (rn_int rfl), trivial⟩) rfl (entl_new (use_own rfl) rfl (Nat.le_of_eq rfl) (rcs_str (fun _ _ => rfl) (rcs_int (fun _ _ => rfl) (rcs_int (fun _ _ => rfl) rcs_nil))) (entl_new (use_own rfl) rfl (Nat.le_of_eq mkl_len) (rcs_bool (fun _ hj => col_mkl (fun (t : Bool) => t) hj) rcs_nil) (entl_bor (use_lo rfl) rfl rfl (entl_bor (use_lo rfl) rfl rfl entl_nil)))))
   (fun c10 h => bif_split h
   (fun c11 h => bif_split h
   (fun c12 h => ret_at hR _ h (fun n => bif Nat.beq n 3 then 7 else bif Nat.beq n 4 then 8 else n) rfl rfl rfl (rn_tup ⟨(rn_agg ⟨(rn_own (use_own rfl) rfl rfl), (rn_int rfl), (rn_own (use_own rfl) rfl mkl_len), (rn_int rfl), (rn_int rfl), (rn_int rfl), (rn_bool_tf rfl), (rn_bool_tf rfl), trivial⟩), (rn_int rfl), trivial⟩) rfl (entl_new (use_own rfl) rfl (Nat.le_of_eq rfl) (rcs_str (fun _ _ => rfl) (rcs_int (fun _ _ => rfl) (rcs_int (fun _ _ => rfl) rcs_nil))) (entl_new (use_own rfl) rfl (Nat.le_of_eq mkl_len) (rcs_bool (fun _ hj => col_mkl (fun (t : Bool) => t) hj) rcs_nil) (entl_bor (use_lo rfl) rfl rfl (entl_bor (use_lo rfl) rfl rfl entl_nil)))))
   (fun c12 h => ret_at hR _ h (fun n => bif Nat.beq n 3 then 7 else bif Nat.beq n 4 then 8 else n) rfl rfl rfl (rn_tup ⟨(rn_agg ⟨(rn_own (use_own rfl) rfl rfl), (rn_int rfl), (rn_own (use_own rfl) rfl mkl_len), (rn_int rfl), (rn_int rfl), (rn_int rfl), (rn_bool_tf rfl), (rn_bool_tf rfl), trivial⟩), (rn_int rfl), trivial⟩) rfl (entl_new (use_own rfl) rfl (Nat.le_of_eq rfl) (rcs_str (fun _ _ => rfl) (rcs_int (fun _ _ => rfl) (rcs_int (fun _ _ => rfl) rcs_nil))) (entl_new (use_own rfl) rfl (Nat.le_of_eq mkl_len) (rcs_bool (fun _ hj => col_mkl (fun (t : Bool) => t) hj) rcs_nil) (entl_bor (use_lo rfl) rfl rfl (entl_bor (use_lo rfl) rfl rfl entl_nil))))))
   (fun c11 h => no_some h)))
   (fun c9 h => bif_split h
   (fun c10 h => bif_split h
   (fun c11 h => bif_split h
   (fun c12 h => ret_at hR _ h (fun n => bif Nat.beq n 3 then 7 else bif Nat.beq n 4 then 8 else n) rfl rfl rfl (rn_tup ⟨(rn_agg ⟨(rn_own (use_own rfl) rfl rfl), (rn_int rfl), (rn_own (use_own rfl) rfl mkl_len), (rn_int rfl), (rn_int rfl), (rn_int rfl), (rn_bool_tf rfl), (rn_bool_tf rfl), trivial⟩), (rn_int rfl), trivial⟩) rfl (entl_new (use_own rfl) rfl (Nat.le_of_eq rfl) (rcs_str (fun _ _ => rfl) (rcs_int (fun _ _ => rfl) (rcs_int (fun _ _ => rfl) rcs_nil))) (entl_new (use_own rfl) rfl (Nat.le_of_eq mkl_len) (rcs_bool (fun _ hj => col_mkl (fun (t : Bool) => t) hj) rcs_nil) (entl_bor (use_lo rfl) rfl rfl (entl_bor (use_lo rfl) rfl rfl entl_nil)))))
   (fun c12 h => cond_yes c10 (bif_split h
   (fun c13 h => ret_at hR _ h (fun n => bif Nat.beq n 3 then 7 else bif Nat.beq n 4 then 8 else n) rfl rfl rfl (rn_tup ⟨(rn_agg ⟨(rn_own (use_own rfl) rfl rfl), (rn_int rfl), (rn_own (use_own rfl) rfl mkl_len), (rn_int rfl), (rn_int rfl), (rn_int rfl), (rn_bool_tf rfl), (rn_bool_tf rfl), trivial⟩), (rn_int rfl), trivial⟩) rfl (entl_new (use_own rfl) rfl (Nat.le_of_eq rfl) (rcs_str (fun _ _ => rfl) (rcs_int (fun _ _ => rfl) (rcs_int (fun _ _ => rfl) rcs_nil))) (entl_new (use_own rfl) rfl (Nat.le_of_eq mkl_len) (rcs_bool (fun _ hj => col_mkl (fun (t : Bool) => t) hj) rcs_nil) (entl_bor (use_lo rfl) rfl rfl (entl_bor (use_lo rfl) rfl rfl entl_nil)))))
   (fun c13 h => ret_at hR _ h (fun n => bif Nat.beq n 3 then 7 else bif Nat.beq n 4 then 8 else n) rfl rfl rfl (rn_tup ⟨(rn_agg ⟨(rn_own (use_own rfl) rfl rfl), (rn_int rfl), (rn_own (use_own rfl) rfl mkl_len), (rn_int rfl), (rn_int rfl), (rn_int rfl), (rn_bool_tf rfl), (rn_bool_tf rfl), trivial⟩), (rn_int rfl), trivial⟩) rfl (entl_new (use_own rfl) rfl (Nat.le_of_eq rfl) (rcs_str (fun _ _ => rfl) (rcs_int (fun _ _ => rfl) (rcs_int (fun _ _ => rfl) rcs_nil))) (entl_new (use_own rfl) rfl (Nat.le_of_eq mkl_len) (rcs_bool (fun _ hj => col_mkl (fun (t : Bool) => t) hj) rcs_nil) (entl_bor (use_lo rfl) rfl rfl (entl_bor (use_lo rfl) rfl rfl entl_nil))))))))
   (fun c11 h => bif_split h
   (fun c12 h => ret_at hR _ h (fun n => bif Nat.beq n 3 then 7 else bif Nat.beq n 4 then 8 else n) rfl rfl rfl (rn_tup ⟨(rn_agg ⟨(rn_own (use_own rfl) rfl rfl), (rn_int rfl), (rn_own (use_own rfl) rfl mkl_len), (rn_int rfl), (rn_int rfl), (rn_int rfl), (rn_bool_tf rfl), (rn_bool_tf rfl), trivial⟩), (rn_int rfl), trivial⟩) rfl (entl_new (use_own rfl) rfl (Nat.le_of_eq rfl) (rcs_str (fun _ _ => rfl) (rcs_int (fun _ _ => rfl) (rcs_int (fun _ _ => rfl) rcs_nil))) (entl_new (use_own rfl) rfl (Nat.le_of_eq mkl_len) (rcs_bool (fun _ hj => col_mkl (fun (t : Bool) => t) hj) rcs_nil) (entl_bor (use_lo rfl) rfl rfl (entl_bor (use_lo rfl) rfl rfl entl_nil)))))
   (fun c12 h => cond_yes c10 (bif_split h
   (fun c13 h => ret_at hR _ h (fun n => bif Nat.beq n 3 then 7 else bif Nat.beq n 4 then 8 else n) rfl rfl rfl (rn_tup ⟨(rn_agg ⟨(rn_own (use_own rfl) rfl rfl), (rn_int rfl), (rn_own (use_own rfl) rfl mkl_len), (rn_int rfl), (rn_int rfl), (rn_int rfl), (rn_bool_tf rfl), (rn_bool_tf rfl), trivial⟩), (rn_int rfl), trivial⟩) rfl (entl_new (use_own rfl) rfl (Nat.le_of_eq rfl) (rcs_str (fun _ _ => rfl) (rcs_int (fun _ _ => rfl) (rcs_int (fun _ _ => rfl) rcs_nil))) (entl_new (use_own rfl) rfl (Nat.le_of_eq mkl_len) (rcs_bool (fun _ hj => col_mkl (fun (t : Bool) => t) hj) rcs_nil) (entl_bor (use_lo rfl) rfl rfl (entl_bor (use_lo rfl) rfl rfl entl_nil)))))
   (fun c13 h => ret_at hR _ h (fun n => bif Nat.beq n 3 then 7 else bif Nat.beq n 4 then 8 else n) rfl rfl rfl (rn_tup ⟨(rn_agg ⟨(rn_own (use_own rfl) rfl rfl), (rn_int rfl), (rn_own (use_own rfl) rfl mkl_len), (rn_int rfl), (rn_int rfl), (rn_int rfl), (rn_bool_tf rfl), (rn_bool_tf rfl), trivial⟩), (rn_int rfl), trivial⟩) rfl (entl_new (use_own rfl) rfl (Nat.le_of_eq rfl) (rcs_str (fun _ _ => rfl) (rcs_int (fun _ _ => rfl) (rcs_int (fun _ _ => rfl) rcs_nil))) (entl_new (use_own rfl) rfl (Nat.le_of_eq mkl_len) (rcs_bool (fun _ hj => col_mkl (fun (t : Bool) => t) hj) rcs_nil) (entl_bor (use_lo rfl) rfl rfl (entl_bor (use_lo rfl) rfl rfl entl_nil)))))))))
   (fun c10 h => no_some h)))
   (fun c8 h => no_some h))
   (fun c7 h => no_some h)))
   (fun c6 h => ret_at hR _ h (fun n => bif Nat.beq n 3 then 399 else bif Nat.beq n 4 then 398 else n) rfl rfl rfl (rn_tup ⟨(rn_agg ⟨(rn_own_nils rfl), (rn_int rfl), (rn_own_nils rfl), (rn_int rfl), (rn_int rfl), (rn_int rfl), (rn_bool_tf rfl), (rn_bool_tf rfl), trivial⟩), (rn_int rfl), trivial⟩) rfl (entl_fresh (use_own rfl) (fresh_ok rfl) (entl_fresh (use_own rfl) (fresh_ok rfl) (entl_bor (use_lo rfl) rfl rfl (entl_bor (use_lo rfl) rfl rfl entl_nil))))))
   (fun c5 h => no_some h))
   (fun c4 h => bif_split h
   (fun c5 h => bif_split h
   (fun c6 h => bif_split h
   (fun c7 h => ret_at hR _ h (fun n => bif Nat.beq n 3 then 399 else bif Nat.beq n 4 then 398 else n) rfl rfl rfl (rn_tup ⟨(rn_agg ⟨(rn_own_nils rfl), (rn_int rfl), (rn_own_nils rfl), (rn_int rfl), (rn_int rfl), (rn_int rfl), (rn_bool_tf rfl), (rn_bool_tf rfl), trivial⟩), (rn_int rfl), trivial⟩) rfl (entl_fresh (use_own rfl) (fresh_ok rfl) (entl_fresh (use_own rfl) (fresh_ok rfl) (entl_bor (use_lo rfl) rfl rfl (entl_bor (use_lo rfl) rfl rfl entl_nil)))))
   (fun c7 h => bif_split h
   (fun c8 h => bif_split h
   (fun c9 h => ret_at hR _ h (fun n => bif Nat.beq n 3 then 7 else bif Nat.beq n 4 then 8 else n) rfl rfl rfl (rn_tup ⟨(rn_agg ⟨(rn_own (use_own rfl) rfl rfl), (rn_int rfl), (rn_own (use_own rfl) rfl rfl), (rn_int rfl), (rn_int rfl), (rn_int rfl), (rn_bool_tf rfl), (rn_bool_tf rfl), trivial⟩), (rn_int rfl), trivial⟩) rfl (entl_new (use_own rfl) rfl (Nat.le_of_eq rfl) (rcs_str (fun _ _ => rfl) (rcs_int (fun _ _ => rfl) (rcs_int (fun _ _ => rfl) rcs_nil))) (entl_new (use_own rfl) rfl (Nat.le_of_eq rfl) (rcs_bool (fun _ _ => rfl) rcs_nil) (entl_bor (use_lo rfl) rfl rfl (entl_bor (use_lo rfl) rfl rfl entl_nil)))))
   (fun c9 h => bif_split h
   (fun c10 h => bif_split h
   (fun c11 h => ret_at hR _ h (fun n => bif Nat.beq n 3 then 7 else bif Nat.beq n 4 then 8 else n) rfl rfl rfl (rn_tup ⟨(rn_agg ⟨(rn_own (use_own rfl) rfl rfl), (rn_int rfl), (rn_own (use_own rfl) rfl rfl), (rn_int rfl), (rn_int rfl), (rn_int rfl), (rn_bool_tf rfl), (rn_bool_tf rfl), trivial⟩), (rn_int rfl), trivial⟩) rfl (entl_new (use_own rfl) rfl (Nat.le_of_eq rfl) (rcs_str (fun _ _ => rfl) (rcs_int (fun _ _ => rfl) (rcs_int (fun _ _ => rfl) rcs_nil))) (entl_new (use_own rfl) rfl (Nat.le_of_eq rfl) (rcs_bool (fun _ _ => rfl) rcs_nil) (entl_bor (use_lo rfl) rfl rfl (entl_bor (use_lo rfl) rfl rfl entl_nil)))))
   (fun c11 h => ret_at hR _ h (fun n => bif Nat.beq n 3 then 7 else bif Nat.beq n 4 then 8 else n) rfl rfl rfl (rn_tup ⟨(rn_agg ⟨(rn_own (use_own rfl) rfl rfl), (rn_int rfl), (rn_own (use_own rfl) rfl rfl), (rn_int rfl), (rn_int rfl), (rn_int rfl), (rn_bool_tf rfl), (rn_bool_tf rfl), trivial⟩), (rn_int rfl), trivial⟩) rfl (entl_new (use_own rfl) rfl (Nat.le_of_eq rfl) (rcs_str (fun _ _ => rfl) (rcs_int (fun _ _ => rfl) (rcs_int (fun _ _ => rfl) rcs_nil))) (entl_new (use_own rfl) rfl (Nat.le_of_eq rfl) (rcs_bool (fun _ _ => rfl) rcs_nil) (entl_bor (use_lo rfl) rfl rfl (entl_bor (use_lo rfl) rfl rfl entl_nil))))))
   (fun c10 h => no_some h)))
   (fun c8 h => bif_split h
   (fun c9 h => bif_split h
   (fun c10 h => bif_split h
   (fun c11 h => ret_at hR _ h (fun n => bif Nat.beq n 3 then 7 else bif Nat.beq n 4 then 8 else n) rfl rfl rfl (rn_tup ⟨(rn_agg ⟨(rn_own (use_own rfl) rfl rfl), (rn_int rfl), (rn_own (use_own rfl) rfl rfl), (rn_int rfl), (rn_int rfl), (rn_int rfl), (rn_bool_tf rfl), (rn_bool_tf rfl), trivial⟩), (rn_int rfl), trivial⟩) rfl (entl_new (use_own rfl) rfl (Nat.le_of_eq rfl) (rcs_str (fun _ _ => rfl) (rcs_int (fun _ _ => rfl) (rcs_int (fun _ _ => rfl) rcs_nil))) (entl_new (use_own rfl) rfl (Nat.le_of_eq rfl) (rcs_bool (fun _ _ => rfl) rcs_nil) (entl_bor (use_lo rfl) rfl rfl (entl_bor (use_lo rfl) rfl rfl entl_nil)))))
   (fun c11 h => cond_yes c9 (bif_split h
   (fun c12 h => ret_at hR _ h (fun n => bif Nat.beq n 3 then 7 else bif Nat.beq n 4 then 8 else n) rfl rfl rfl (rn_tup ⟨(rn_agg ⟨(rn_own (use_own rfl) rfl rfl), (rn_int rfl), (rn_own (use_own rfl) rfl rfl), (rn_int rfl), (rn_int rfl), (rn_int rfl), (rn_bool_tf rfl), (rn_bool_tf rfl), trivial⟩), (rn_int rfl), trivial⟩) rfl (entl_new (use_own rfl) rfl (Nat.le_of_eq rfl) (rcs_str (fun _ _ => rfl) (rcs_int (fun _ _ => rfl) (rcs_int (fun _ _ => rfl) rcs_nil))) (entl_new (use_own rfl) rfl (Nat.le_of_eq rfl) (rcs_bool (fun _ _ => rfl) rcs_nil) (entl_bor (use_lo rfl) rfl rfl (entl_bor (use_lo rfl) rfl rfl entl_nil)))))
   (fun c12 h => ret_at hR _ h (fun n => bif Nat.beq n 3 then 7 else bif Nat.beq n 4 then 8 else n) rfl rfl rfl (rn_tup ⟨(rn_agg ⟨(rn_own (use_own rfl) rfl rfl), (rn_int rfl), (rn_own (use_own rfl) rfl rfl), (rn_int rfl), (rn_int rfl), (rn_int rfl), (rn_bool_tf rfl), (rn_bool_tf rfl), trivial⟩), (rn_int rfl), trivial⟩) rfl (entl_new (use_own rfl) rfl (Nat.le_of_eq rfl) (rcs_str (fun _ _ => rfl) (rcs_int (fun _ _ => rfl) (rcs_int (fun _ _ => rfl) rcs_nil))) (entl_new (use_own rfl) rfl (Nat.le_of_eq rfl) (rcs_bool (fun _ _ => rfl) rcs_nil) (entl_bor (use_lo rfl) rfl rfl (entl_bor (use_lo rfl) rfl rfl entl_nil))))))))
   (fun c10 h => bif_split h
   (fun c11 h => ret_at hR _ h (fun n => bif Nat.beq n 3 then 7 else bif Nat.beq n 4 then 8 else n) rfl rfl rfl (rn_tup ⟨(rn_agg ⟨(rn_own (use_own rfl) rfl rfl), (rn_int rfl), (rn_own (use_own rfl) rfl rfl), (rn_int rfl), (rn_int rfl), (rn_int rfl), (rn_bool_tf rfl), (rn_bool_tf rfl), trivial⟩), (rn_int rfl), trivial⟩) rfl (entl_new (use_own rfl) rfl (Nat.le_of_eq rfl) (rcs_str (fun _ _ => rfl) (rcs_int (fun _ _ => rfl) (rcs_int (fun _ _ => rfl) rcs_nil))) (entl_new (use_own rfl) rfl (Nat.le_of_eq rfl) (rcs_bool (fun _ _ => rfl) rcs_nil) (entl_bor (use_lo rfl) rfl rfl (entl_bor (use_lo rfl) rfl rfl entl_nil)))))
   (fun c11 h => cond_yes c9 (bif_split h
   (fun c12 h => ret_at hR _ h (fun n => bif Nat.beq n 3 then 7 else bif Nat.beq n 4 then 8 else n) rfl rfl rfl (rn_tup ⟨(rn_agg ⟨(rn_own (use_own rfl) rfl rfl), (rn_int rfl), (rn_own (use_own rfl) rfl rfl), (rn_int rfl), (rn_int rfl), (rn_int rfl), (rn_bool_tf rfl), (rn_bool_tf rfl), trivial⟩), (rn_int rfl), trivial⟩) rfl (entl_new (use_own rfl) rfl (Nat.le_of_eq rfl) (rcs_str (fun _ _ => rfl) (rcs_int (fun _ _ => rfl) (rcs_int (fun _ _ => rfl) rcs_nil))) (entl_new (use_own rfl) rfl (Nat.le_of_eq rfl) (rcs_bool (fun _ _ => rfl) rcs_nil) (entl_bor (use_lo rfl) rfl rfl (entl_bor (use_lo rfl) rfl rfl entl_nil)))))
   (fun c12 h => ret_at hR _ h (fun n => bif Nat.beq n 3 then 7 else bif Nat.beq n 4 then 8 else n) rfl rfl rfl (rn_tup ⟨(rn_agg ⟨(rn_own (use_own rfl) rfl rfl), (rn_int rfl), (rn_own (use_own rfl) rfl rfl), (rn_int rfl), (rn_int rfl), (rn_int rfl), (rn_bool_tf rfl), (rn_bool_tf rfl), trivial⟩), (rn_int rfl), trivial⟩) rfl (entl_new (use_own rfl) rfl (Nat.le_of_eq rfl) (rcs_str (fun _ _ => rfl) (rcs_int (fun _ _ => rfl) (rcs_int (fun _ _ => rfl) rcs_nil))) (entl_new (use_own rfl) rfl (Nat.le_of_eq rfl) (rcs_bool (fun _ _ => rfl) rcs_nil) (entl_bor (use_lo rfl) rfl rfl (entl_bor (use_lo rfl) rfl rfl entl_nil)))))))))
   (fun c9 h => no_some h))))
   (fun c6 h => no_some h))
   (fun c5 h => bif_split h
   (fun c6 h => bif_split h
   (fun c7 h => bif_split h
   (fun c8 h => ret_at hR _ h (fun n => bif Nat.beq n 3 then 7 else bif Nat.beq n 4 then 8 else n) rfl rfl rfl (rn_tup ⟨(rn_agg ⟨(rn_own (use_own rfl) rfl rfl), (rn_int rfl), (rn_own (use_own rfl) rfl rfl), (rn_int rfl), (rn_int rfl), (rn_int rfl), (rn_bool_tf rfl), (rn_bool_tf rfl), trivial⟩), (rn_int rfl), trivial⟩) rfl (entl_new (use_own rfl) rfl (Nat.le_of_eq rfl) (rcs_str (fun _ _ => rfl) (rcs_int (fun _ _ => rfl) (rcs_int (fun _ _ => rfl) rcs_nil))) (entl_new (use_own rfl) rfl (Nat.le_of_eq rfl) (rcs_bool (fun _ _ => rfl) rcs_nil) (entl_bor (use_lo rfl) rfl rfl (entl_bor (use_lo rfl) rfl rfl entl_nil)))))
   (fun c8 h => bif_split h
   (fun c9 h => bif_split h
   (fun c10 h => ret_at hR _ h (fun n => bif Nat.beq n 3 then 7 else bif Nat.beq n 4 then 8 else n) rfl rfl rfl (rn_tup ⟨(rn_agg ⟨(rn_own (use_own rfl) rfl rfl), (rn_int rfl), (rn_own (use_own rfl) rfl rfl), (rn_int rfl), (rn_int rfl), (rn_int rfl), (rn_bool_tf rfl), (rn_bool_tf rfl), trivial⟩), (rn_int rfl), trivial⟩) rfl (entl_new (use_own rfl) rfl (Nat.le_of_eq rfl) (rcs_str (fun _ _ => rfl) (rcs_int (fun _ _ => rfl) (rcs_int (fun _ _ => rfl) rcs_nil))) (entl_new (use_own rfl) rfl (Nat.le_of_eq rfl) (rcs_bool (fun _ _ => rfl) rcs_nil) (entl_bor (use_lo rfl) rfl rfl (entl_bor (use_lo rfl) rfl rfl entl_nil)))))
   (fun c10 h => ret_at hR _ h (fun n => bif Nat.beq n 3 then 7 else bif Nat.beq n 4 then 8 else n) rfl rfl rfl (rn_tup ⟨(rn_agg ⟨(rn_own (use_own rfl) rfl rfl), (rn_int rfl), (rn_own (use_own rfl) rfl rfl), (rn_int rfl), (rn_int rfl), (rn_int rfl), (rn_bool_tf rfl), (rn_bool_tf rfl), trivial⟩), (rn_int rfl), trivial⟩) rfl (entl_new (use_own rfl) rfl (Nat.le_of_eq rfl) (rcs_str (fun _ _ => rfl) (rcs_int (fun _ _ => rfl) (rcs_int (fun _ _ => rfl) rcs_nil))) (entl_new (use_own rfl) rfl (Nat.le_of_eq rfl) (rcs_bool (fun _ _ => rfl) rcs_nil) (entl_bor (use_lo rfl) rfl rfl (entl_bor (use_lo rfl) rfl rfl entl_nil))))))
   (fun c9 h => no_some h)))
   (fun c7 h => bif_split h
   (fun c8 h => bif_split h
   (fun c9 h => bif_split h
   (fun c10 h => ret_at hR _ h (fun n => bif Nat.beq n 3 then 7 else bif Nat.beq n 4 then 8 else n) rfl rfl rfl (rn_tup ⟨(rn_agg ⟨(rn_own (use_own rfl) rfl rfl), (rn_int rfl), (rn_own (use_own rfl) rfl rfl), (rn_int rfl), (rn_int rfl), (rn_int rfl), (rn_bool_tf rfl), (rn_bool_tf rfl), trivial⟩), (rn_int rfl), trivial⟩) rfl (entl_new (use_own rfl) rfl (Nat.le_of_eq rfl) (rcs_str (fun _ _ => rfl) (rcs_int (fun _ _ => rfl) (rcs_int (fun _ _ => rfl) rcs_nil))) (entl_new (use_own rfl) rfl (Nat.le_of_eq rfl) (rcs_bool (fun _ _ => rfl) rcs_nil) (entl_bor (use_lo rfl) rfl rfl (entl_bor (use_lo rfl) rfl rfl entl_nil)))))
   (fun c10 h => cond_yes c8 (bif_split h
   (fun c11 h => ret_at hR _ h (fun n => bif Nat.beq n 3 then 7 else bif Nat.beq n 4 then 8 else n) rfl rfl rfl (rn_tup ⟨(rn_agg ⟨(rn_own (use_own rfl) rfl rfl), (rn_int rfl), (rn_own (use_own rfl) rfl rfl), (rn_int rfl), (rn_int rfl), (rn_int rfl), (rn_bool_tf rfl), (rn_bool_tf rfl), trivial⟩), (rn_int rfl), trivial⟩) rfl (entl_new (use_own rfl) rfl (Nat.le_of_eq rfl) (rcs_str (fun _ _ => rfl) (rcs_int (fun _ _ => rfl) (rcs_int (fun _ _ => rfl) rcs_nil))) (entl_new (use_own rfl) rfl (Nat.le_of_eq rfl) (rcs_bool (fun _ _ => rfl) rcs_nil) (entl_bor (use_lo rfl) rfl rfl (entl_bor (use_lo rfl) rfl rfl entl_nil)))))
   (fun c11 h => ret_at hR _ h (fun n => bif Nat.beq n 3 then 7 else bif Nat.beq n 4 then 8 else n) rfl rfl rfl (rn_tup ⟨(rn_agg ⟨(rn_own (use_own rfl) rfl rfl), (rn_int rfl), (rn_own (use_own rfl) rfl rfl), (rn_int rfl), (rn_int rfl), (rn_int rfl), (rn_bool_tf rfl), (rn_bool_tf rfl), trivial⟩), (rn_int rfl), trivial⟩) rfl (entl_new (use_own rfl) rfl (Nat.le_of_eq rfl) (rcs_str (fun _ _ => rfl) (rcs_int (fun _ _ => rfl) (rcs_int (fun _ _ => rfl) rcs_nil))) (entl_new (use_own rfl) rfl (Nat.le_of_eq rfl) (rcs_bool (fun _ _ => rfl) rcs_nil) (entl_bor (use_lo rfl) rfl rfl (entl_bor (use_lo rfl) rfl rfl entl_nil))))))))
   (fun c9 h => bif_split h
   (fun c10 h => ret_at hR _ h (fun n => bif Nat.beq n 3 then 7 else bif Nat.beq n 4 then 8 else n) rfl rfl rfl (rn_tup ⟨(rn_agg ⟨(rn_own (use_own rfl) rfl rfl), (rn_int rfl), (rn_own (use_own rfl) rfl rfl), (rn_int rfl), (rn_int rfl), (rn_int rfl), (rn_bool_tf rfl), (rn_bool_tf rfl), trivial⟩), (rn_int rfl), trivial⟩) rfl (entl_new (use_own rfl) rfl (Nat.le_of_eq rfl) (rcs_str (fun _ _ => rfl) (rcs_int (fun _ _ => rfl) (rcs_int (fun _ _ => rfl) rcs_nil))) (entl_new (use_own rfl) rfl (Nat.le_of_eq rfl) (rcs_bool (fun _ _ => rfl) rcs_nil) (entl_bor (use_lo rfl) rfl rfl (entl_bor (use_lo rfl) rfl rfl entl_nil)))))
   (fun c10 h => cond_yes c8 (bif_split h
   (fun c11 h => ret_at hR _ h (fun n => bif Nat.beq n 3 then 7 else bif Nat.beq n 4 then 8 else n) rfl rfl rfl (rn_tup ⟨(rn_agg ⟨(rn_own (use_own rfl) rfl rfl), (rn_int rfl), (rn_own (use_own rfl) rfl rfl), (rn_int rfl), (rn_int rfl), (rn_int rfl), (rn_bool_tf rfl), (rn_bool_tf rfl), trivial⟩), (rn_int rfl), trivial⟩) rfl (entl_new (use_own rfl) rfl (Nat.le_of_eq rfl) (rcs_str (fun _ _ => rfl) (rcs_int (fun _ _ => rfl) (rcs_int (fun _ _ => rfl) rcs_nil))) (entl_new (use_own rfl) rfl (Nat.le_of_eq rfl) (rcs_bool (fun _ _ => rfl) rcs_nil) (entl_bor (use_lo rfl) rfl rfl (entl_bor (use_lo rfl) rfl rfl entl_nil)))))
   (fun c11 h => ret_at hR _ h (fun n => bif Nat.beq n 3 then 7 else bif Nat.beq n 4 then 8 else n) rfl rfl rfl (rn_tup ⟨(rn_agg ⟨(rn_own (use_own rfl) rfl rfl), (rn_int rfl), (rn_own (use_own rfl) rfl rfl), (rn_int rfl), (rn_int rfl), (rn_int rfl), (rn_bool_tf rfl), (rn_bool_tf rfl), trivial⟩), (rn_int rfl), trivial⟩) rfl (entl_new (use_own rfl) rfl (Nat.le_of_eq rfl) (rcs_str (fun _ _ => rfl) (rcs_int (fun _ _ => rfl) (rcs_int (fun _ _ => rfl) rcs_nil))) (entl_new (use_own rfl) rfl (Nat.le_of_eq rfl) (rcs_bool (fun _ _ => rfl) rcs_nil) (entl_bor (use_lo rfl) rfl rfl (entl_bor (use_lo rfl) rfl rfl entl_nil)))))))))
   (fun c8 h => no_some h)))
   (fun c6 h => bif_split h
   (fun c7 h => bif_split h
   (fun c8 h => bif_split h
   (fun c9 h => ret_at hR _ h (fun n => bif Nat.beq n 3 then 399 else bif Nat.beq n 4 then 398 else n) rfl rfl rfl (rn_tup ⟨(rn_agg ⟨(rn_own_nils rfl), (rn_int rfl), (rn_own_nils rfl), (rn_int rfl), (rn_int rfl), (rn_int rfl), (rn_bool_tf rfl), (rn_bool_tf rfl), trivial⟩), (rn_int rfl), trivial⟩) rfl (entl_fresh (use_own rfl) (fresh_ok rfl) (entl_fresh (use_own rfl) (fresh_ok rfl) (entl_bor (use_lo rfl) rfl rfl (entl_bor (use_lo rfl) rfl rfl entl_nil)))))
   (fun c9 h => bif_split h
   (fun c10 h => bif_split h
   (fun c11 h => ret_at hR _ h (fun n => bif Nat.beq n 3 then 399 else bif Nat.beq n 4 then 398 else n) rfl rfl rfl (rn_tup ⟨(rn_agg ⟨(rn_own_nils rfl), (rn_int rfl), (rn_own_nils rfl), (rn_int rfl), (rn_int rfl), (rn_int rfl), (rn_bool_tf rfl), (rn_bool_tf rfl), trivial⟩), (rn_int rfl), trivial⟩) rfl (entl_fresh (use_own rfl) (fresh_ok rfl) (entl_fresh (use_own rfl) (fresh_ok rfl) (entl_bor (use_lo rfl) rfl rfl (entl_bor (use_lo rfl) rfl rfl entl_nil)))))
   (fun c11 h => bif_split h
   (fun c12 h => bif_split h
   (fun c13 h => cond_yes c12 (bif_split h
   (fun c14 h => ret_at hR _ h (fun n => bif Nat.beq n 3 then 7 else bif Nat.beq n 4 then 8 else n) rfl rfl rfl (rn_tup ⟨(rn_agg ⟨(rn_own (use_own rfl) rfl rfl), (rn_int rfl), (rn_own (use_own rfl) rfl rfl), (rn_int rfl), (rn_int rfl), (rn_int rfl), (rn_bool_tf rfl), (rn_bool_tf rfl), trivial⟩), (rn_int rfl), trivial⟩) rfl (entl_new (use_own rfl) rfl (Nat.le_of_eq rfl) (rcs_str (fun _ _ => rfl) (rcs_int (fun _ _ => rfl) (rcs_int (fun _ _ => rfl) rcs_nil))) (entl_new (use_own rfl) rfl (Nat.le_of_eq rfl) (rcs_bool (fun _ _ => rfl) rcs_nil) (entl_bor (use_lo rfl) rfl rfl (entl_bor (use_lo rfl) rfl rfl entl_nil)))))
   (fun c14 h => ret_at hR _ h (fun n => bif Nat.beq n 3 then 7 else bif Nat.beq n 4 then 8 else n) rfl rfl rfl (rn_tup ⟨(rn_agg ⟨(rn_own (use_own rfl) rfl rfl), (rn_int rfl), (rn_own (use_own rfl) rfl rfl), (rn_int rfl), (rn_int rfl), (rn_int rfl), (rn_bool_tf rfl), (rn_bool_tf rfl), trivial⟩), (rn_int rfl), trivial⟩) rfl (entl_new (use_own rfl) rfl (Nat.le_of_eq rfl) (rcs_str (fun _ _ => rfl) (rcs_int (fun _ _ => rfl) (rcs_int (fun _ _ => rfl) rcs_nil))) (entl_new (use_own rfl) rfl (Nat.le_of_eq rfl) (rcs_bool (fun _ _ => rfl) rcs_nil) (entl_bor (use_lo rfl) rfl rfl (entl_bor (use_lo rfl) rfl rfl entl_nil)))))))
   (fun c13 h => cond_yes c12 (bif_split h
   (fun c14 h => ret_at hR _ h (fun n => bif Nat.beq n 3 then 7 else bif Nat.beq n 4 then 8 else n) rfl rfl rfl (rn_tup ⟨(rn_agg ⟨(rn_own (use_own rfl) rfl rfl), (rn_int rfl), (rn_own (use_own rfl) rfl rfl), (rn_int rfl), (rn_int rfl), (rn_int rfl), (rn_bool_tf rfl), (rn_bool_tf rfl), trivial⟩), (rn_int rfl), trivial⟩) rfl (entl_new (use_own rfl) rfl (Nat.le_of_eq rfl) (rcs_str (fun _ _ => rfl) (rcs_int (fun _ _ => rfl) (rcs_int (fun _ _ => rfl) rcs_nil))) (entl_new (use_own rfl) rfl (Nat.le_of_eq rfl) (rcs_bool (fun _ _ => rfl) rcs_nil) (entl_bor (use_lo rfl) rfl rfl (entl_bor (use_lo rfl) rfl rfl entl_nil)))))
   (fun c14 h => ret_at hR _ h (fun n => bif Nat.beq n 3 then 7 else bif Nat.beq n 4 then 8 else n) rfl rfl rfl (rn_tup ⟨(rn_agg ⟨(rn_own (use_own rfl) rfl rfl), (rn_int rfl), (rn_own (use_own rfl) rfl rfl), (rn_int rfl), (rn_int rfl), (rn_int rfl), (rn_bool_tf rfl), (rn_bool_tf rfl), trivial⟩), (rn_int rfl), trivial⟩) rfl (entl_new (use_own rfl) rfl (Nat.le_of_eq rfl) (rcs_str (fun _ _ => rfl) (rcs_int (fun _ _ => rfl) (rcs_int (fun _ _ => rfl) rcs_nil))) (entl_new (use_own rfl) rfl (Nat.le_of_eq rfl) (rcs_bool (fun _ _ => rfl) rcs_nil) (entl_bor (use_lo rfl) rfl rfl (entl_bor (use_lo rfl) rfl rfl entl_nil))))))))
   (fun c12 h => no_some h)))
   (fun c10 h => no_some h)))
   (fun c8 h => no_some h))
   (fun c7 h => ret_at hR _ h (fun n => bif Nat.beq n 3 then 399 else bif Nat.beq n 4 then 398 else n) rfl rfl rfl (rn_tup ⟨(rn_agg ⟨(rn_own_nils rfl), (rn_int rfl), (rn_own_nils rfl), (rn_int rfl), (rn_int rfl), (rn_int rfl), (rn_bool_tf rfl), (rn_bool_tf rfl), trivial⟩), (rn_int rfl), trivial⟩) rfl (entl_fresh (use_own rfl) (fresh_ok rfl) (entl_fresh (use_own rfl) (fresh_ok rfl) (entl_bor (use_lo rfl) rfl rfl (entl_bor (use_lo rfl) rfl rfl entl_nil))))))))))
   (fun c2 h => no_some h)))
   (fun c0 h => no_some h)
theorem a34 (aq nq mq : Nat) (tq : Nat → ByteArray) (vq : Nat → Int) (gq : Nat → Int) (de : Int) (ao no mo : Nat) (to : Nat → Bool) (k1 : Int) (k2 : Int) (k3 : Int) (la : Bool) (lb : Bool) (ki : Int) (ss : Int) (f1 : Int) (f2 : Int) (f3 : Int) {r : Rt34} (h : Goes ((q34 aq nq mq tq vq gq de ao no mo to k1 k2 k3 la lb ki ss f1 f2 f3)) ((p34 aq nq mq tq vq gq de ao no mo to k1 k2 k3 la lb ki ss f1 f2 f3)) r) : CallR Try.prog 34 [.agg [.loose ⟨0, 3, aq, 0⟩ nq, .int .i64 de, .loose ⟨1, 1, ao, 0⟩ no, .int .i64 k1, .int .i64 k2, .int .i64 k3, .bool la, .bool lb], .agg [.int .i64 ki, .int .i64 ss, .int .i64 f1, .int .i64 f2, .int .i64 f3]] [[(0, (false, .cols mq [.str tq, .int .i64 vq, .int .i64 gq])), (1, (false, .cols mo [.bool to]))]] 2 ((V34 aq nq mq tq vq gq de ao no mo to k1 k2 k3 la lb ki ss f1 f2 f3) r) ((fun r => [newL (2 + 1) ((N34 aq nq mq tq vq gq de ao no mo to k1 k2 k3 la lb ki ss f1 f2 f3) r) ++ [(0, (false, .cols mq [.str tq, .int .i64 vq, .int .i64 gq])), (1, (false, .cols mo [.bool to]))]]) r) 400 ∧ ∃ F, Try.prog.funcs[34]? = some F ∧ F.body.isSome = true ∧ (F.name == "runtime.NumGoroutine") = false := by
  refine dec_calls (f := 34) (lo := 2) (hi := 400) (H := [[(0, (false, .cols mq [.str tq, .int .i64 vq, .int .i64 gq])), (1, (false, .cols mo [.bool to]))]]) (args := [.agg [.loose ⟨0, 3, aq, 0⟩ nq, .int .i64 de, .loose ⟨1, 1, ao, 0⟩ no, .int .i64 k1, .int .i64 k2, .int .i64 k3, .bool la, .bool lb], .agg [.int .i64 ki, .int .i64 ss, .int .i64 f1, .int .i64 f2, .int .i64 f3]]) Try.envOk Try.mixed xO_ok ((I34 aq nq mq tq vq gq de ao no mo to k1 k2 k3 la lb ki ss f1 f2 f3)) ((V34 aq nq mq tq vq gq de ao no mo to k1 k2 k3 la lb ki ss f1 f2 f3)) (fun r => [newL (2 + 1) ((N34 aq nq mq tq vq gq de ao no mo to k1 k2 k3 la lb ki ss f1 f2 f3) r) ++ [(0, (false, .cols mq [.str tq, .int .i64 vq, .int .i64 gq])), (1, (false, .cols mo [.bool to]))]]) (fn := mkFn Try.f34) (ts := []) (n := 400) rfl (by decide) (by simp) (names_of rfl) ?_ ?_ ?_ h
  · intro s; exact s.elim
  · intro Kst Kret x hS hR h
    exact Holds.eq (te34 cond Kst Kret aq nq mq tq vq gq de ao no mo to k1 k2 k3 la lb ki ss f1 f2 f3) (be34 aq nq mq tq vq gq de ao no mo to k1 k2 k3 la lb ki ss f1 f2 f3 Kst Kret x hS hR h)
  · intro Kst Kret x hS hR s h; exact s.elim
noncomputable def k34 : Con := ⟨34, [.agg [.list [.str, .int .i64, .int .i64], .plain (.int .i64), .list [.bool], .plain (.int .i64), .plain (.int .i64), .plain (.int .i64), .plain (.bool), .plain (.bool)], .agg [.plain (.int .i64), .plain (.int .i64), .plain (.int .i64), .plain (.int .i64), .plain (.int .i64)]], fun (x : ((Nat × Nat × Nat × (Nat → ByteArray) × (Nat → Int) × (Nat → Int) × Unit) × Int × (Nat × Nat × Nat × (Nat → Bool) × Unit) × Int × Int × Int × Bool × Bool × Unit) × (Int × Int × Int × Int × Int × Unit) × Unit) => (fun (aq nq mq : Nat) (tq : Nat → ByteArray) (vq : Nat → Int) (gq : Nat → Int) (de : Int) (ao no mo : Nat) (to : Nat → Bool) (k1 : Int) (k2 : Int) (k3 : Int) (la : Bool) (lb : Bool) (ki : Int) (ss : Int) (f1 : Int) (f2 : Int) (f3 : Int) => decide (aq + nq ≤ mq ∧ nq ≤ 1000000 ∧ ao + no ≤ mo ∧ no ≤ 1000000)) x.1.1.1 x.1.1.2.1 x.1.1.2.2.1 x.1.1.2.2.2.1 x.1.1.2.2.2.2.1 x.1.1.2.2.2.2.2.1 x.1.2.1 x.1.2.2.1.1 x.1.2.2.1.2.1 x.1.2.2.1.2.2.1 x.1.2.2.1.2.2.2.1 x.1.2.2.2.1 x.1.2.2.2.2.1 x.1.2.2.2.2.2.1 x.1.2.2.2.2.2.2.1 x.1.2.2.2.2.2.2.2.1 x.2.1.1 x.2.1.2.1 x.2.1.2.2.1 x.2.1.2.2.2.1 x.2.1.2.2.2.2.1, fun (x : ((Nat × Nat × Nat × (Nat → ByteArray) × (Nat → Int) × (Nat → Int) × Unit) × Int × (Nat × Nat × Nat × (Nat → Bool) × Unit) × Int × Int × Int × Bool × Bool × Unit) × (Int × Int × Int × Int × Int × Unit) × Unit) => (fun (aq nq mq : Nat) (tq : Nat → ByteArray) (vq : Nat → Int) (gq : Nat → Int) (de : Int) (ao no mo : Nat) (to : Nat → Bool) (k1 : Int) (k2 : Int) (k3 : Int) (la : Bool) (lb : Bool) (ki : Int) (ss : Int) (f1 : Int) (f2 : Int) (f3 : Int) => (V34 aq nq mq tq vq gq de ao no mo to k1 k2 k3 la lb ki ss f1 f2 f3) (S.doS nq (S.stE nq no (S.netE nq (fun j => tq (j + aq)) (fun j => vq (j + aq)) (fun j => gq (j + aq)) de) (fun j => to (j + ao)) k1 k2 k3 la lb) de (S.mkl nq fun j => (tq (j + aq), vq (j + aq), gq (j + aq))) (fun j => to (j + ao)) k1 k2 k3 la lb ki ss f1 f2 f3)) x.1.1.1 x.1.1.2.1 x.1.1.2.2.1 x.1.1.2.2.2.1 x.1.1.2.2.2.2.1 x.1.1.2.2.2.2.2.1 x.1.2.1 x.1.2.2.1.1 x.1.2.2.1.2.1 x.1.2.2.1.2.2.1 x.1.2.2.1.2.2.2.1 x.1.2.2.2.1 x.1.2.2.2.2.1 x.1.2.2.2.2.2.1 x.1.2.2.2.2.2.2.1 x.1.2.2.2.2.2.2.2.1 x.2.1.1 x.2.1.2.1 x.2.1.2.2.1 x.2.1.2.2.2.1 x.2.1.2.2.2.2.1, fun (x : ((Nat × Nat × Nat × (Nat → ByteArray) × (Nat → Int) × (Nat → Int) × Unit) × Int × (Nat × Nat × Nat × (Nat → Bool) × Unit) × Int × Int × Int × Bool × Bool × Unit) × (Int × Int × Int × Int × Int × Unit) × Unit) => (fun (aq nq mq : Nat) (tq : Nat → ByteArray) (vq : Nat → Int) (gq : Nat → Int) (de : Int) (ao no mo : Nat) (to : Nat → Bool) (k1 : Int) (k2 : Int) (k3 : Int) (la : Bool) (lb : Bool) (ki : Int) (ss : Int) (f1 : Int) (f2 : Int) (f3 : Int) => (N34 aq nq mq tq vq gq de ao no mo to k1 k2 k3 la lb ki ss f1 f2 f3) (S.doS nq (S.stE nq no (S.netE nq (fun j => tq (j + aq)) (fun j => vq (j + aq)) (fun j => gq (j + aq)) de) (fun j => to (j + ao)) k1 k2 k3 la lb) de (S.mkl nq fun j => (tq (j + aq), vq (j + aq), gq (j + aq))) (fun j => to (j + ao)) k1 k2 k3 la lb ki ss f1 f2 f3)) x.1.1.1 x.1.1.2.1 x.1.1.2.2.1 x.1.1.2.2.2.1 x.1.1.2.2.2.2.1 x.1.1.2.2.2.2.2.1 x.1.2.1 x.1.2.2.1.1 x.1.2.2.1.2.1 x.1.2.2.1.2.2.1 x.1.2.2.1.2.2.2.1 x.1.2.2.2.1 x.1.2.2.2.2.1 x.1.2.2.2.2.2.1 x.1.2.2.2.2.2.2.1 x.1.2.2.2.2.2.2.2.1 x.2.1.1 x.2.1.2.1 x.2.1.2.2.1 x.2.1.2.2.2.1 x.2.1.2.2.2.2.1, fun _ _ => .dead⟩
theorem s34 (aq nq mq : Nat) (tq : Nat → ByteArray) (vq : Nat → Int) (gq : Nat → Int) (de : Int) (ao no mo : Nat) (to : Nat → Bool) (k1 : Int) (k2 : Int) (k3 : Int) (la : Bool) (lb : Bool) (ki : Int) (ss : Int) (f1 : Int) (f2 : Int) (f3 : Int) (hp : aq + nq ≤ mq ∧ nq ≤ 1000000 ∧ ao + no ≤ mo ∧ no ≤ 1000000) : Goes ((q34 aq nq mq tq vq gq de ao no mo to k1 k2 k3 la lb ki ss f1 f2 f3)) ((p34 aq nq mq tq vq gq de ao no mo to k1 k2 k3 la lb ki ss f1 f2 f3)) (S.doS nq (S.stE nq no (S.netE nq (fun j => tq (j + aq)) (fun j => vq (j + aq)) (fun j => gq (j + aq)) de) (fun j => to (j + ao)) k1 k2 k3 la lb) de (S.mkl nq fun j => (tq (j + aq), vq (j + aq), gq (j + aq))) (fun j => to (j + ao)) k1 k2 k3 la lb ki ss f1 f2 f3) := by
  obtain ⟨hp1, hp2, hp3, hp4⟩ := hp
  by_cases he : (S.stE nq no (S.netE nq (fun j => tq (j + aq)) (fun j => vq (j + aq)) (fun j => gq (j + aq)) de) (fun j => to (j + ao)) k1 k2 k3 la lb) = 0
  · obtain ⟨e1, e2, e3, e4, e5⟩ := ste_ok he
    obtain ⟨v1, v2, v3⟩ := net_ok e1
    subst e2
    have hu : ∀ v, (S.mkl no fun j => bif Nat.beq j ss.toNat then v else S.at' (S.mkl no fun j => to (j + ao)) j) = S.updB no (fun j => to (j + ao)) ss.toNat v := fun v => mkl_congr fun j hj => by rw [at_mkl hj]
    have ho : ∀ lp v, S.op1 lp no (fun j => bif Nat.beq j ss.toNat then v else S.at' (S.mkl no fun j => to (j + ao)) j) k1 k2 k3 = S.op1 lp no (fun j => S.at' (S.updB no (fun j => to (j + ao)) ss.toNat v) j) k1 k2 k3 := fun lp v => by
      rw [← hu]; exact op1_mkl.symm
    have ha : S.any (fun j => to (j + ao) == false) no = S.any (fun j => !(fun j => to (j + ao)) j) no := any_congr fun j hj => by
      show (to (j + ao) == false) = !to (j + ao)
      cases to (j + ao) <;> rfl
    have hs : S.safB no (fun j => to (j + ao)) 1 (fun j => S.lit [k1] 0 j) (fun j => S.lit [k2] 0 j) (fun j => S.lit [k3] 0 j) = (S.op1 1 no (fun j => to (j + ao)) k1 k2 k3 || S.op1 2 no (fun j => to (j + ao)) k1 k2 k3) := by unfold S.safB; rw [op1_eq, op1_eq]
    have hk1 : (1 : Nat) ≤ 1000000 := by decide
    unfold S.doS S.doRes
    rw [if_pos he]
    simp only [op1_mkl]
    unfold p34
    simp only [c34_e_0, c34_e_1, c34_e_2, c34_e_3, c34_e_4, c34_e_5, c34_e_6, c34_e_7, c34_e_8, c34_e_9, c34_e_10, c34_e_11, c34_e_12, c34_e_13, c34_e_14, c34_e_15, c34_e_16, c34_e_17, c34_e_18, c34_e_19, c34_e_20, he, mkl_len, op1_eq, op1_mkl, hu, ho, ha, hs, Nat.zero_add, Nat.le_refl, hk1, hp1, hp2, hp3, hp4, and_self, and_true, true_and, decide_true, cond_true]
    by_cases c1 : ki = 1
    · subst c1
      rw [if_pos (.inl rfl), decide_eq_false (show ¬ (1 : Int) = 2 by decide)]
      generalize S.op1 1 no (fun j => S.at' (S.updB no (fun j => to (j + ao)) ss.toNat false) j) k1 k2 k3 = B1
      generalize S.op1 2 no (fun j => S.at' (S.updB no (fun j => to (j + ao)) ss.toNat false) j) k1 k2 k3 = B2
      by_cases hs2 : 0 ≤ ss ∧ ss < (no : Int)
      · rw [if_pos hs2]
        simp only [(show ((1 : Int) == 1) = true from rfl), (show ((1 : Int) == 2) = false from rfl), cond_true, cond_false]
        cases la <;> cases lb <;> cases B1 <;> cases B2
        all_goals
         show Goes _ _ _
         repeat' first
          | with_reducible refine goes_if (fun h => ?_) (fun h => ?_) <;> (try simp only [lim64, imp_false, decide_eq_true_eq, decide_eq_false_iff_not, Int.toNat_natCast, toNat_pred, toNat_succ, Option.getD_some, Option.getD_none, Bool.not_eq_true', Bool.not_eq_false', Bool.and_eq_true, Bool.or_eq_true, Bool.and_eq_false_iff, Bool.or_eq_false_iff, bne_iff_ne, beq_iff_eq, bne_eq_false_iff_eq, beq_eq_false_iff_ne, ne_eq, not_and, Int.not_le, Int.not_lt, ge_iff_le, gt_iff_lt, Nat.not_lt, Nat.not_le, Bool.not_eq_true, Bool.not_eq_false, Bool.true_eq_false, Bool.false_eq_true, not_false_eq_true, not_true_eq_false] at h)
          | exact goes_none.mpr (by omega)
          | fail
         all_goals first | (exfalso; omega) | exact goes_inr.mpr rfl | (exfalso; simp_all; done)
      · rw [if_neg hs2]
        simp only [(show ((1 : Int) == 1) = true from rfl), (show ((1 : Int) == 2) = false from rfl), cond_true, cond_false]
        cases la
        all_goals
         show Goes _ _ _
         repeat' first
          | with_reducible refine goes_if (fun h => ?_) (fun h => ?_) <;> (try simp only [lim64, imp_false, decide_eq_true_eq, decide_eq_false_iff_not, Int.toNat_natCast, toNat_pred, toNat_succ, Option.getD_some, Option.getD_none, Bool.not_eq_true', Bool.not_eq_false', Bool.and_eq_true, Bool.or_eq_true, Bool.and_eq_false_iff, Bool.or_eq_false_iff, bne_iff_ne, beq_iff_eq, bne_eq_false_iff_eq, beq_eq_false_iff_ne, ne_eq, not_and, Int.not_le, Int.not_lt, ge_iff_le, gt_iff_lt, Nat.not_lt, Nat.not_le, Bool.not_eq_true, Bool.not_eq_false, Bool.true_eq_false, Bool.false_eq_true, not_false_eq_true, not_true_eq_false] at h)
          | exact goes_none.mpr (by omega)
          | fail
         all_goals first | (exfalso; omega) | exact goes_inr.mpr rfl | (exfalso; simp_all; done)
    · by_cases c2 : ki = 2
      · subst c2
        rw [if_pos (.inr rfl), decide_eq_true (show (2 : Int) = 2 from rfl)]
        generalize S.op1 1 no (fun j => S.at' (S.updB no (fun j => to (j + ao)) ss.toNat true) j) k1 k2 k3 = A1
        generalize S.op1 2 no (fun j => S.at' (S.updB no (fun j => to (j + ao)) ss.toNat true) j) k1 k2 k3 = A2
        by_cases hs2 : 0 ≤ ss ∧ ss < (no : Int)
        · rw [if_pos hs2]
          simp only [(show ((2 : Int) == 1) = false from rfl), (show ((2 : Int) == 2) = true from rfl), cond_true, cond_false]
          cases la <;> cases lb <;> cases A1 <;> cases A2
          all_goals
           show Goes _ _ _
           repeat' first
            | with_reducible refine goes_if (fun h => ?_) (fun h => ?_) <;> (try simp only [lim64, imp_false, decide_eq_true_eq, decide_eq_false_iff_not, Int.toNat_natCast, toNat_pred, toNat_succ, Option.getD_some, Option.getD_none, Bool.not_eq_true', Bool.not_eq_false', Bool.and_eq_true, Bool.or_eq_true, Bool.and_eq_false_iff, Bool.or_eq_false_iff, bne_iff_ne, beq_iff_eq, bne_eq_false_iff_eq, beq_eq_false_iff_ne, ne_eq, not_and, Int.not_le, Int.not_lt, ge_iff_le, gt_iff_lt, Nat.not_lt, Nat.not_le, Bool.not_eq_true, Bool.not_eq_false, Bool.true_eq_false, Bool.false_eq_true, not_false_eq_true, not_true_eq_false] at h)
            | exact goes_none.mpr (by omega)
            | fail
           all_goals first | (exfalso; omega) | exact goes_inr.mpr rfl | (exfalso; simp_all; done)
        · rw [if_neg hs2]
          simp only [(show ((2 : Int) == 1) = false from rfl), (show ((2 : Int) == 2) = true from rfl), cond_true, cond_false]
          cases la
          all_goals
           show Goes _ _ _
           repeat' first
            | with_reducible refine goes_if (fun h => ?_) (fun h => ?_) <;> (try simp only [lim64, imp_false, decide_eq_true_eq, decide_eq_false_iff_not, Int.toNat_natCast, toNat_pred, toNat_succ, Option.getD_some, Option.getD_none, Bool.not_eq_true', Bool.not_eq_false', Bool.and_eq_true, Bool.or_eq_true, Bool.and_eq_false_iff, Bool.or_eq_false_iff, bne_iff_ne, beq_iff_eq, bne_eq_false_iff_eq, beq_eq_false_iff_ne, ne_eq, not_and, Int.not_le, Int.not_lt, ge_iff_le, gt_iff_lt, Nat.not_lt, Nat.not_le, Bool.not_eq_true, Bool.not_eq_false, Bool.true_eq_false, Bool.false_eq_true, not_false_eq_true, not_true_eq_false] at h)
            | exact goes_none.mpr (by omega)
            | fail
           all_goals first | (exfalso; omega) | exact goes_inr.mpr rfl | (exfalso; simp_all; done)
      · rw [if_neg (show ¬ (ki = 1 ∨ ki = 2) by omega)]
        by_cases c3 : ki = 3
        · subst c3
          rw [if_pos rfl]
          by_cases hf : S.failE no f1 f2 f3 = 0
          · rw [if_pos hf]
            simp only [(show ((3 : Int) == 1) = false from rfl), (show ((3 : Int) == 2) = false from rfl), (show ((3 : Int) == 3) = true from rfl), cond_true, cond_false, hf]
            generalize S.op1 1 no (fun j => to (j + ao)) f1 f2 f3 = C1
            generalize S.op1 2 no (fun j => to (j + ao)) f1 f2 f3 = C2
            cases la <;> cases lb <;> cases C1 <;> cases C2
            all_goals
             show Goes _ _ _
             repeat' first
              | with_reducible refine goes_if (fun h => ?_) (fun h => ?_) <;> (try simp only [lim64, imp_false, decide_eq_true_eq, decide_eq_false_iff_not, Int.toNat_natCast, toNat_pred, toNat_succ, Option.getD_some, Option.getD_none, Bool.not_eq_true', Bool.not_eq_false', Bool.and_eq_true, Bool.or_eq_true, Bool.and_eq_false_iff, Bool.or_eq_false_iff, bne_iff_ne, beq_iff_eq, bne_eq_false_iff_eq, beq_eq_false_iff_ne, ne_eq, not_and, Int.not_le, Int.not_lt, ge_iff_le, gt_iff_lt, Nat.not_lt, Nat.not_le, Bool.not_eq_true, Bool.not_eq_false, Bool.true_eq_false, Bool.false_eq_true, not_false_eq_true, not_true_eq_false] at h)
              | exact goes_none.mpr (by omega)
              | fail
             all_goals first | (exfalso; omega) | exact goes_inr.mpr rfl | (exfalso; simp_all; done)
          · rw [if_neg hf]
            generalize S.failE no f1 f2 f3 = fe at *
            simp only [(show ((3 : Int) == 1) = false from rfl), (show ((3 : Int) == 2) = false from rfl), (show ((3 : Int) == 3) = true from rfl), cond_true, cond_false]
            cases la
            all_goals
             show Goes _ _ _
             repeat' first
              | with_reducible refine goes_if (fun h => ?_) (fun h => ?_) <;> (try simp only [lim64, imp_false, decide_eq_true_eq, decide_eq_false_iff_not, Int.toNat_natCast, toNat_pred, toNat_succ, Option.getD_some, Option.getD_none, Bool.not_eq_true', Bool.not_eq_false', Bool.and_eq_true, Bool.or_eq_true, Bool.and_eq_false_iff, Bool.or_eq_false_iff, bne_iff_ne, beq_iff_eq, bne_eq_false_iff_eq, beq_eq_false_iff_ne, ne_eq, not_and, Int.not_le, Int.not_lt, ge_iff_le, gt_iff_lt, Nat.not_lt, Nat.not_le, Bool.not_eq_true, Bool.not_eq_false, Bool.true_eq_false, Bool.false_eq_true, not_false_eq_true, not_true_eq_false] at h)
              | exact goes_none.mpr (by omega)
              | fail
             all_goals first | (exfalso; omega) | exact goes_inr.mpr rfl | (exfalso; simp_all; done)
        · rw [if_neg c3]
          by_cases c4 : ki = 4
          · subst c4
            rw [if_pos rfl]
            simp only [(show ((4 : Int) == 1) = false from rfl), (show ((4 : Int) == 2) = false from rfl), (show ((4 : Int) == 3) = false from rfl), (show ((4 : Int) == 4) = true from rfl), cond_true, cond_false]
            generalize S.op1 1 no (fun j => to (j + ao)) 0 0 0 = C1
            generalize S.op1 2 no (fun j => to (j + ao)) 0 0 0 = C2
            cases la <;> cases lb <;> cases C1 <;> cases C2
            all_goals
             show Goes _ _ _
             repeat' first
              | with_reducible refine goes_if (fun h => ?_) (fun h => ?_) <;> (try simp only [lim64, imp_false, decide_eq_true_eq, decide_eq_false_iff_not, Int.toNat_natCast, toNat_pred, toNat_succ, Option.getD_some, Option.getD_none, Bool.not_eq_true', Bool.not_eq_false', Bool.and_eq_true, Bool.or_eq_true, Bool.and_eq_false_iff, Bool.or_eq_false_iff, bne_iff_ne, beq_iff_eq, bne_eq_false_iff_eq, beq_eq_false_iff_ne, ne_eq, not_and, Int.not_le, Int.not_lt, ge_iff_le, gt_iff_lt, Nat.not_lt, Nat.not_le, Bool.not_eq_true, Bool.not_eq_false, Bool.true_eq_false, Bool.false_eq_true, not_false_eq_true, not_true_eq_false] at h)
              | exact goes_none.mpr (by omega)
              | fail
             all_goals first | (exfalso; omega) | exact goes_inr.mpr rfl | (exfalso; simp_all; done)
          · rw [if_neg c4]
            by_cases c5 : ki = 5
            · subst c5
              rw [if_pos rfl]
              generalize S.any (fun j => !to (j + ao)) no = Z at *
              generalize S.op1 1 no (fun j => to (j + ao)) k1 k2 k3 = C1 at *
              generalize S.op1 2 no (fun j => to (j + ao)) k1 k2 k3 = C2 at *
              clear hu ho ha hs
              simp only [(show ((5 : Int) == 1) = false from rfl), (show ((5 : Int) == 2) = false from rfl), (show ((5 : Int) == 3) = false from rfl), (show ((5 : Int) == 4) = false from rfl), (show ((5 : Int) == 5) = true from rfl), cond_true, cond_false]
              cases Z <;> cases C1 <;> cases C2
              all_goals
               show Goes _ _ _
               repeat' first
                | with_reducible refine goes_if (fun h => ?_) (fun h => ?_) <;> (try simp only [lim64, imp_false, decide_eq_true_eq, decide_eq_false_iff_not, Int.toNat_natCast, toNat_pred, toNat_succ, Option.getD_some, Option.getD_none, Bool.not_eq_true', Bool.not_eq_false', Bool.and_eq_true, Bool.or_eq_true, Bool.and_eq_false_iff, Bool.or_eq_false_iff, bne_iff_ne, beq_iff_eq, bne_eq_false_iff_eq, beq_eq_false_iff_ne, ne_eq, not_and, Int.not_le, Int.not_lt, ge_iff_le, gt_iff_lt, Nat.not_lt, Nat.not_le, Bool.not_eq_true, Bool.not_eq_false, Bool.true_eq_false, Bool.false_eq_true, not_false_eq_true, not_true_eq_false] at h)
                | exact goes_none.mpr (by omega)
                | fail
               all_goals first | (exfalso; omega) | exact goes_inr.mpr rfl | (exfalso; simp_all; done)
            · rw [if_neg c5]
              simp only [(show (ki == 1) = false from beq_eq_false_iff_ne.mpr c1), (show (ki == 2) = false from beq_eq_false_iff_ne.mpr c2), (show (ki == 3) = false from beq_eq_false_iff_ne.mpr c3), (show (ki == 4) = false from beq_eq_false_iff_ne.mpr c4), (show (ki == 5) = false from beq_eq_false_iff_ne.mpr c5), cond_false]
              show Goes _ _ _
              repeat' first
                | with_reducible refine goes_if (fun h => ?_) (fun h => ?_) <;> (try simp only [lim64, imp_false, decide_eq_true_eq, decide_eq_false_iff_not, Int.toNat_natCast, toNat_pred, toNat_succ, Option.getD_some, Option.getD_none, Bool.not_eq_true', Bool.not_eq_false', Bool.and_eq_true, Bool.or_eq_true, Bool.and_eq_false_iff, Bool.or_eq_false_iff, bne_iff_ne, beq_iff_eq, bne_eq_false_iff_eq, beq_eq_false_iff_ne, ne_eq, not_and, Int.not_le, Int.not_lt, ge_iff_le, gt_iff_lt, Nat.not_lt, Nat.not_le, Bool.not_eq_true, Bool.not_eq_false, Bool.true_eq_false, Bool.false_eq_true, not_false_eq_true, not_true_eq_false] at h)
                | exact goes_none.mpr (by omega)
                | fail
              all_goals first | (exfalso; omega) | exact goes_inr.mpr rfl | (exfalso; simp_all; done)
  · unfold S.doS
    rw [if_neg he]
    unfold p34
    simp only [c34_e_0, c34_e_1, c34_e_2, c34_e_3, c34_e_4, c34_e_5, c34_e_6, c34_e_7, c34_e_8, c34_e_9, c34_e_10, c34_e_11, c34_e_12, c34_e_13, c34_e_14, c34_e_15, c34_e_16, c34_e_17, c34_e_18, c34_e_19, c34_e_20]
    generalize (S.stE nq no (S.netE nq (fun j => tq (j + aq)) (fun j => vq (j + aq)) (fun j => gq (j + aq)) de) (fun j => to (j + ao)) k1 k2 k3 la lb) = e at *
    show Goes _ _ _
    repeat' first
      | with_reducible refine goes_if (fun h => ?_) (fun h => ?_) <;> (try simp only [lim64, imp_false, decide_eq_true_eq, decide_eq_false_iff_not, Int.toNat_natCast, toNat_pred, toNat_succ, Option.getD_some, Option.getD_none, Bool.not_eq_true', Bool.not_eq_false', Bool.and_eq_true, Bool.or_eq_true, Bool.and_eq_false_iff, Bool.or_eq_false_iff, bne_iff_ne, beq_iff_eq, bne_eq_false_iff_eq, beq_eq_false_iff_ne, ne_eq, not_and, Int.not_le, Int.not_lt, ge_iff_le, gt_iff_lt, Nat.not_lt, Nat.not_le, Bool.not_eq_true, Bool.not_eq_false, Bool.true_eq_false, Bool.false_eq_true, not_false_eq_true, not_true_eq_false] at h)
      | exact goes_none.mpr (by omega)
      | fail
    all_goals first | (exfalso; omega) | exact goes_inr.mpr rfl | (exfalso; simp_all; done)
theorem k34_ok : k34.ok Try.prog := by
  intro x hx
  obtain ⟨⟨⟨aq, nq, mq, tq, vq, gq, _⟩, de, ⟨ao, no, mo, to, _⟩, k1, k2, k3, la, lb, _⟩, ⟨ki, ss, f1, f2, f3, _⟩, _⟩ := x
  obtain ⟨h1, h2⟩ := a34 aq nq mq tq vq gq de ao no mo to k1 k2 k3 la lb ki ss f1 f2 f3 (s34 aq nq mq tq vq gq de ao no mo to k1 k2 k3 la lb ki ss f1 f2 f3 (of_dec hx rfl))
  exact ⟨⟨400, (by decide : 2 + 1 + 2 ≤ 400), h1⟩, h2⟩
noncomputable def xLA (test : Bool → Prop → Prop → Prop) : Ext := consX test [k12, k38, k40, k14, k34, k41]
theorem xLA_ok : ExtOk Try.prog (xLA cond) := consX_ok ⟨k12_ok, k38_ok, k40_ok, k14_ok, k34_ok, k41_ok, trivial⟩
section
variable {n : Nat} {t : Nat → ByteArray} {v g : Nat → Int} {de e st k l p : Int}
end
namespace S
def netL (L : List (ByteArray × Int × Int)) (de : Int) : Int := netE L.length (fun j => (at' L j).1) (fun j => (at' L j).2.1) (fun j => (at' L j).2.2) de
end S
theorem byB_mk {n : Nat} {t : Nat → Int} (h : ∀ j, j < n → 0 ≤ t j ∧ t j ≤ 255) : S.byB t n = true := all_iff.mpr fun j hj => decide_eq_true (h j hj)
theorem staE_yes {e : Int} {t : Nat → ByteArray} {v g : Nat → Int} : ∀ {k i : Nat}, (∀ j, i ≤ j → j < i + k → S.isNam (t j) = true ∧ (∀ r, r < j → S.eqS (t r) (t j) = false) ∧ (0 ≤ v j ∧ v j ≤ 1000000) ∧ 0 ≤ g j ∧ g j ≤ 1000000) → S.staE e t v g i k = e
  | 0, i, _ => rfl
  | k + 1, i, h => by
    obtain ⟨h1, h2, h3⟩ := h i (Nat.le_refl _) (by omega)
    rw [staE_e, if_pos h1, if_neg (by rw [any_no.mpr h2]; exact Bool.false_ne_true), if_pos h3]
    exact staE_yes fun j q1 q2 => h j (by omega) (by omega)
theorem nameI_ok : ∀ i, i < 8 → S.isNam (S.nameI i) = true ∧ ∀ r, r < i → S.eqS (S.nameI r) (S.nameI i) = false := by
  decide +kernel
theorem net_yes {L : List (ByteArray × Int × Int)} {de : Int} (h1 : 1 ≤ L.length ∧ L.length ≤ 8) (hd : 0 ≤ de ∧ de ≤ 1000000) (h : ∀ j, j < L.length → (S.at' L j).1 = S.nameI j ∧ (0 ≤ (S.at' L j).2.1 ∧ (S.at' L j).2.1 ≤ 1000000) ∧ 0 ≤ (S.at' L j).2.2 ∧ (S.at' L j).2.2 ≤ 1000000) : S.netL L de = 0 := by
  unfold S.netL S.netE
  rw [if_neg (by omega), if_neg (by omega), staE_yes fun j _ hj => ?_, if_pos hd]
  obtain ⟨q1, q2, q3⟩ := h j (by omega)
  refine ⟨?_, fun r hr => ?_, q2, q3⟩
  · show S.isNam (S.at' L j).1 = true
    rw [q1]; exact (nameI_ok j (by omega)).1
  · show S.eqS (S.at' L r).1 (S.at' L j).1 = false
    rw [q1, (h r (by omega)).1]
    exact (nameI_ok j (by omega)).2 r hr
theorem made_ok {n : Nat} {t v : Nat → Int} (hn : n ≤ 8) (ht : S.byB t n = true) (hv : S.byB v n = true) : (1 ≤ (S.madeL n t v).length ∧ (S.madeL n t v).length ≤ 8) ∧ ∀ j, j < (S.madeL n t v).length → (S.at' (S.madeL n t v) j).1 = S.nameI j ∧ (0 ≤ (S.at' (S.madeL n t v) j).2.1 ∧ (S.at' (S.madeL n t v) j).2.1 ≤ 255) ∧ 0 ≤ (S.at' (S.madeL n t v) j).2.2 ∧ (S.at' (S.madeL n t v) j).2.2 ≤ 255 := by
  unfold S.madeL
  split
  · refine ⟨⟨Nat.le_refl _, by decide⟩, fun j hj => ?_⟩
    obtain rfl : j = 0 := by have : j < 1 := hj; omega
    exact ⟨rfl, by decide, by decide⟩
  · refine ⟨by rw [mkl_len]; omega, fun j hj => ?_⟩
    rw [mkl_len] at hj
    rw [at_mkl hj]
    exact ⟨rfl, of_decide_eq_true (all_iff.mp ht j (by omega)), of_decide_eq_true (all_iff.mp hv j (by omega))⟩
theorem opn_no {lp : Int} {n s : Nat} {loc : Nat → Bool} {k l p : Int} (h0 : s < n) (h1 : loc s = false) (h : S.opnB lp n loc 1 (fun _ => k) (fun _ => l) (fun _ => p) = false) : l = lp := by
  unfold S.opnB at h
  rw [Bool.and_eq_false_iff] at h
  rcases h with h | h
  · rw [Bool.not_eq_false', has_one, decide_eq_true_eq] at h
    exact h.2.1
  · have h := any_no.mp h s h0
    unfold S.opP at h
    rw [Bool.or_eq_false_iff, Bool.or_eq_false_iff] at h
    have h2 := h.2
    rw [has_one, h1, Bool.not_false, Bool.true_and, Bool.not_eq_false', decide_eq_true_eq] at h2
    exact h2.2.1
theorem saf_one {n s : Nat} {loc : Nat → Bool} {k l p : Int} (h0 : s < n) (h1 : loc s = false) : S.safB n loc 1 (fun j => S.lit [k] 0 j) (fun j => S.lit [l] 0 j) (fun j => S.lit [p] 0 j) = true := by
  unfold S.safB
  rw [op1_eq, op1_eq]
  cases hA : S.op1 1 n loc k l p
  · cases hB : S.op1 2 n loc k l p
    · have a := opn_no h0 h1 hA
      have c := opn_no h0 h1 hB
      omega
    · rfl
  · rfl
theorem all_memF {n : Nat} {f : Int × Int × Int} (h : f ∈ S.allF n) : S.okF n f.1 f.2.1 f.2.2 := by
  rcases List.mem_cons.mp h with rfl | h
  · exact .inl ⟨rfl, rfl, rfl⟩
  · obtain ⟨k, l, p⟩ := f
    exact (fail_mem.mp h).1
theorem at_mem {α : Type} [Inhabited α] {L : List α} {j : Nat} (h : j < L.length) : S.at' L j ∈ L := by rw [at_lt h]; exact List.getElem_mem _
theorem net_nil {L : List (ByteArray × Int × Int)} {de : Int} : S.netE L.length (fun j => (S.at' L j).1) (fun j => (S.at' L j).2.1) (fun j => (S.at' L j).2.2) de = S.netL L de := rfl
namespace S
def LI (n : Nat) (k l p : Int) (la lb : Bool) (L : List Bool) (lost : Bool) : Prop := L.length = n ∧ failE n k l p = 0 ∧ (op1 1 n (fun j => at' L j) k l p = true → la = true) ∧ (op1 2 n (fun j => at' L j) k l p = true → lb = true) ∧ (lost = true → la = true ∨ lb = true)
end S
theorem li_st {n : Nat} {k l p : Int} {la lb : Bool} {L : List Bool} {lost : Bool} (h : S.LI n k l p la lb L lost) : S.stE n n 0 (fun j => S.at' L j) k l p la lb = 0 := by
  obtain ⟨-, h2, h3, h4, -⟩ := h
  unfold S.stE
  rw [if_pos rfl, if_pos rfl, if_pos h2]
  rw [if_neg]
  rw [Bool.or_eq_true, Bool.and_eq_true, Bool.and_eq_true]
  rintro (⟨q1, q2⟩ | ⟨q1, q2⟩)
  · rw [h3 q1] at q2; cases q2
  · rw [h4 q1] at q2; cases q2
theorem op_lost {n s : Nat} {loc : Nat → Bool} {k l p : Int} (h0 : s < n) (h1 : loc s = false) : S.op1 1 n loc k l p = true ∨ S.op1 2 n loc k l p = true := by
  have h := saf_one (k := k) (l := l) (p := p) h0 h1
  unfold S.safB at h
  rw [op1_eq, op1_eq, Bool.or_eq_true] at h
  exact h
theorem res_ok {n : Nat} {k l p : Int} {L : List Bool} (la lb : Bool) (h1 : L.length = n) (h2 : S.failE n k l p = 0) : S.LI n k l p (la || S.op1 1 n (fun j => S.at' L j) k l p) (lb || S.op1 2 n (fun j => S.at' L j) k l p) L (S.any (fun j => S.at' L j == false) n) := by
  refine ⟨h1, h2, fun h => by rw [h, Bool.or_true], fun h => by rw [h, Bool.or_true], fun h => ?_⟩
  obtain ⟨s, q1, q2⟩ := any_iff.mp h
  rcases op_lost (k := k) (l := l) (p := p) (loc := fun j => S.at' L j) q1 (beq_iff_eq.mp q2) with q | q
  · exact .inl (by rw [q, Bool.or_true])
  · exact .inr (by rw [q, Bool.or_true])
theorem do_ok {n : Nat} {de : Int} {Q : List (ByteArray × Int × Int)} {k l p : Int} {la lb : Bool} {L : List Bool} {lost : Bool} {ki ss f1 f2 f3 : Int} (h : S.LI n k l p la lb L lost) (hk : 1 ≤ ki ∧ ki ≤ 5) (hs : 0 ≤ ss ∧ ss < (n : Int)) (hf : S.failE n f1 f2 f3 = 0) :
    (ki = 5 ∧ S.doS n 0 de Q (fun j => S.at' L j) k l p la lb ki ss f1 f2 f3 = S.doErr 8) ∨ ∃ k' l' p' la' lb' L', S.doS n 0 de Q (fun j => S.at' L j) k l p la lb ki ss f1 f2 f3 = (de, k', l', p', la', lb', 0, Q, L') ∧ S.LI n k' l' p' la' lb' L' (S.any (fun j => S.at' L' j == false) n) ∧ (ki ≠ 5 → lost = true → la' = true ∨ lb' = true) := by
  obtain ⟨h1, h2, -, -, h5⟩ := h
  have key : ∀ (k' l' p' : Int) (L' : List Bool), L'.length = n → S.failE n k' l' p' = 0 → S.doS n 0 de Q (fun j => S.at' L j) k l p la lb ki ss f1 f2 f3 = S.doRes n de Q L' k' l' p' la lb → ∃ k' l' p' la' lb' L', S.doS n 0 de Q (fun j => S.at' L j) k l p la lb ki ss f1 f2 f3 = (de, k', l', p', la', lb', 0, Q, L') ∧ S.LI n k' l' p' la' lb' L' (S.any (fun j => S.at' L' j == false) n) ∧ (ki ≠ 5 → lost = true → la' = true ∨ lb' = true) := fun k' l' p' L' q1 q2 q3 =>
    ⟨k', l', p', _, _, L', q3, res_ok la lb q1 q2, fun _ q => by
      rcases h5 q with q | q
      · exact .inl (by rw [q, Bool.true_or])
      · exact .inr (by rw [q, Bool.true_or])⟩
  by_cases c12 : ki = 1 ∨ ki = 2
  · exact .inr (key k l p (S.updB n (fun j => S.at' L j) ss.toNat (decide (ki = 2))) mkl_len h2 (by unfold S.doS; rw [if_pos rfl, if_pos c12, if_pos hs]))
  by_cases c3 : ki = 3
  · exact .inr (key f1 f2 f3 (S.mkl n fun j => S.at' L j) mkl_len hf (by unfold S.doS; rw [if_pos rfl, if_neg c12, if_pos c3, if_pos hf]))
  by_cases c4 : ki = 4
  · exact .inr (key 0 0 0 (S.mkl n fun j => S.at' L j) mkl_len (fail_t (.inl ⟨rfl, rfl, rfl⟩)) (by unfold S.doS; rw [if_pos rfl, if_neg c12, if_neg c3, if_pos c4]))
  have c5 : ki = 5 := by omega
  by_cases hq : S.any (fun j => !S.at' L j) n = true ∨ S.op1 1 n (fun j => S.at' L j) k l p = true ∨ S.op1 2 n (fun j => S.at' L j) k l p = true
  · exact .inl ⟨c5, by unfold S.doS; rw [if_pos rfl, if_neg c12, if_neg c3, if_neg c4, if_pos c5, if_pos hq]⟩
  · refine .inr ⟨k, l, p, _, _, S.mkl n fun j => S.at' L j, by unfold S.doS; rw [if_pos rfl, if_neg c12, if_neg c3, if_neg c4, if_pos c5, if_neg hq]; rfl, res_ok false false mkl_len h2, fun q => absurd c5 q⟩
noncomputable abbrev c10_0_0 (al : Nat) (nl : Nat) (tl : Nat → Int) (vl : Nat → Int) (x1 : List (ByteArray × Int × Int)) (x2 : List Bool) :=
 S.stE
 (List.length (S.madeL nl (fun j => tl (j + al)) fun j => vl (j + al)))
 (List.length x2)
 (S.netE
 (List.length (S.madeL nl (fun j => tl (j + al)) fun j => vl (j + al)))
 (fun j => (S.at' x1 j).1)
 (fun j => (S.at' x1 j).2.1)
 (fun j => (S.at' x1 j).2.2) (1 : Int))
 (fun j => S.at' x2 j) (0 : Int) (0 : Int) (0 : Int) false false
noncomputable abbrev c10_0_1 (al : Nat) (nl : Nat) (tl : Nat → Int) (vl : Nat → Int) (aw : Nat) (tw : Nat → Int) (vw : Nat → Int) (x0 : Int) (x1 : List (ByteArray × Int × Int)) (x2 : List Bool) (x3 : List (Int × Int × Int)) :=
 (Prod.snd
 (Prod.snd
 (Prod.snd
 (Prod.snd
 (Prod.snd
 (S.doS
 (List.length (S.madeL nl (fun j => tl (j + al)) fun j => vl (j + al)))
 (S.stE
 (List.length (S.madeL nl (fun j => tl (j + al)) fun j => vl (j + al)))
 (List.length x2)
 (S.netE
 (List.length
 (S.madeL nl (fun j => tl (j + al)) fun j => vl (j + al)))
 (fun j => (S.at' x1 j).1)
 (fun j => (S.at' x1 j).2.1)
 (fun j => (S.at' x1 j).2.2) (1 : Int))
 (fun j => S.at' x2 j) (0 : Int) (0 : Int) (0 : Int) false false)
 (1 : Int)
 (S.mkl
 (List.length (S.madeL nl (fun j => tl (j + al)) fun j => vl (j + al)))
 fun j =>
 ((S.at' x1 j).1, (S.at' x1 j).2.1,
 (S.at' x1 j).2.2))
 (fun j => S.at' x2 j) (0 : Int) (0 : Int) (0 : Int) false false
 ((1 : Int) + Int.tmod (tw (Int.toNat x0 + aw)) (5 : Int))
 (Int.tmod (vw (Int.toNat x0 + aw)) (↑(List.length x1) : Int))
 (Prod.fst
 (S.at' x3 (Int.toNat (Int.tmod (vw (Int.toNat x0 + aw)) (↑(List.length x3) : Int)))))
 (Prod.fst
 (Prod.snd
 (S.at' x3
 (Int.toNat (Int.tmod (vw (Int.toNat x0 + aw)) (↑(List.length x3) : Int))))))
 (Prod.snd
 (Prod.snd
 (S.at' x3
 (Int.toNat (Int.tmod (vw (Int.toNat x0 + aw)) (↑(List.length x3) : Int))))))))))))
noncomputable abbrev c10_0_2 (al : Nat) (nl : Nat) (tl : Nat → Int) (vl : Nat → Int) (x1 : List (ByteArray × Int × Int)) (x2 : List Bool) :=
 S.stE (List.length (S.madeL nl (fun j => tl (j + al)) fun j => vl (j + al)))
 (List.length x2)
 (S.netE (List.length (S.madeL nl (fun j => tl (j + al)) fun j => vl (j + al)))
 (fun j => (S.at' x1 j).1) (fun j => (S.at' x1 j).2.1)
 (fun j => (S.at' x1 j).2.2) (1 : Int))
 (fun j => S.at' x2 j) (0 : Int) (0 : Int) (0 : Int) false false
noncomputable abbrev c10_0_3 (al : Nat) (nl : Nat) (tl : Nat → Int) (vl : Nat → Int) (aw : Nat) (tw : Nat → Int) (vw : Nat → Int) (x0 : Int) (x1 : List (ByteArray × Int × Int)) (x2 : List Bool) (x3 : List (Int × Int × Int)) :=
 (Prod.snd
 (Prod.snd
 (Prod.snd
 (Prod.snd
 (Prod.snd
 (Prod.snd
 (Prod.snd
 (S.doS
 (List.length
 (S.madeL nl (fun j => tl (j + al)) fun j => vl (j + al)))
 (S.stE
 (List.length
 (S.madeL nl (fun j => tl (j + al)) fun j => vl (j + al)))
 (List.length x2)
 (S.netE
 (List.length
 (S.madeL nl (fun j => tl (j + al)) fun j => vl (j + al)))
 (fun j => (S.at' x1 j).1)
 (fun j => (S.at' x1 j).2.1)
 (fun j => (S.at' x1 j).2.2) (1 : Int))
 (fun j => S.at' x2 j) (0 : Int) (0 : Int) (0 : Int) false
 false)
 (1 : Int)
 (S.mkl
 (List.length
 (S.madeL nl (fun j => tl (j + al)) fun j => vl (j + al)))
 fun j =>
 ((S.at' x1 j).1, (S.at' x1 j).2.1,
 (S.at' x1 j).2.2))
 (fun j => S.at' x2 j) (0 : Int) (0 : Int) (0 : Int) false false
 ((1 : Int) + Int.tmod (tw (Int.toNat x0 + aw)) (5 : Int))
 (Int.tmod (vw (Int.toNat x0 + aw)) (↑(List.length x1) : Int))
 (Prod.fst
 (S.at' x3
 (Int.toNat (Int.tmod (vw (Int.toNat x0 + aw)) (↑(List.length x3) : Int)))))
 (Prod.fst
 (Prod.snd
 (S.at' x3
 (Int.toNat (Int.tmod (vw (Int.toNat x0 + aw)) (↑(List.length x3) : Int))))))
 (Prod.snd
 (Prod.snd
 (S.at' x3
 (Int.toNat
 (Int.tmod (vw (Int.toNat x0 + aw)) (↑(List.length x3) : Int))))))))))))))
noncomputable abbrev c10_0_4 (al : Nat) (nl : Nat) (tl : Nat → Int) (vl : Nat → Int) (aw : Nat) (tw : Nat → Int) (vw : Nat → Int) (x0 : Int) (x1 : List (ByteArray × Int × Int)) (x2 : List Bool) :=
 (Prod.snd
 (Prod.snd
 (Prod.snd
 (Prod.snd
 (Prod.snd
 (S.doS
 (List.length (S.madeL nl (fun j => tl (j + al)) fun j => vl (j + al)))
 (S.stE
 (List.length (S.madeL nl (fun j => tl (j + al)) fun j => vl (j + al)))
 (List.length x2)
 (S.netE
 (List.length
 (S.madeL nl (fun j => tl (j + al)) fun j => vl (j + al)))
 (fun j => (S.at' x1 j).1)
 (fun j => (S.at' x1 j).2.1)
 (fun j => (S.at' x1 j).2.2) (1 : Int))
 (fun j => S.at' x2 j) (0 : Int) (0 : Int) (0 : Int) false false)
 (1 : Int)
 (S.mkl
 (List.length (S.madeL nl (fun j => tl (j + al)) fun j => vl (j + al)))
 fun j =>
 ((S.at' x1 j).1, (S.at' x1 j).2.1,
 (S.at' x1 j).2.2))
 (fun j => S.at' x2 j) (0 : Int) (0 : Int) (0 : Int) false false
 ((1 : Int) + Int.tmod (tw (Int.toNat x0 + aw)) (5 : Int))
 (Int.tmod (vw (Int.toNat x0 + aw)) (↑(List.length x1) : Int)) (0 : Int) (0 : Int)
 (0 : Int)))))))
noncomputable abbrev c10_0_5 (al : Nat) (nl : Nat) (tl : Nat → Int) (vl : Nat → Int) (aw : Nat) (tw : Nat → Int) (vw : Nat → Int) (x0 : Int) (x1 : List (ByteArray × Int × Int)) (x2 : List Bool) :=
 (Prod.snd
 (S.doS
 (List.length (S.madeL nl (fun j => tl (j + al)) fun j => vl (j + al)))
 (c10_0_0 al nl tl vl x1 x2)
 (1 : Int)
 (S.mkl
 (List.length (S.madeL nl (fun j => tl (j + al)) fun j => vl (j + al)))
 fun j =>
 ((S.at' x1 j).1, (S.at' x1 j).2.1,
 (S.at' x1 j).2.2))
 (fun j => S.at' x2 j) (0 : Int) (0 : Int) (0 : Int) false false
 ((1 : Int) + Int.tmod (tw (Int.toNat x0 + aw)) (5 : Int))
 (Int.tmod (vw (Int.toNat x0 + aw)) (↑(List.length x1) : Int)) (0 : Int) (0 : Int) (0 : Int)))
noncomputable abbrev c10_0_6 (al : Nat) (nl : Nat) (tl : Nat → Int) (vl : Nat → Int) (aw : Nat) (tw : Nat → Int) (vw : Nat → Int) (x0 : Int) (x1 : List (ByteArray × Int × Int)) (x2 : List Bool) (x3 : List (Int × Int × Int)) :=
 (Prod.snd
 (Prod.snd
 (S.doS
 (List.length (S.madeL nl (fun j => tl (j + al)) fun j => vl (j + al)))
 (c10_0_0 al nl tl vl x1 x2)
 (1 : Int)
 (S.mkl
 (List.length (S.madeL nl (fun j => tl (j + al)) fun j => vl (j + al)))
 fun j =>
 ((S.at' x1 j).1, (S.at' x1 j).2.1,
 (S.at' x1 j).2.2))
 (fun j => S.at' x2 j) (0 : Int) (0 : Int) (0 : Int) false false
 ((1 : Int) + Int.tmod (tw (Int.toNat x0 + aw)) (5 : Int))
 (Int.tmod (vw (Int.toNat x0 + aw)) (↑(List.length x1) : Int))
 (Prod.fst
 (S.at' x3 (Int.toNat (Int.tmod (vw (Int.toNat x0 + aw)) (↑(List.length x3) : Int)))))
 (Prod.fst
 (Prod.snd
 (S.at' x3 (Int.toNat (Int.tmod (vw (Int.toNat x0 + aw)) (↑(List.length x3) : Int))))))
 (Prod.snd
 (Prod.snd
 (S.at' x3
 (Int.toNat (Int.tmod (vw (Int.toNat x0 + aw)) (↑(List.length x3) : Int)))))))))
noncomputable abbrev c10_0_7 (al : Nat) (nl : Nat) (tl : Nat → Int) (vl : Nat → Int) (aw : Nat) (tw : Nat → Int) (vw : Nat → Int) (x0 : Int) (x1 : List (ByteArray × Int × Int)) (x2 : List Bool) :=
 (Prod.snd
 (Prod.snd
 (Prod.snd
 (Prod.snd
 (Prod.snd
 (Prod.snd
 (Prod.snd
 (S.doS
 (List.length
 (S.madeL nl (fun j => tl (j + al)) fun j => vl (j + al)))
 (S.stE
 (List.length
 (S.madeL nl (fun j => tl (j + al)) fun j => vl (j + al)))
 (List.length x2)
 (S.netE
 (List.length
 (S.madeL nl (fun j => tl (j + al)) fun j => vl (j + al)))
 (fun j => (S.at' x1 j).1)
 (fun j => (S.at' x1 j).2.1)
 (fun j => (S.at' x1 j).2.2) (1 : Int))
 (fun j => S.at' x2 j) (0 : Int) (0 : Int) (0 : Int) false
 false)
 (1 : Int)
 (S.mkl
 (List.length
 (S.madeL nl (fun j => tl (j + al)) fun j => vl (j + al)))
 fun j =>
 ((S.at' x1 j).1, (S.at' x1 j).2.1,
 (S.at' x1 j).2.2))
 (fun j => S.at' x2 j) (0 : Int) (0 : Int) (0 : Int) false false
 ((1 : Int) + Int.tmod (tw (Int.toNat x0 + aw)) (5 : Int))
 (Int.tmod (vw (Int.toNat x0 + aw)) (↑(List.length x1) : Int)) (0 : Int) (0 : Int)
 (0 : Int)))))))))
noncomputable abbrev c10_0_8 (al : Nat) (nl : Nat) (tl : Nat → Int) (vl : Nat → Int) (aw : Nat) (tw : Nat → Int) (vw : Nat → Int) (x0 : Int) (x1 : List (ByteArray × Int × Int)) (x2 : List Bool) (x3 : List (Int × Int × Int)) :=
 (Prod.snd
 (Prod.snd
 (Prod.snd
 (Prod.snd
 (Prod.snd
 (Prod.snd
 (S.doS
 (List.length (S.madeL nl (fun j => tl (j + al)) fun j => vl (j + al)))
 (c10_0_0 al nl tl vl x1 x2)
 (1 : Int)
 (S.mkl
 (List.length (S.madeL nl (fun j => tl (j + al)) fun j => vl (j + al)))
 fun j =>
 ((S.at' x1 j).1, (S.at' x1 j).2.1,
 (S.at' x1 j).2.2))
 (fun j => S.at' x2 j) (0 : Int) (0 : Int) (0 : Int) false false
 ((1 : Int) + Int.tmod (tw (Int.toNat x0 + aw)) (5 : Int))
 (Int.tmod (vw (Int.toNat x0 + aw)) (↑(List.length x1) : Int))
 ((S.at' x3 (Int.toNat (Int.tmod (vw (Int.toNat x0 + aw)) (↑(List.length x3) : Int)))).1)
 (Prod.fst
 (Prod.snd
 (S.at' x3 (Int.toNat (Int.tmod (vw (Int.toNat x0 + aw)) (↑(List.length x3) : Int))))))
 (Prod.snd
 (Prod.snd
 (S.at' x3
 (Int.toNat (Int.tmod (vw (Int.toNat x0 + aw)) (↑(List.length x3) : Int)))))))))))))
noncomputable abbrev c10_0_9 (al : Nat) (nl : Nat) (tl : Nat → Int) (vl : Nat → Int) (aw : Nat) (tw : Nat → Int) (vw : Nat → Int) (x0 : Int) (x1 : List (ByteArray × Int × Int)) (x2 : List Bool) :=
 (Prod.snd
 (Prod.snd
 (Prod.snd
 (Prod.snd
 (Prod.snd
 (Prod.snd
 (Prod.snd
 (S.doS
 (List.length (S.madeL nl (fun j => tl (j + al)) fun j => vl (j + al)))
 (S.stE
 (List.length
 (S.madeL nl (fun j => tl (j + al)) fun j => vl (j + al)))
 (List.length x2)
 (S.netE
 (List.length
 (S.madeL nl (fun j => tl (j + al)) fun j => vl (j + al)))
 (fun j => (S.at' x1 j).1)
 (fun j => (S.at' x1 j).2.1)
 (fun j => (S.at' x1 j).2.2) (1 : Int))
 (fun j => S.at' x2 j) (0 : Int) (0 : Int) (0 : Int) false false)
 (1 : Int)
 (S.mkl
 (List.length
 (S.madeL nl (fun j => tl (j + al)) fun j => vl (j + al)))
 fun j =>
 ((S.at' x1 j).1, (S.at' x1 j).2.1,
 (S.at' x1 j).2.2))
 (fun j => S.at' x2 j) (0 : Int) (0 : Int) (0 : Int) false false
 ((1 : Int) + Int.tmod (tw (Int.toNat x0 + aw)) (5 : Int))
 (Int.tmod (vw (Int.toNat x0 + aw)) (↑(List.length x1) : Int)) (0 : Int) (0 : Int)
 (0 : Int)))))))))
noncomputable abbrev c10_0_10 (al : Nat) (nl : Nat) (tl : Nat → Int) (vl : Nat → Int) (aw : Nat) (tw : Nat → Int) (vw : Nat → Int) (x0 : Int) (x1 : List (ByteArray × Int × Int)) (x2 : List Bool) :=
 (10, true,
 Blk.cols
 (List.length
 (Prod.fst
 (c10_0_9 al nl tl vl aw tw vw x0 x1 x2)))
 [Col.str fun j =>
 Prod.fst
 (S.at'
 (Prod.fst
 (Prod.snd
 (Prod.snd
 (Prod.snd
 (Prod.snd
 (Prod.snd
 (Prod.snd
 (Prod.snd
 (S.doS
 (List.length
 (S.madeL nl (fun j => tl (j + al)) fun j => vl (j + al)))
 (S.stE
 (List.length
 (S.madeL nl (fun j => tl (j + al)) fun j => vl (j + al)))
 (List.length x2)
 (S.netE
 (List.length
 (S.madeL nl (fun j => tl (j + al)) fun j => vl (j + al)))
 (fun j => (S.at' x1 j).1)
 (fun j => (S.at' x1 j).2.1)
 (fun j => (S.at' x1 j).2.2) (1 : Int))
 (fun j => S.at' x2 j) (0 : Int) (0 : Int) (0 : Int) false
 false)
 (1 : Int)
 (S.mkl
 (List.length
 (S.madeL nl (fun j => tl (j + al)) fun j => vl (j + al)))
 fun j =>
 ((S.at' x1 j).1, (S.at' x1 j).2.1,
 (S.at' x1 j).2.2))
 (fun j => S.at' x2 j) (0 : Int) (0 : Int) (0 : Int) false
 false ((1 : Int) + Int.tmod (tw (Int.toNat x0 + aw)) (5 : Int))
 (Int.tmod (vw (Int.toNat x0 + aw)) (↑(List.length x1) : Int)) (0 : Int) (0 : Int)
 (0 : Int))))))))))
 j),
 Col.int IntKind.i64 fun j =>
 Prod.fst
 (Prod.snd
 (S.at'
 (Prod.fst
 (Prod.snd
 (Prod.snd
 (Prod.snd
 (Prod.snd
 (Prod.snd
 (Prod.snd
 (Prod.snd
 (S.doS
 (List.length
 (S.madeL nl (fun j => tl (j + al)) fun j => vl (j + al)))
 (S.stE
 (List.length
 (S.madeL nl (fun j => tl (j + al)) fun j => vl (j + al)))
 (List.length x2)
 (S.netE
 (List.length
 (S.madeL nl (fun j => tl (j + al)) fun j =>
 vl (j + al)))
 (fun j => (S.at' x1 j).1)
 (fun j => (S.at' x1 j).2.1)
 (fun j => (S.at' x1 j).2.2) (1 : Int))
 (fun j => S.at' x2 j) (0 : Int) (0 : Int) (0 : Int) false
 false)
 (1 : Int)
 (S.mkl
 (List.length
 (S.madeL nl (fun j => tl (j + al)) fun j => vl (j + al)))
 fun j =>
 ((S.at' x1 j).1, (S.at' x1 j).2.1,
 (S.at' x1 j).2.2))
 (fun j => S.at' x2 j) (0 : Int) (0 : Int) (0 : Int) false
 false ((1 : Int) + Int.tmod (tw (Int.toNat x0 + aw)) (5 : Int))
 (Int.tmod (vw (Int.toNat x0 + aw)) (↑(List.length x1) : Int)) (0 : Int) (0 : Int)
 (0 : Int))))))))))
 j)),
 Col.int IntKind.i64 fun j =>
 Prod.snd
 (Prod.snd
 (S.at'
 (Prod.fst
 (Prod.snd
 (Prod.snd
 (Prod.snd
 (Prod.snd
 (Prod.snd
 (Prod.snd
 (Prod.snd
 (S.doS
 (List.length
 (S.madeL nl (fun j => tl (j + al)) fun j => vl (j + al)))
 (S.stE
 (List.length
 (S.madeL nl (fun j => tl (j + al)) fun j => vl (j + al)))
 (List.length x2)
 (S.netE
 (List.length
 (S.madeL nl (fun j => tl (j + al)) fun j =>
 vl (j + al)))
 (fun j => (S.at' x1 j).1)
 (fun j => (S.at' x1 j).2.1)
 (fun j => (S.at' x1 j).2.2) (1 : Int))
 (fun j => S.at' x2 j) (0 : Int) (0 : Int) (0 : Int) false
 false)
 (1 : Int)
 (S.mkl
 (List.length
 (S.madeL nl (fun j => tl (j + al)) fun j => vl (j + al)))
 fun j =>
 ((S.at' x1 j).1, (S.at' x1 j).2.1,
 (S.at' x1 j).2.2))
 (fun j => S.at' x2 j) (0 : Int) (0 : Int) (0 : Int) false
 false ((1 : Int) + Int.tmod (tw (Int.toNat x0 + aw)) (5 : Int))
 (Int.tmod (vw (Int.toNat x0 + aw)) (↑(List.length x1) : Int)) (0 : Int) (0 : Int)
 (0 : Int))))))))))
 j))])
noncomputable abbrev c10_0_11 (al : Nat) (nl : Nat) (tl : Nat → Int) (vl : Nat → Int) (aw : Nat) (tw : Nat → Int) (vw : Nat → Int) (x0 : Int) (x1 : List (ByteArray × Int × Int)) (x2 : List Bool) (x3 : List (Int × Int × Int)) :=
 (Prod.fst
 (Prod.snd
 (Prod.snd
 (Prod.snd
 (Prod.snd
 (Prod.snd
 (Prod.snd
 (Prod.snd
 (S.doS
 (List.length
 (S.madeL nl (fun j => tl (j + al)) fun j => vl (j + al)))
 (S.stE
 (List.length
 (S.madeL nl (fun j => tl (j + al)) fun j => vl (j + al)))
 (List.length x2)
 (S.netE
 (List.length
 (S.madeL nl (fun j => tl (j + al)) fun j =>
 vl (j + al)))
 (fun j => (S.at' x1 j).1)
 (fun j => (S.at' x1 j).2.1)
 (fun j => (S.at' x1 j).2.2) (1 : Int))
 (fun j => S.at' x2 j) (0 : Int) (0 : Int) (0 : Int) false
 false)
 (1 : Int)
 (S.mkl
 (List.length
 (S.madeL nl (fun j => tl (j + al)) fun j => vl (j + al)))
 fun j =>
 ((S.at' x1 j).1, (S.at' x1 j).2.1,
 (S.at' x1 j).2.2))
 (fun j => S.at' x2 j) (0 : Int) (0 : Int) (0 : Int) false
 false ((1 : Int) + Int.tmod (tw (Int.toNat x0 + aw)) (5 : Int))
 (Int.tmod (vw (Int.toNat x0 + aw)) (↑(List.length x1) : Int))
 (Prod.fst
 (S.at' x3
 (Int.toNat (Int.tmod (vw (Int.toNat x0 + aw)) (↑(List.length x3) : Int)))))
 (Prod.fst
 (Prod.snd
 (S.at' x3
 (Int.toNat (Int.tmod (vw (Int.toNat x0 + aw)) (↑(List.length x3) : Int))))))
 (Prod.snd
 (Prod.snd
 (S.at' x3
 (Int.toNat
 (Int.tmod (vw (Int.toNat x0 + aw)) (↑(List.length x3) : Int)))))))))))))))
noncomputable abbrev c10_0_12 (al : Nat) (nl : Nat) (tl : Nat → Int) (vl : Nat → Int) (aw : Nat) (tw : Nat → Int) (vw : Nat → Int) (x0 : Int) (x1 : List (ByteArray × Int × Int)) (x2 : List Bool) (x3 : List (Int × Int × Int)) :=
 (Prod.snd
 (Prod.snd
 (Prod.snd
 (Prod.snd
 (Prod.snd
 (Prod.snd
 (Prod.snd
 (S.doS
 (List.length (S.madeL nl (fun j => tl (j + al)) fun j => vl (j + al)))
 (S.stE
 (List.length
 (S.madeL nl (fun j => tl (j + al)) fun j => vl (j + al)))
 (List.length x2)
 (S.netE
 (List.length
 (S.madeL nl (fun j => tl (j + al)) fun j => vl (j + al)))
 (fun j => (S.at' x1 j).1)
 (fun j => (S.at' x1 j).2.1)
 (fun j => (S.at' x1 j).2.2) (1 : Int))
 (fun j => S.at' x2 j) (0 : Int) (0 : Int) (0 : Int) false false)
 (1 : Int)
 (S.mkl
 (List.length
 (S.madeL nl (fun j => tl (j + al)) fun j => vl (j + al)))
 fun j =>
 ((S.at' x1 j).1, (S.at' x1 j).2.1,
 (S.at' x1 j).2.2))
 (fun j => S.at' x2 j) (0 : Int) (0 : Int) (0 : Int) false false
 ((1 : Int) + Int.tmod (tw (Int.toNat x0 + aw)) (5 : Int))
 (Int.tmod (vw (Int.toNat x0 + aw)) (↑(List.length x1) : Int))
 (Prod.fst
 (S.at' x3
 (Int.toNat (Int.tmod (vw (Int.toNat x0 + aw)) (↑(List.length x3) : Int)))))
 (Prod.fst
 (Prod.snd
 (S.at' x3
 (Int.toNat (Int.tmod (vw (Int.toNat x0 + aw)) (↑(List.length x3) : Int))))))
 (Prod.snd
 (Prod.snd
 (S.at' x3
 (Int.toNat (Int.tmod (vw (Int.toNat x0 + aw)) (↑(List.length x3) : Int))))))))))))))
noncomputable abbrev c10_0_13 (al : Nat) (nl : Nat) (ml : Nat) (tl : Nat → Int) (vl : Nat → Int) (aw : Nat) (mw : Nat) (tw : Nat → Int) (vw : Nat → Int) (x0 : Int) (x1 : List (ByteArray × Int × Int)) (x2 : List Bool) (x3 : List (Int × Int × Int)) :=
 ([[(1, false, Blk.cols mw [Col.int IntKind.u8 tw, Col.int IntKind.u8 vw]),
 (0, false, Blk.cols ml [Col.int IntKind.u8 tl, Col.int IntKind.u8 vl]),
 (6, true,
 Blk.cols (List.length x3)
 [Col.int IntKind.i64 fun j => (S.at' x3 j).1,
 Col.int IntKind.i64 fun j => (S.at' x3 j).2.1,
 Col.int IntKind.i64 fun j => (S.at' x3 j).2.2]),
 (4, true,
 Blk.cells
 [PV.own (10) (3)
 (List.length
 (Prod.fst
 (c10_0_7 al nl tl vl aw tw vw x0 x1 x2))),
 PV.int IntKind.i64
 (Prod.fst
 (S.doS (List.length (S.madeL nl (fun j => tl (j + al)) fun j => vl (j + al)))
 (c10_0_0 al nl tl vl x1 x2)
 (1 : Int)
 (S.mkl
 (List.length (S.madeL nl (fun j => tl (j + al)) fun j => vl (j + al)))
 fun j =>
 ((S.at' x1 j).1, (S.at' x1 j).2.1,
 (S.at' x1 j).2.2))
 (fun j => S.at' x2 j) (0 : Int) (0 : Int) (0 : Int) false false
 ((1 : Int) + Int.tmod (tw (Int.toNat x0 + aw)) (5 : Int))
 (Int.tmod (vw (Int.toNat x0 + aw)) (↑(List.length x1) : Int)) (0 : Int) (0 : Int) (0 : Int))),
 PV.own (11) (1)
 (List.length
 (Prod.snd
 (c10_0_7 al nl tl vl aw tw vw x0 x1 x2))),
 PV.int IntKind.i64
 (Prod.fst
 (c10_0_5 al nl tl vl aw tw vw x0 x1 x2)),
 PV.int IntKind.i64
 (Prod.fst
 (Prod.snd
 (c10_0_5 al nl tl vl aw tw vw x0 x1 x2))),
 PV.int IntKind.i64
 (Prod.fst
 (Prod.snd
 (Prod.snd
 (c10_0_5 al nl tl vl aw tw vw x0 x1 x2)))),
 PV.bool
 (Prod.fst
 (Prod.snd
 (Prod.snd
 (Prod.snd
 (Prod.snd
 (S.doS
 (List.length (S.madeL nl (fun j => tl (j + al)) fun j => vl (j + al)))
 (c10_0_0 al nl tl vl x1 x2)
 (1 : Int)
 (S.mkl
 (List.length (S.madeL nl (fun j => tl (j + al)) fun j => vl (j + al)))
 fun j =>
 ((S.at' x1 j).1, (S.at' x1 j).2.1,
 (S.at' x1 j).2.2))
 (fun j => S.at' x2 j) (0 : Int) (0 : Int) (0 : Int) false false
 ((1 : Int) + Int.tmod (tw (Int.toNat x0 + aw)) (5 : Int))
 (Int.tmod (vw (Int.toNat x0 + aw)) (↑(List.length x1) : Int)) (0 : Int) (0 : Int)
 (0 : Int))))))),
 PV.bool
 (Prod.fst
 (c10_0_4 al nl tl vl aw tw vw x0 x1 x2))]),
 (2, true,
 Blk.cells [PV.own (3) (3) (List.length x1), PV.int IntKind.i64 (1 : Int)]),
 (3, true,
 Blk.cols (List.length x1)
 [Col.str fun j => (S.at' x1 j).1,
 Col.int IntKind.i64 fun j => (S.at' x1 j).2.1,
 Col.int IntKind.i64 fun j => (S.at' x1 j).2.2]),
 (11, true,
 Blk.cols
 (List.length
 (Prod.snd
 (c10_0_9 al nl tl vl aw tw vw x0 x1 x2)))
 [Col.bool fun j =>
 S.at'
 (Prod.snd
 (c10_0_7 al nl tl vl aw tw vw x0 x1 x2))
 j]),
 (c10_0_10 al nl tl vl aw tw vw x0 x1 x2)]])
noncomputable abbrev c10_0_14 (al : Nat) (nl : Nat) (tl : Nat → Int) (vl : Nat → Int) (aw : Nat) (tw : Nat → Int) (vw : Nat → Int) (x0 : Int) (x1 : List (ByteArray × Int × Int)) (x2 : List Bool) (x3 : List (Int × Int × Int)) :=
 (Prod.fst
 (Prod.snd
 (Prod.snd
 (Prod.snd
 (Prod.snd
 (Prod.snd
 (S.doS (List.length (S.madeL nl (fun j => tl (j + al)) fun j => vl (j + al)))
 (S.stE (List.length (S.madeL nl (fun j => tl (j + al)) fun j => vl (j + al)))
 (List.length x2)
 (S.netE
 (List.length (S.madeL nl (fun j => tl (j + al)) fun j => vl (j + al)))
 (fun j => (S.at' x1 j).1)
 (fun j => (S.at' x1 j).2.1)
 (fun j => (S.at' x1 j).2.2) (1 : Int))
 (fun j => S.at' x2 j) (0 : Int) (0 : Int) (0 : Int) false false)
 (1 : Int)
 (S.mkl (List.length (S.madeL nl (fun j => tl (j + al)) fun j => vl (j + al)))
 fun j =>
 ((S.at' x1 j).1, (S.at' x1 j).2.1,
 (S.at' x1 j).2.2))
 (fun j => S.at' x2 j) (0 : Int) (0 : Int) (0 : Int) false false
 ((1 : Int) + Int.tmod (tw (Int.toNat x0 + aw)) (5 : Int))
 (Int.tmod (vw (Int.toNat x0 + aw)) (↑(List.length x1) : Int))
 ((S.at' x3 (Int.toNat (Int.tmod (vw (Int.toNat x0 + aw)) (↑(List.length x3) : Int)))).1)
 (Prod.fst
 ((S.at' x3 (Int.toNat (Int.tmod (vw (Int.toNat x0 + aw)) (↑(List.length x3) : Int)))).2))
 (Prod.snd
 (Prod.snd
 (S.at' x3 (Int.toNat (Int.tmod (vw (Int.toNat x0 + aw)) (↑(List.length x3) : Int)))))))))))))
noncomputable abbrev c10_0_15 (al : Nat) (nl : Nat) (tl : Nat → Int) (vl : Nat → Int) (aw : Nat) (tw : Nat → Int) (vw : Nat → Int) (x0 : Int) (x1 : List (ByteArray × Int × Int)) (x2 : List Bool) (x3 : List (Int × Int × Int)) :=
 (4, true,
 Blk.cells
 [PV.own (10) (3)
 (List.length
 (Prod.fst
 (c10_0_3 al nl tl vl aw tw vw x0 x1 x2 x3))),
 PV.int IntKind.i64
 (Prod.fst
 (S.doS (List.length (S.madeL nl (fun j => tl (j + al)) fun j => vl (j + al)))
 (c10_0_0 al nl tl vl x1 x2)
 (1 : Int)
 (S.mkl
 (List.length (S.madeL nl (fun j => tl (j + al)) fun j => vl (j + al)))
 fun j =>
 ((S.at' x1 j).1, (S.at' x1 j).2.1,
 (S.at' x1 j).2.2))
 (fun j => S.at' x2 j) (0 : Int) (0 : Int) (0 : Int) false false
 ((1 : Int) + Int.tmod (tw (Int.toNat x0 + aw)) (5 : Int))
 (Int.tmod (vw (Int.toNat x0 + aw)) (↑(List.length x1) : Int))
 ((S.at' x3 (Int.toNat (Int.tmod (vw (Int.toNat x0 + aw)) (↑(List.length x3) : Int)))).1)
 (Prod.fst
 ((S.at' x3 (Int.toNat (Int.tmod (vw (Int.toNat x0 + aw)) (↑(List.length x3) : Int)))).2))
 (Prod.snd
 (Prod.snd
 (S.at' x3 (Int.toNat (Int.tmod (vw (Int.toNat x0 + aw)) (↑(List.length x3) : Int)))))))),
 PV.own (11) (1)
 (List.length
 (Prod.snd
 (c10_0_3 al nl tl vl aw tw vw x0 x1 x2 x3))),
 PV.int IntKind.i64
 (Prod.fst
 (Prod.snd
 (S.doS
 (List.length (S.madeL nl (fun j => tl (j + al)) fun j => vl (j + al)))
 (c10_0_0 al nl tl vl x1 x2)
 (1 : Int)
 (S.mkl
 (List.length (S.madeL nl (fun j => tl (j + al)) fun j => vl (j + al)))
 fun j =>
 ((S.at' x1 j).1, (S.at' x1 j).2.1,
 (S.at' x1 j).2.2))
 (fun j => S.at' x2 j) (0 : Int) (0 : Int) (0 : Int) false false
 ((1 : Int) + Int.tmod (tw (Int.toNat x0 + aw)) (5 : Int))
 (Int.tmod (vw (Int.toNat x0 + aw)) (↑(List.length x1) : Int))
 ((S.at' x3 (Int.toNat (Int.tmod (vw (Int.toNat x0 + aw)) (↑(List.length x3) : Int)))).1)
 (Prod.fst
 (Prod.snd
 (S.at' x3 (Int.toNat (Int.tmod (vw (Int.toNat x0 + aw)) (↑(List.length x3) : Int))))))
 (Prod.snd
 (Prod.snd
 (S.at' x3 (Int.toNat (Int.tmod (vw (Int.toNat x0 + aw)) (↑(List.length x3) : Int))))))))),
 PV.int IntKind.i64
 (Prod.fst
 (c10_0_6 al nl tl vl aw tw vw x0 x1 x2 x3)),
 PV.int IntKind.i64
 (Prod.fst
 (Prod.snd
 (c10_0_6 al nl tl vl aw tw vw x0 x1 x2 x3))),
 PV.bool
 (Prod.fst
 (Prod.snd
 (Prod.snd
 (c10_0_6 al nl tl vl aw tw vw x0 x1 x2 x3)))),
 PV.bool
 (Prod.fst
 (c10_0_1 al nl tl vl aw tw vw x0 x1 x2 x3))])
noncomputable abbrev c10_0_16 (al : Nat) (nl : Nat) (ml : Nat) (tl : Nat → Int) (vl : Nat → Int) (aw : Nat) (mw : Nat) (tw : Nat → Int) (vw : Nat → Int) (x0 : Int) (x1 : List (ByteArray × Int × Int)) (x2 : List Bool) (x3 : List (Int × Int × Int)) :=
 ([[(1, false, Blk.cols mw [Col.int IntKind.u8 tw, Col.int IntKind.u8 vw]),
 (0, false, Blk.cols ml [Col.int IntKind.u8 tl, Col.int IntKind.u8 vl]),
 (6, true,
 Blk.cols (List.length x3)
 [Col.int IntKind.i64 fun j => (S.at' x3 j).1,
 Col.int IntKind.i64 fun j => (S.at' x3 j).2.1,
 Col.int IntKind.i64 fun j => (S.at' x3 j).2.2]),
 (c10_0_15 al nl tl vl aw tw vw x0 x1 x2 x3),
 (2, true,
 Blk.cells [PV.own (3) (3) (List.length x1), PV.int IntKind.i64 (1 : Int)]),
 (3, true,
 Blk.cols (List.length x1)
 [Col.str fun j => (S.at' x1 j).1,
 Col.int IntKind.i64 fun j => (S.at' x1 j).2.1,
 Col.int IntKind.i64 fun j => (S.at' x1 j).2.2]),
 (11, true,
 Blk.cols
 (List.length
 (Prod.snd
 (c10_0_12 al nl tl vl aw tw vw x0 x1 x2 x3)))
 [Col.bool fun j =>
 S.at'
 (Prod.snd
 (c10_0_3 al nl tl vl aw tw vw x0 x1 x2 x3))
 j]),
 (10, true,
 Blk.cols
 (List.length
 (Prod.fst
 (c10_0_12 al nl tl vl aw tw vw x0 x1 x2 x3)))
 [Col.str fun j =>
 Prod.fst
 (S.at'
 (Prod.fst
 (Prod.snd
 (Prod.snd
 (Prod.snd
 (Prod.snd
 (Prod.snd
 (Prod.snd
 (Prod.snd
 (S.doS
 (List.length
 (S.madeL nl (fun j => tl (j + al)) fun j => vl (j + al)))
 (S.stE
 (List.length
 (S.madeL nl (fun j => tl (j + al)) fun j => vl (j + al)))
 (List.length x2)
 (S.netE
 (List.length
 (S.madeL nl (fun j => tl (j + al)) fun j => vl (j + al)))
 (fun j => (S.at' x1 j).1)
 (fun j => (S.at' x1 j).2.1)
 (fun j => (S.at' x1 j).2.2) (1 : Int))
 (fun j => S.at' x2 j) (0 : Int) (0 : Int) (0 : Int) false
 false)
 (1 : Int)
 (S.mkl
 (List.length
 (S.madeL nl (fun j => tl (j + al)) fun j => vl (j + al)))
 fun j =>
 ((S.at' x1 j).1, (S.at' x1 j).2.1,
 (S.at' x1 j).2.2))
 (fun j => S.at' x2 j) (0 : Int) (0 : Int) (0 : Int) false
 false ((1 : Int) + Int.tmod (tw (Int.toNat x0 + aw)) (5 : Int))
 (Int.tmod (vw (Int.toNat x0 + aw)) (↑(List.length x1) : Int))
 (Prod.fst
 (S.at' x3
 (Int.toNat (Int.tmod (vw (Int.toNat x0 + aw)) (↑(List.length x3) : Int)))))
 (Prod.fst
 (Prod.snd
 (S.at' x3
 (Int.toNat (Int.tmod (vw (Int.toNat x0 + aw)) (↑(List.length x3) : Int))))))
 (Prod.snd
 (Prod.snd
 (S.at' x3
 (Int.toNat
 (Int.tmod (vw (Int.toNat x0 + aw)) (↑(List.length x3) : Int)))))))))))))))
 j),
 Col.int IntKind.i64 fun j =>
 Prod.fst
 (Prod.snd
 (S.at'
 (c10_0_11 al nl tl vl aw tw vw x0 x1 x2 x3)
 j)),
 Col.int IntKind.i64 fun j =>
 Prod.snd
 (Prod.snd
 (S.at'
 (c10_0_11 al nl tl vl aw tw vw x0 x1 x2 x3)
 j))])]])
noncomputable abbrev c10_0_17 (al : Nat) (nl : Nat) (tl : Nat → Int) (vl : Nat → Int) (aw : Nat) (tw : Nat → Int) (vw : Nat → Int) (x0 : Int) (x1 : List (ByteArray × Int × Int)) (x2 : List Bool) :=
 (S.doS (List.length (S.madeL nl (fun j => tl (j + al)) fun j => vl (j + al)))
 (c10_0_2 al nl tl vl x1 x2)
 (1 : Int)
 (S.mkl (List.length (S.madeL nl (fun j => tl (j + al)) fun j => vl (j + al)))
 fun j =>
 ((S.at' x1 j).1, (S.at' x1 j).2.1, (S.at' x1 j).2.2))
 (fun j => S.at' x2 j) (0 : Int) (0 : Int) (0 : Int) false false
 ((1 : Int) + Int.tmod (tw (Int.toNat x0 + aw)) (5 : Int))
 (Int.tmod (vw (Int.toNat x0 + aw)) (↑(List.length x1) : Int)) (0 : Int) (0 : Int) (0 : Int))
noncomputable abbrev c10_0_18 (al : Nat) (nl : Nat) (tl : Nat → Int) (vl : Nat → Int) (aw : Nat) (tw : Nat → Int) (vw : Nat → Int) (x0 : Int) (x1 : List (ByteArray × Int × Int)) (x2 : List Bool) :=
 (Prod.fst
 (Prod.snd
 (Prod.snd
 (Prod.snd
 (Prod.snd
 (Prod.snd
 (S.doS (List.length (S.madeL nl (fun j => tl (j + al)) fun j => vl (j + al)))
 (S.stE (List.length (S.madeL nl (fun j => tl (j + al)) fun j => vl (j + al)))
 (List.length x2)
 (S.netE
 (List.length (S.madeL nl (fun j => tl (j + al)) fun j => vl (j + al)))
 (fun j => (S.at' x1 j).1)
 (fun j => (S.at' x1 j).2.1)
 (fun j => (S.at' x1 j).2.2) (1 : Int))
 (fun j => S.at' x2 j) (0 : Int) (0 : Int) (0 : Int) false false)
 (1 : Int)
 (S.mkl (List.length (S.madeL nl (fun j => tl (j + al)) fun j => vl (j + al)))
 fun j =>
 ((S.at' x1 j).1, (S.at' x1 j).2.1,
 (S.at' x1 j).2.2))
 (fun j => S.at' x2 j) (0 : Int) (0 : Int) (0 : Int) false false
 ((1 : Int) + Int.tmod (tw (Int.toNat x0 + aw)) (5 : Int))
 (Int.tmod (vw (Int.toNat x0 + aw)) (↑(List.length x1) : Int)) (0 : Int) (0 : Int) (0 : Int))))))))
noncomputable abbrev c10_0_19 (al : Nat) (nl : Nat) (tl : Nat → Int) (vl : Nat → Int) (aw : Nat) (tw : Nat → Int) (vw : Nat → Int) (x0 : Int) (x1 : List (ByteArray × Int × Int)) (x2 : List Bool) :=
 (Prod.snd
 (Prod.snd
 (Prod.snd
 (S.doS (List.length (S.madeL nl (fun j => tl (j + al)) fun j => vl (j + al)))
 (c10_0_2 al nl tl vl x1 x2)
 (1 : Int)
 (S.mkl (List.length (S.madeL nl (fun j => tl (j + al)) fun j => vl (j + al)))
 fun j =>
 ((S.at' x1 j).1, (S.at' x1 j).2.1,
 (S.at' x1 j).2.2))
 (fun j => S.at' x2 j) (0 : Int) (0 : Int) (0 : Int) false false
 ((1 : Int) + Int.tmod (tw (Int.toNat x0 + aw)) (5 : Int))
 (Int.tmod (vw (Int.toNat x0 + aw)) (↑(List.length x1) : Int)) (0 : Int) (0 : Int) (0 : Int)))))
noncomputable abbrev c10_0_20 (al : Nat) (nl : Nat) (tl : Nat → Int) (vl : Nat → Int) (aw : Nat) (tw : Nat → Int) (vw : Nat → Int) (x0 : Int) (x1 : List (ByteArray × Int × Int)) (x2 : List Bool) (x3 : List (Int × Int × Int)) :=
 (S.doS (List.length (S.madeL nl (fun j => tl (j + al)) fun j => vl (j + al)))
 (c10_0_2 al nl tl vl x1 x2)
 (1 : Int)
 (S.mkl (List.length (S.madeL nl (fun j => tl (j + al)) fun j => vl (j + al)))
 fun j =>
 ((S.at' x1 j).1, (S.at' x1 j).2.1, (S.at' x1 j).2.2))
 (fun j => S.at' x2 j) (0 : Int) (0 : Int) (0 : Int) false false
 ((1 : Int) + Int.tmod (tw (Int.toNat x0 + aw)) (5 : Int))
 (Int.tmod (vw (Int.toNat x0 + aw)) (↑(List.length x1) : Int))
 ((S.at' x3 (Int.toNat (Int.tmod (vw (Int.toNat x0 + aw)) (↑(List.length x3) : Int)))).1)
 ((S.at' x3 (Int.toNat (Int.tmod (vw (Int.toNat x0 + aw)) (↑(List.length x3) : Int)))).2.1)
 ((S.at' x3 (Int.toNat (Int.tmod (vw (Int.toNat x0 + aw)) (↑(List.length x3) : Int)))).2.2))
noncomputable abbrev c10_0_21 (al : Nat) (nl : Nat) (tl : Nat → Int) (vl : Nat → Int) (aw : Nat) (tw : Nat → Int) (vw : Nat → Int) (x0 : Int) (x1 : List (ByteArray × Int × Int)) (x2 : List Bool) (x3 : List (Int × Int × Int)) :=
 (Prod.fst
 (Prod.snd
 (Prod.snd
 (Prod.snd
 (Prod.snd
 (S.doS (List.length (S.madeL nl (fun j => tl (j + al)) fun j => vl (j + al)))
 (c10_0_2 al nl tl vl x1 x2)
 (1 : Int)
 (S.mkl (List.length (S.madeL nl (fun j => tl (j + al)) fun j => vl (j + al)))
 fun j =>
 ((S.at' x1 j).1, (S.at' x1 j).2.1,
 (S.at' x1 j).2.2))
 (fun j => S.at' x2 j) (0 : Int) (0 : Int) (0 : Int) false false
 ((1 : Int) + Int.tmod (tw (Int.toNat x0 + aw)) (5 : Int))
 (Int.tmod (vw (Int.toNat x0 + aw)) (↑(List.length x1) : Int))
 ((S.at' x3 (Int.toNat (Int.tmod (vw (Int.toNat x0 + aw)) (↑(List.length x3) : Int)))).1)
 (Prod.fst
 ((S.at' x3 (Int.toNat (Int.tmod (vw (Int.toNat x0 + aw)) (↑(List.length x3) : Int)))).2))
 (Prod.snd
 (Prod.snd
 (S.at' x3 (Int.toNat (Int.tmod (vw (Int.toNat x0 + aw)) (↑(List.length x3) : Int))))))))))))
noncomputable abbrev c10_0_22 (al : Nat) (nl : Nat) (tl : Nat → Int) (vl : Nat → Int) (aw : Nat) (tw : Nat → Int) (vw : Nat → Int) (x0 : Int) (x1 : List (ByteArray × Int × Int)) (x2 : List Bool) (x3 : List (Int × Int × Int)) :=
 (Prod.fst
 (Prod.snd
 (Prod.snd
 (Prod.snd
 (S.doS (List.length (S.madeL nl (fun j => tl (j + al)) fun j => vl (j + al)))
 (c10_0_2 al nl tl vl x1 x2)
 (1 : Int)
 (S.mkl (List.length (S.madeL nl (fun j => tl (j + al)) fun j => vl (j + al)))
 fun j =>
 ((S.at' x1 j).1, (S.at' x1 j).2.1,
 (S.at' x1 j).2.2))
 (fun j => S.at' x2 j) (0 : Int) (0 : Int) (0 : Int) false false
 ((1 : Int) + Int.tmod (tw (Int.toNat x0 + aw)) (5 : Int))
 (Int.tmod (vw (Int.toNat x0 + aw)) (↑(List.length x1) : Int))
 ((S.at' x3 (Int.toNat (Int.tmod (vw (Int.toNat x0 + aw)) (↑(List.length x3) : Int)))).1)
 (Prod.fst
 ((S.at' x3 (Int.toNat (Int.tmod (vw (Int.toNat x0 + aw)) (↑(List.length x3) : Int)))).2))
 (Prod.snd
 ((S.at' x3 (Int.toNat (Int.tmod (vw (Int.toNat x0 + aw)) (↑(List.length x3) : Int)))).2)))))))
noncomputable abbrev c10_0_23 (al : Nat) (nl : Nat) (tl : Nat → Int) (vl : Nat → Int) (aw : Nat) (tw : Nat → Int) (vw : Nat → Int) (x0 : Int) (x1 : List (ByteArray × Int × Int)) (x2 : List Bool) (x3 : List (Int × Int × Int)) :=
 (Prod.fst
 (Prod.snd
 (Prod.snd
 (S.doS (List.length (S.madeL nl (fun j => tl (j + al)) fun j => vl (j + al)))
 (c10_0_2 al nl tl vl x1 x2)
 (1 : Int)
 (S.mkl (List.length (S.madeL nl (fun j => tl (j + al)) fun j => vl (j + al)))
 fun j =>
 ((S.at' x1 j).1, (S.at' x1 j).2.1, (S.at' x1 j).2.2))
 (fun j => S.at' x2 j) (0 : Int) (0 : Int) (0 : Int) false false
 ((1 : Int) + Int.tmod (tw (Int.toNat x0 + aw)) (5 : Int))
 (Int.tmod (vw (Int.toNat x0 + aw)) (↑(List.length x1) : Int))
 ((S.at' x3 (Int.toNat (Int.tmod (vw (Int.toNat x0 + aw)) (↑(List.length x3) : Int)))).1)
 ((S.at' x3 (Int.toNat (Int.tmod (vw (Int.toNat x0 + aw)) (↑(List.length x3) : Int)))).2.1)
 (Prod.snd
 ((S.at' x3 (Int.toNat (Int.tmod (vw (Int.toNat x0 + aw)) (↑(List.length x3) : Int)))).2))))))
noncomputable abbrev c10_0_24 (al : Nat) (nl : Nat) (tl : Nat → Int) (vl : Nat → Int) (aw : Nat) (tw : Nat → Int) (vw : Nat → Int) (x0 : Int) (x1 : List (ByteArray × Int × Int)) (x2 : List Bool) (x3 : List (Int × Int × Int)) :=
 (decide
 (0 +
 List.length
 (Prod.snd
 (Prod.snd
 (Prod.snd
 (Prod.snd
 (Prod.snd
 (Prod.snd
 (Prod.snd
 (Prod.snd
 (S.doS
 (List.length (S.madeL nl (fun j => tl (j + al)) fun j => vl (j + al)))
 (S.stE
 (List.length
 (S.madeL nl (fun j => tl (j + al)) fun j => vl (j + al)))
 (List.length x2)
 (S.netE
 (List.length
 (S.madeL nl (fun j => tl (j + al)) fun j => vl (j + al)))
 (fun j => (S.at' x1 j).1)
 (fun j => (S.at' x1 j).2.1)
 (fun j => (S.at' x1 j).2.2) (1 : Int))
 (fun j => S.at' x2 j) (0 : Int) (0 : Int) (0 : Int) false false)
 (1 : Int)
 (S.mkl
 (List.length
 (S.madeL nl (fun j => tl (j + al)) fun j => vl (j + al)))
 fun j =>
 ((S.at' x1 j).1, (S.at' x1 j).2.1,
 (S.at' x1 j).2.2))
 (fun j => S.at' x2 j) (0 : Int) (0 : Int) (0 : Int) false false
 ((1 : Int) + Int.tmod (tw (Int.toNat x0 + aw)) (5 : Int))
 (Int.tmod (vw (Int.toNat x0 + aw)) (↑(List.length x1) : Int))
 (Prod.fst
 (S.at' x3
 (Int.toNat (Int.tmod (vw (Int.toNat x0 + aw)) (↑(List.length x3) : Int)))))
 (Prod.fst
 (Prod.snd
 (S.at' x3
 (Int.toNat (Int.tmod (vw (Int.toNat x0 + aw)) (↑(List.length x3) : Int))))))
 (Prod.snd
 (Prod.snd
 (S.at' x3
 (Int.toNat
 (Int.tmod (vw (Int.toNat x0 + aw)) (↑(List.length x3) : Int))))))))))))))) ≤
 List.length
 (Prod.snd
 (Prod.snd
 (Prod.snd
 (c10_0_1 al nl tl vl aw tw vw x0 x1 x2 x3)))) ∧
 List.length
 (Prod.snd
 (Prod.snd
 (Prod.snd
 (c10_0_1 al nl tl vl aw tw vw x0 x1 x2 x3)))) ≤
 1000000))
noncomputable abbrev c10_0_25 (al : Nat) (nl : Nat) (ml : Nat) (tl : Nat → Int) (vl : Nat → Int) (mw : Nat) (tw : Nat → Int) (vw : Nat → Int) (x1 : List (ByteArray × Int × Int)) (x2 : List Bool) (x3 : List (Int × Int × Int)) :=
 ([[(1, false, Blk.cols mw [Col.int IntKind.u8 tw, Col.int IntKind.u8 vw]),
 (0, false, Blk.cols ml [Col.int IntKind.u8 tl, Col.int IntKind.u8 vl]),
 (6, true,
 Blk.cols (List.length x3)
 [Col.int IntKind.i64 fun j => (S.at' x3 j).1,
 Col.int IntKind.i64 fun j => (S.at' x3 j).2.1,
 Col.int IntKind.i64 fun j => (S.at' x3 j).2.2]),
 (4, true,
 Blk.cells
 [PV.loose (PA.mk (3) (3) (0) (0))
 (List.length (S.madeL nl (fun j => tl (j + al)) fun j => vl (j + al))),
 PV.int IntKind.i64 (1 : Int), PV.own (5) (1) (List.length x2),
 PV.int IntKind.i64 (0 : Int), PV.int IntKind.i64 (0 : Int),
 PV.int IntKind.i64 (0 : Int), PV.tf false, PV.tf false]),
 (2, true,
 Blk.cells [PV.own (3) (3) (List.length x1), PV.int IntKind.i64 (1 : Int)]),
 (3, true,
 Blk.cols (List.length x1)
 [Col.str fun j => (S.at' x1 j).1,
 Col.int IntKind.i64 fun j => (S.at' x1 j).2.1,
 Col.int IntKind.i64 fun j => (S.at' x1 j).2.2]),
 (5, true, Blk.cols (List.length x2) [Col.bool fun j => S.at' x2 j])]])
noncomputable abbrev c10_0_26 (ml : Nat) (tl : Nat → Int) (vl : Nat → Int) (mw : Nat) (tw : Nat → Int) (vw : Nat → Int) :=
 ([[(1, false, Blk.cols mw [Col.int IntKind.u8 tw, Col.int IntKind.u8 vw]),
 (0, false, Blk.cols ml [Col.int IntKind.u8 tl, Col.int IntKind.u8 vl])]])
noncomputable abbrev c10_0_27 (al : Nat) (nl : Nat) (tl : Nat → Int) (vl : Nat → Int) (aw : Nat) (tw : Nat → Int) (vw : Nat → Int) (x0 : Int) (x1 : List (ByteArray × Int × Int)) (x2 : List Bool) :=
 (S.any
 (fun j =>
 S.at'
 (Prod.snd
 (Prod.snd
 (Prod.snd
 (c10_0_4 al nl tl vl aw tw vw x0 x1 x2))))
 j ==
 false)
 (List.length
 (Prod.snd
 (Prod.snd
 (Prod.snd
 (Prod.snd
 (Prod.snd
 (Prod.snd
 (Prod.snd
 (Prod.snd
 (S.doS
 (List.length (S.madeL nl (fun j => tl (j + al)) fun j => vl (j + al)))
 (c10_0_0 al nl tl vl x1 x2)
 (1 : Int)
 (S.mkl
 (List.length (S.madeL nl (fun j => tl (j + al)) fun j => vl (j + al)))
 fun j =>
 ((S.at' x1 j).1, (S.at' x1 j).2.1,
 (S.at' x1 j).2.2))
 (fun j => S.at' x2 j) (0 : Int) (0 : Int) (0 : Int) false false
 ((1 : Int) + Int.tmod (tw (Int.toNat x0 + aw)) (5 : Int))
 (Int.tmod (vw (Int.toNat x0 + aw)) (↑(List.length x1) : Int)) (0 : Int) (0 : Int)
 (0 : Int))))))))))))
noncomputable abbrev c10_0_28 (al : Nat) (nl : Nat) (tl : Nat → Int) (vl : Nat → Int) (x1 : List (ByteArray × Int × Int)) (x2 : List Bool) :=
 decide
 (0 + List.length (S.madeL nl (fun j => tl (j + al)) fun j => vl (j + al)) ≤
 List.length x1 ∧
 List.length (S.madeL nl (fun j => tl (j + al)) fun j => vl (j + al)) ≤ 1000000 ∧
 0 + List.length x2 ≤ List.length x2 ∧ List.length x2 ≤ 1000000)
noncomputable abbrev c10_1_0 (x3 : Int) (x4 : Int) (x5 : Int) (x6 : Int) (x7 : Bool) (x8 : Bool) (x9 : List (ByteArray × Int × Int)) (x10 : List Bool) :=
 S.stE (List.length x9) (List.length x10)
 (S.netE (List.length x9) (fun j => (S.at' x9 j).1)
 (fun j => (S.at' x9 j).2.1)
 (fun j => (S.at' x9 j).2.2) x3)
 (fun j => S.at' x10 j) x4 x5 x6 x7 x8
noncomputable abbrev c10_1_1 (aw : Nat) (tw : Nat → Int) (vw : Nat → Int) (x1 : Int) (x2 : List (ByteArray × Int × Int)) (x3 : Int) (x4 : Int) (x5 : Int) (x6 : Int) (x7 : Bool) (x8 : Bool) (x9 : List (ByteArray × Int × Int)) (x10 : List Bool) (x11 : List (Int × Int × Int)) :=
 (Prod.snd
 (Prod.snd
 (Prod.snd
 (Prod.snd
 (Prod.snd
 (Prod.snd
 (Prod.snd
 (S.doS (List.length x9)
 (c10_1_0 x3 x4 x5 x6 x7 x8 x9 x10)
 x3
 (S.mkl (List.length x9) fun j =>
 ((S.at' x9 j).1, (S.at' x9 j).2.1,
 (S.at' x9 j).2.2))
 (fun j => S.at' x10 j) x4 x5 x6 x7 x8
 ((1 : Int) + Int.tmod (tw (Int.toNat x1 + aw)) (5 : Int))
 (Int.tmod (vw (Int.toNat x1 + aw)) (↑(List.length x2) : Int))
 (Prod.fst
 (S.at' x11
 (Int.toNat (Int.tmod (vw (Int.toNat x1 + aw)) (↑(List.length x11) : Int)))))
 (Prod.fst
 (Prod.snd
 (S.at' x11
 (Int.toNat (Int.tmod (vw (Int.toNat x1 + aw)) (↑(List.length x11) : Int))))))
 (Prod.snd
 (Prod.snd
 (S.at' x11
 (Int.toNat
 (Int.tmod (vw (Int.toNat x1 + aw)) (↑(List.length x11) : Int))))))))))))))
noncomputable abbrev c10_1_2 (aw : Nat) (tw : Nat → Int) (vw : Nat → Int) (x1 : Int) (x2 : List (ByteArray × Int × Int)) (x3 : Int) (x4 : Int) (x5 : Int) (x6 : Int) (x7 : Bool) (x8 : Bool) (x9 : List (ByteArray × Int × Int)) (x10 : List Bool) :=
 (Prod.snd
 (Prod.snd
 (Prod.snd
 (Prod.snd
 (S.doS (List.length x9)
 (c10_1_0 x3 x4 x5 x6 x7 x8 x9 x10)
 x3
 (S.mkl (List.length x9) fun j =>
 ((S.at' x9 j).1, (S.at' x9 j).2.1,
 (S.at' x9 j).2.2))
 (fun j => S.at' x10 j) x4 x5 x6 x7 x8
 ((1 : Int) + Int.tmod (tw (Int.toNat x1 + aw)) (5 : Int))
 (Int.tmod (vw (Int.toNat x1 + aw)) (↑(List.length x2) : Int)) (0 : Int) (0 : Int)
 (0 : Int))))))
noncomputable abbrev c10_1_3 (aw : Nat) (tw : Nat → Int) (vw : Nat → Int) (x1 : Int) (x2 : List (ByteArray × Int × Int)) (x3 : Int) (x4 : Int) (x5 : Int) (x6 : Int) (x7 : Bool) (x8 : Bool) (x9 : List (ByteArray × Int × Int)) (x10 : List Bool) :=
 (S.doS (List.length x9)
 (c10_1_0 x3 x4 x5 x6 x7 x8 x9 x10)
 x3
 (S.mkl (List.length x9) fun j =>
 ((S.at' x9 j).1, (S.at' x9 j).2.1,
 (S.at' x9 j).2.2))
 (fun j => S.at' x10 j) x4 x5 x6 x7 x8
 ((1 : Int) + Int.tmod (tw (Int.toNat x1 + aw)) (5 : Int))
 (Int.tmod (vw (Int.toNat x1 + aw)) (↑(List.length x2) : Int)) (0 : Int) (0 : Int) (0 : Int))
noncomputable abbrev c10_1_4 (aw : Nat) (tw : Nat → Int) (vw : Nat → Int) (x1 : Int) (x2 : List (ByteArray × Int × Int)) (x3 : Int) (x4 : Int) (x5 : Int) (x6 : Int) (x7 : Bool) (x8 : Bool) (x9 : List (ByteArray × Int × Int)) (x10 : List Bool) (x11 : List (Int × Int × Int)) :=
 (Prod.snd
 (Prod.snd
 (S.doS (List.length x9)
 (c10_1_0 x3 x4 x5 x6 x7 x8 x9 x10)
 x3
 (S.mkl (List.length x9) fun j =>
 ((S.at' x9 j).1, (S.at' x9 j).2.1,
 (S.at' x9 j).2.2))
 (fun j => S.at' x10 j) x4 x5 x6 x7 x8
 ((1 : Int) + Int.tmod (tw (Int.toNat x1 + aw)) (5 : Int))
 (Int.tmod (vw (Int.toNat x1 + aw)) (↑(List.length x2) : Int))
 (Prod.fst
 (S.at' x11 (Int.toNat (Int.tmod (vw (Int.toNat x1 + aw)) (↑(List.length x11) : Int)))))
 (Prod.fst
 (Prod.snd
 (S.at' x11 (Int.toNat (Int.tmod (vw (Int.toNat x1 + aw)) (↑(List.length x11) : Int))))))
 (Prod.snd
 (Prod.snd
 (S.at' x11
 (Int.toNat (Int.tmod (vw (Int.toNat x1 + aw)) (↑(List.length x11) : Int)))))))))
noncomputable abbrev c10_1_5 (aw : Nat) (tw : Nat → Int) (vw : Nat → Int) (x1 : Int) (x2 : List (ByteArray × Int × Int)) (x3 : Int) (x4 : Int) (x5 : Int) (x6 : Int) (x7 : Bool) (x8 : Bool) (x9 : List (ByteArray × Int × Int)) (x10 : List Bool) (x11 : List (Int × Int × Int)) :=
 (4, true,
 Blk.cells
 [PV.own (11) (3)
 (List.length
 (Prod.fst
 (c10_1_1 aw tw vw x1 x2 x3 x4 x5 x6 x7 x8 x9 x10 x11))),
 PV.int IntKind.i64
 (Prod.fst
 (S.doS (List.length x9)
 (c10_1_0 x3 x4 x5 x6 x7 x8 x9 x10)
 x3
 (S.mkl (List.length x9) fun j =>
 ((S.at' x9 j).1, (S.at' x9 j).2.1,
 (S.at' x9 j).2.2))
 (fun j => S.at' x10 j) x4 x5 x6 x7 x8
 ((1 : Int) + Int.tmod (tw (Int.toNat x1 + aw)) (5 : Int))
 (Int.tmod (vw (Int.toNat x1 + aw)) (↑(List.length x2) : Int))
 ((S.at' x11 (Int.toNat (Int.tmod (vw (Int.toNat x1 + aw)) (↑(List.length x11) : Int)))).1)
 (Prod.fst
 (Prod.snd
 (S.at' x11 (Int.toNat (Int.tmod (vw (Int.toNat x1 + aw)) (↑(List.length x11) : Int))))))
 (Prod.snd
 (Prod.snd
 (S.at' x11 (Int.toNat (Int.tmod (vw (Int.toNat x1 + aw)) (↑(List.length x11) : Int)))))))),
 PV.own (12) (1)
 (List.length
 (Prod.snd
 (c10_1_1 aw tw vw x1 x2 x3 x4 x5 x6 x7 x8 x9 x10 x11))),
 PV.int IntKind.i64
 (Prod.fst
 (Prod.snd
 (S.doS (List.length x9)
 (c10_1_0 x3 x4 x5 x6 x7 x8 x9 x10)
 x3
 (S.mkl (List.length x9) fun j =>
 ((S.at' x9 j).1, (S.at' x9 j).2.1,
 (S.at' x9 j).2.2))
 (fun j => S.at' x10 j) x4 x5 x6 x7 x8
 ((1 : Int) + Int.tmod (tw (Int.toNat x1 + aw)) (5 : Int))
 (Int.tmod (vw (Int.toNat x1 + aw)) (↑(List.length x2) : Int))
 (Prod.fst
 (S.at' x11 (Int.toNat (Int.tmod (vw (Int.toNat x1 + aw)) (↑(List.length x11) : Int)))))
 (Prod.fst
 (Prod.snd
 (S.at' x11 (Int.toNat (Int.tmod (vw (Int.toNat x1 + aw)) (↑(List.length x11) : Int))))))
 (Prod.snd
 (Prod.snd
 (S.at' x11 (Int.toNat (Int.tmod (vw (Int.toNat x1 + aw)) (↑(List.length x11) : Int))))))))),
 PV.int IntKind.i64
 (Prod.fst
 (c10_1_4 aw tw vw x1 x2 x3 x4 x5 x6 x7 x8 x9 x10 x11)),
 PV.int IntKind.i64
 (Prod.fst
 (Prod.snd
 (c10_1_4 aw tw vw x1 x2 x3 x4 x5 x6 x7 x8 x9 x10 x11))),
 PV.bool
 (Prod.fst
 (Prod.snd
 (Prod.snd
 (Prod.snd
 (Prod.snd
 (S.doS (List.length x9)
 (c10_1_0 x3 x4 x5 x6 x7 x8 x9 x10)
 x3
 (S.mkl (List.length x9) fun j =>
 ((S.at' x9 j).1, (S.at' x9 j).2.1,
 (S.at' x9 j).2.2))
 (fun j => S.at' x10 j) x4 x5 x6 x7 x8
 ((1 : Int) + Int.tmod (tw (Int.toNat x1 + aw)) (5 : Int))
 (Int.tmod (vw (Int.toNat x1 + aw)) (↑(List.length x2) : Int))
 (Prod.fst
 (S.at' x11 (Int.toNat (Int.tmod (vw (Int.toNat x1 + aw)) (↑(List.length x11) : Int)))))
 (Prod.fst
 (Prod.snd
 (S.at' x11
 (Int.toNat (Int.tmod (vw (Int.toNat x1 + aw)) (↑(List.length x11) : Int))))))
 (Prod.snd
 (Prod.snd
 (S.at' x11
 (Int.toNat (Int.tmod (vw (Int.toNat x1 + aw)) (↑(List.length x11) : Int)))))))))))),
 PV.bool
 (Prod.fst
 (Prod.snd
 (Prod.snd
 (Prod.snd
 (Prod.snd
 (Prod.snd
 (S.doS (List.length x9)
 (c10_1_0 x3 x4 x5 x6 x7 x8 x9 x10)
 x3
 (S.mkl (List.length x9) fun j =>
 ((S.at' x9 j).1, (S.at' x9 j).2.1,
 (S.at' x9 j).2.2))
 (fun j => S.at' x10 j) x4 x5 x6 x7 x8
 ((1 : Int) + Int.tmod (tw (Int.toNat x1 + aw)) (5 : Int))
 (Int.tmod (vw (Int.toNat x1 + aw)) (↑(List.length x2) : Int))
 (Prod.fst
 (S.at' x11
 (Int.toNat (Int.tmod (vw (Int.toNat x1 + aw)) (↑(List.length x11) : Int)))))
 (Prod.fst
 (Prod.snd
 (S.at' x11
 (Int.toNat (Int.tmod (vw (Int.toNat x1 + aw)) (↑(List.length x11) : Int))))))
 (Prod.snd
 (Prod.snd
 (S.at' x11
 (Int.toNat (Int.tmod (vw (Int.toNat x1 + aw)) (↑(List.length x11) : Int)))))))))))))])
noncomputable abbrev c10_1_6 (aw : Nat) (tw : Nat → Int) (vw : Nat → Int) (x1 : Int) (x2 : List (ByteArray × Int × Int)) (x3 : Int) (x4 : Int) (x5 : Int) (x6 : Int) (x7 : Bool) (x8 : Bool) (x9 : List (ByteArray × Int × Int)) (x10 : List Bool) (x11 : List (Int × Int × Int)) :=
 (Prod.snd
 (Prod.snd
 (Prod.snd
 (Prod.snd
 (S.doS (List.length x9)
 (c10_1_0 x3 x4 x5 x6 x7 x8 x9 x10)
 x3
 (S.mkl (List.length x9) fun j =>
 ((S.at' x9 j).1, (S.at' x9 j).2.1,
 (S.at' x9 j).2.2))
 (fun j => S.at' x10 j) x4 x5 x6 x7 x8
 ((1 : Int) + Int.tmod (tw (Int.toNat x1 + aw)) (5 : Int))
 (Int.tmod (vw (Int.toNat x1 + aw)) (↑(List.length x2) : Int))
 ((S.at' x11 (Int.toNat (Int.tmod (vw (Int.toNat x1 + aw)) (↑(List.length x11) : Int)))).1)
 (Prod.fst
 ((S.at' x11 (Int.toNat (Int.tmod (vw (Int.toNat x1 + aw)) (↑(List.length x11) : Int)))).2))
 (Prod.snd
 (Prod.snd
 (S.at' x11 (Int.toNat (Int.tmod (vw (Int.toNat x1 + aw)) (↑(List.length x11) : Int)))))))))))
noncomputable abbrev c10_1_7 (ml : Nat) (tl : Nat → Int) (vl : Nat → Int) (aw : Nat) (mw : Nat) (tw : Nat → Int) (vw : Nat → Int) (x1 : Int) (x2 : List (ByteArray × Int × Int)) (x3 : Int) (x4 : Int) (x5 : Int) (x6 : Int) (x7 : Bool) (x8 : Bool) (x9 : List (ByteArray × Int × Int)) (x10 : List Bool) (x11 : List (Int × Int × Int)) :=
 ([[(1, false, Blk.cols mw [Col.int IntKind.u8 tw, Col.int IntKind.u8 vw]),
 (0, false, Blk.cols ml [Col.int IntKind.u8 tl, Col.int IntKind.u8 vl]),
 (7, true,
 Blk.cols (List.length x11)
 [Col.int IntKind.i64 fun j => (S.at' x11 j).1,
 Col.int IntKind.i64 fun j => (S.at' x11 j).2.1,
 Col.int IntKind.i64 fun j => (S.at' x11 j).2.2]),
 (4, true,
 Blk.cells
 [PV.own (11) (3)
 (List.length
 (Prod.fst
 (Prod.snd
 (Prod.snd
 (Prod.snd
 (c10_1_2 aw tw vw x1 x2 x3 x4 x5 x6 x7 x8 x9 x10)))))),
 PV.int IntKind.i64
 (Prod.fst
 (c10_1_3 aw tw vw x1 x2 x3 x4 x5 x6 x7 x8 x9 x10)),
 PV.own (12) (1)
 (List.length
 (Prod.snd
 (Prod.snd
 (Prod.snd
 (Prod.snd
 (c10_1_2 aw tw vw x1 x2 x3 x4 x5 x6 x7 x8 x9 x10)))))),
 PV.int IntKind.i64
 (Prod.fst
 (Prod.snd
 (c10_1_3 aw tw vw x1 x2 x3 x4 x5 x6 x7 x8 x9 x10))),
 PV.int IntKind.i64
 (Prod.fst
 (Prod.snd
 (Prod.snd
 (c10_1_3 aw tw vw x1 x2 x3 x4 x5 x6 x7 x8 x9 x10)))),
 PV.int IntKind.i64
 (Prod.fst
 (Prod.snd
 (Prod.snd
 (Prod.snd
 (c10_1_3 aw tw vw x1 x2 x3 x4 x5 x6 x7 x8 x9 x10))))),
 PV.bool
 (Prod.fst
 (c10_1_2 aw tw vw x1 x2 x3 x4 x5 x6 x7 x8 x9 x10)),
 PV.bool
 (Prod.fst
 (Prod.snd
 (c10_1_2 aw tw vw x1 x2 x3 x4 x5 x6 x7 x8 x9 x10)))]),
 (2, true,
 Blk.cells [PV.own (3) (3) (List.length x2), PV.int IntKind.i64 (1 : Int)]),
 (3, true,
 Blk.cols (List.length x2)
 [Col.str fun j => (S.at' x2 j).1,
 Col.int IntKind.i64 fun j => (S.at' x2 j).2.1,
 Col.int IntKind.i64 fun j => (S.at' x2 j).2.2]),
 (12, true,
 Blk.cols
 (List.length
 (Prod.snd
 (Prod.snd
 (Prod.snd
 (Prod.snd
 (c10_1_2 aw tw vw x1 x2 x3 x4 x5 x6 x7 x8 x9 x10))))))
 [Col.bool fun j =>
 S.at'
 (Prod.snd
 (Prod.snd
 (Prod.snd
 (Prod.snd
 (c10_1_2 aw tw vw x1 x2 x3 x4 x5 x6 x7 x8 x9 x10)))))
 j]),
 (11, true,
 Blk.cols
 (List.length
 (Prod.fst
 (Prod.snd
 (Prod.snd
 (Prod.snd
 (c10_1_2 aw tw vw x1 x2 x3 x4 x5 x6 x7 x8 x9 x10))))))
 [Col.str fun j =>
 Prod.fst
 (S.at'
 (Prod.fst
 (Prod.snd
 (Prod.snd
 (Prod.snd
 (c10_1_2 aw tw vw x1 x2 x3 x4 x5 x6 x7 x8 x9 x10)))))
 j),
 Col.int IntKind.i64 fun j =>
 Prod.fst
 (Prod.snd
 (S.at'
 (Prod.fst
 (Prod.snd
 (Prod.snd
 (Prod.snd
 (c10_1_2 aw tw vw x1 x2 x3 x4 x5 x6 x7 x8 x9 x10)))))
 j)),
 Col.int IntKind.i64 fun j =>
 Prod.snd
 (Prod.snd
 (S.at'
 (Prod.fst
 (Prod.snd
 (Prod.snd
 (Prod.snd
 (c10_1_2 aw tw vw x1 x2 x3 x4 x5 x6 x7 x8 x9 x10)))))
 j))])]])
noncomputable abbrev c10_1_8 (ml : Nat) (tl : Nat → Int) (vl : Nat → Int) (aw : Nat) (mw : Nat) (tw : Nat → Int) (vw : Nat → Int) (x1 : Int) (x2 : List (ByteArray × Int × Int)) (x3 : Int) (x4 : Int) (x5 : Int) (x6 : Int) (x7 : Bool) (x8 : Bool) (x9 : List (ByteArray × Int × Int)) (x10 : List Bool) (x11 : List (Int × Int × Int)) :=
 ([[(1, false, Blk.cols mw [Col.int IntKind.u8 tw, Col.int IntKind.u8 vw]),
 (0, false, Blk.cols ml [Col.int IntKind.u8 tl, Col.int IntKind.u8 vl]),
 (7, true,
 Blk.cols (List.length x11)
 [Col.int IntKind.i64 fun j => (S.at' x11 j).1,
 Col.int IntKind.i64 fun j => (S.at' x11 j).2.1,
 Col.int IntKind.i64 fun j => (S.at' x11 j).2.2]),
 (c10_1_5 aw tw vw x1 x2 x3 x4 x5 x6 x7 x8 x9 x10 x11),
 (2, true,
 Blk.cells [PV.own (3) (3) (List.length x2), PV.int IntKind.i64 (1 : Int)]),
 (3, true,
 Blk.cols (List.length x2)
 [Col.str fun j => (S.at' x2 j).1,
 Col.int IntKind.i64 fun j => (S.at' x2 j).2.1,
 Col.int IntKind.i64 fun j => (S.at' x2 j).2.2]),
 (12, true,
 Blk.cols
 (List.length
 (Prod.snd
 (c10_1_1 aw tw vw x1 x2 x3 x4 x5 x6 x7 x8 x9 x10 x11)))
 [Col.bool fun j =>
 S.at'
 (Prod.snd
 (c10_1_1 aw tw vw x1 x2 x3 x4 x5 x6 x7 x8 x9 x10 x11))
 j]),
 (11, true,
 Blk.cols
 (List.length
 (Prod.fst
 (c10_1_1 aw tw vw x1 x2 x3 x4 x5 x6 x7 x8 x9 x10 x11)))
 [Col.str fun j =>
 Prod.fst
 (S.at'
 (Prod.fst
 (c10_1_1 aw tw vw x1 x2 x3 x4 x5 x6 x7 x8 x9 x10 x11))
 j),
 Col.int IntKind.i64 fun j =>
 Prod.fst
 (Prod.snd
 (S.at'
 (Prod.fst
 (c10_1_1 aw tw vw x1 x2 x3 x4 x5 x6 x7 x8 x9 x10 x11))
 j)),
 Col.int IntKind.i64 fun j =>
 Prod.snd
 (Prod.snd
 (S.at'
 (Prod.fst
 (c10_1_1 aw tw vw x1 x2 x3 x4 x5 x6 x7 x8 x9 x10 x11))
 j))])]])
noncomputable abbrev c10_1_9 (aw : Nat) (tw : Nat → Int) (vw : Nat → Int) (x1 : Int) (x2 : List (ByteArray × Int × Int)) (x3 : Int) (x4 : Int) (x5 : Int) (x6 : Int) (x7 : Bool) (x8 : Bool) (x9 : List (ByteArray × Int × Int)) (x10 : List Bool) :=
 (S.doS (List.length x9)
 (c10_1_0 x3 x4 x5 x6 x7 x8 x9 x10)
 x3
 (S.mkl (List.length x9) fun j =>
 ((S.at' x9 j).1, (S.at' x9 j).2.1, (S.at' x9 j).2.2))
 (fun j => S.at' x10 j) x4 x5 x6 x7 x8 ((1 : Int) + Int.tmod (tw (Int.toNat x1 + aw)) (5 : Int))
 (Int.tmod (vw (Int.toNat x1 + aw)) (↑(List.length x2) : Int)) (0 : Int) (0 : Int) (0 : Int))
noncomputable abbrev c10_1_10 (aw : Nat) (tw : Nat → Int) (vw : Nat → Int) (x1 : Int) (x2 : List (ByteArray × Int × Int)) (x3 : Int) (x4 : Int) (x5 : Int) (x6 : Int) (x7 : Bool) (x8 : Bool) (x9 : List (ByteArray × Int × Int)) (x10 : List Bool) (x11 : List (Int × Int × Int)) :=
 (Prod.snd
 (Prod.snd
 (Prod.snd
 (Prod.snd
 (Prod.snd
 (Prod.snd
 (Prod.snd
 (Prod.snd
 (S.doS (List.length x9)
 (c10_1_0 x3 x4 x5 x6 x7 x8 x9 x10)
 x3
 (S.mkl (List.length x9) fun j =>
 ((S.at' x9 j).1, (S.at' x9 j).2.1,
 (S.at' x9 j).2.2))
 (fun j => S.at' x10 j) x4 x5 x6 x7 x8
 ((1 : Int) + Int.tmod (tw (Int.toNat x1 + aw)) (5 : Int))
 (Int.tmod (vw (Int.toNat x1 + aw)) (↑(List.length x2) : Int))
 (Prod.fst
 (S.at' x11
 (Int.toNat (Int.tmod (vw (Int.toNat x1 + aw)) (↑(List.length x11) : Int)))))
 (Prod.fst
 (Prod.snd
 (S.at' x11
 (Int.toNat (Int.tmod (vw (Int.toNat x1 + aw)) (↑(List.length x11) : Int))))))
 (Prod.snd
 (Prod.snd
 (S.at' x11
 (Int.toNat (Int.tmod (vw (Int.toNat x1 + aw)) (↑(List.length x11) : Int)))))))))))))))
noncomputable abbrev c10_1_11 (aw : Nat) (tw : Nat → Int) (vw : Nat → Int) (x1 : Int) (x2 : List (ByteArray × Int × Int)) (x3 : Int) (x4 : Int) (x5 : Int) (x6 : Int) (x7 : Bool) (x8 : Bool) (x9 : List (ByteArray × Int × Int)) (x10 : List Bool) (x11 : List (Int × Int × Int)) :=
 (Prod.fst
 (Prod.snd
 (Prod.snd
 (Prod.snd
 (S.doS (List.length x9)
 (c10_1_0 x3 x4 x5 x6 x7 x8 x9 x10)
 x3
 (S.mkl (List.length x9) fun j =>
 ((S.at' x9 j).1, (S.at' x9 j).2.1,
 (S.at' x9 j).2.2))
 (fun j => S.at' x10 j) x4 x5 x6 x7 x8 ((1 : Int) + Int.tmod (tw (Int.toNat x1 + aw)) (5 : Int))
 (Int.tmod (vw (Int.toNat x1 + aw)) (↑(List.length x2) : Int))
 ((S.at' x11 (Int.toNat (Int.tmod (vw (Int.toNat x1 + aw)) (↑(List.length x11) : Int)))).1)
 (Prod.fst
 ((S.at' x11 (Int.toNat (Int.tmod (vw (Int.toNat x1 + aw)) (↑(List.length x11) : Int)))).2))
 (Prod.snd
 ((S.at' x11 (Int.toNat (Int.tmod (vw (Int.toNat x1 + aw)) (↑(List.length x11) : Int)))).2)))))))
noncomputable abbrev c10_1_12 (aw : Nat) (tw : Nat → Int) (vw : Nat → Int) (x1 : Int) (x2 : List (ByteArray × Int × Int)) (x3 : Int) (x4 : Int) (x5 : Int) (x6 : Int) (x7 : Bool) (x8 : Bool) (x9 : List (ByteArray × Int × Int)) (x10 : List Bool) (x11 : List (Int × Int × Int)) :=
 (Prod.fst
 (Prod.snd
 (Prod.snd
 (S.doS (List.length x9)
 (c10_1_0 x3 x4 x5 x6 x7 x8 x9 x10)
 x3
 (S.mkl (List.length x9) fun j =>
 ((S.at' x9 j).1, (S.at' x9 j).2.1, (S.at' x9 j).2.2))
 (fun j => S.at' x10 j) x4 x5 x6 x7 x8 ((1 : Int) + Int.tmod (tw (Int.toNat x1 + aw)) (5 : Int))
 (Int.tmod (vw (Int.toNat x1 + aw)) (↑(List.length x2) : Int))
 ((S.at' x11 (Int.toNat (Int.tmod (vw (Int.toNat x1 + aw)) (↑(List.length x11) : Int)))).1)
 (Prod.fst
 ((S.at' x11 (Int.toNat (Int.tmod (vw (Int.toNat x1 + aw)) (↑(List.length x11) : Int)))).2))
 (Prod.snd
 ((S.at' x11 (Int.toNat (Int.tmod (vw (Int.toNat x1 + aw)) (↑(List.length x11) : Int)))).2))))))
end Go.Ev
