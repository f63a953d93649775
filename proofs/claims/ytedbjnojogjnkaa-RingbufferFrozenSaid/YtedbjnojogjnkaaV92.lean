/-
  The parts that the statement needs, 2 of 2.
-/
import Derived.Test.YtedbjnojogjnkaaV91
namespace Go.Ev
open Go.Proofs
set_option linter.unusedVariables false
set_option linter.unusedSimpArgs false
set_option maxRecDepth 100000
set_option maxHeartbeats 4000000
theorem t37_0 (test : Bool → Prop → Prop → Prop) (Kst : KS) (Kret : KR) (al nl ml : Nat) (tl : Nat → Int) (vl : Nat → Int) (x0 : Int) (x1 : Int) (x2 : List (Int × Int × Int × Bool)) : run test Try.env true (xH test) true 400 ⟨37, hd Try.f37 0, zipT [0, 3, 4, 5] [PV.loose (PA.mk (0) (2) al (0)) nl,
 PV.own (1) (4) (List.length x2), PV.int IntKind.i64 x0, PV.int IntKind.i64 x1], [[(1, (true, Blk.cols (List.length x2)
 [Col.int IntKind.i64 fun j => (S.at' x2 j).1,
 Col.int IntKind.i64 fun j => (S.at' x2 j).2.1,
 Col.int IntKind.i64 fun j => (S.at' x2 j).2.2.1,
 Col.bool fun j => (S.at' x2 j).2.2.2]))], [(0, (false, .cols ml [.int .u8 tl, .int .u8 vl]))]], 2⟩ (proj 1 [0, 3, 4, 5] Kst Kret) =
  T37_0 test Kst Kret al nl ml tl vl x0 x1 x2 := by kernel_rfl
theorem be37 (al nl ml : Nat) (tl : Nat → Int) (vl : Nat → Int) (Kst : KS) (Kret : KR) (x : St37 ⊕ Rt37) (hS : HS 1 400 ((I37 al nl ml tl vl)) Kst x) (hR : HR 1 400 ((V37 al nl ml tl vl)) (fun r => [newL (1 + 1) ((N37 al nl ml tl vl) r) ++ [(0, (false, .cols ml [.int .u8 tl, .int .u8 vl]))]]) Kret x) (h : (some (.inl (.h0 ((0 : Int)) ((0 : Int)) ([]))) : Option (St37 ⊕ Rt37)) = some x) : Te37 cond Kst Kret al nl ml tl vl := by
  unfold Te37
  exact stop_at hS _ h (fun n => bif Nat.beq n 1 then 399 else n) rfl rfl rfl ⟨(rn_loose (use_lo rfl) rfl rfl rfl), ⟨(rn_own_nils rfl), ⟨(rn_int rfl), ⟨(rn_int rfl), trivial⟩⟩⟩⟩ rfl (entl_fresh (use_own rfl) (fresh_ok rfl) (entl_bor (use_lo rfl) rfl rfl entl_nil))
theorem b37_0 (al nl ml : Nat) (tl : Nat → Int) (vl : Nat → Int) (Kst : KS) (Kret : KR) (x : St37 ⊕ Rt37) (hS : HS 1 400 ((I37 al nl ml tl vl)) Kst x) (hR : HR 1 400 ((V37 al nl ml tl vl)) (fun r => [newL (1 + 1) ((N37 al nl ml tl vl) r) ++ [(0, (false, .cols ml [.int .u8 tl, .int .u8 vl]))]]) Kret x) (x0 : Int) (x1 : Int) (x2 : List (Int × Int × Int × Bool)) (h : (bif (decide (x1 < (↑nl : Int)))
 then (bif (decide ((0 : Int) ≤ x1 ∧ x1 < (↑nl : Int)))
 then (bif (decide (Int.toNat x1 + al < ml))
 then (bif (Int.tmod (tl (Int.toNat x1 + al)) (16 : Int) == (14 : Int))
 then (bif (Int.tmod (tl (Int.toNat x1 + al)) (16 : Int) == (15 : Int))
 then (bif (lim IntKind.u8 (Int.tdiv (tl (Int.toNat x1 + al)) (16 : Int)))
 then (bif (lim IntKind.i64 (Int.tdiv (tl (Int.toNat x1 + al)) (16 : Int)))
 then (bif (lim IntKind.i64 (x0 + Int.tdiv (tl (Int.toNat x1 + al)) (16 : Int)))
 then (bif (lim IntKind.i64 (Int.tmod (vl (Int.toNat x1 + al)) (32 : Int)))
 then (bif (lim IntKind.i64 (Int.tmod (vl (Int.toNat x1 + al)) (32 : Int) - (16 : Int)))
 then (bif (decide (vl (Int.toNat x1 + al) ≥ (32 : Int)))
 then (bif (decide (List.length x2 + 1 ≤ 1000000))
 then (bif (decide (List.length x2 ≤ List.length x2))
 then (bif (lim IntKind.i64 (x1 + (1 : Int)))
 then (some (.inl (.h0 (x0 + Int.tdiv (tl (Int.toNat x1 + al)) (16 : Int)) (x1 + (1 : Int)) (S.snoc x2
 ((3 : Int), x0 + Int.tdiv (tl (Int.toNat x1 + al)) (16 : Int),
 Int.tmod (vl (Int.toNat x1 + al)) (32 : Int) - (16 : Int), true)))))
 else (none))
 else (none))
 else (none))
 else (bif (decide (List.length x2 + 1 ≤ 1000000))
 then (bif (decide (List.length x2 ≤ List.length x2))
 then (bif (lim IntKind.i64 (x1 + (1 : Int)))
 then (some (.inl (.h0 (x0 + Int.tdiv (tl (Int.toNat x1 + al)) (16 : Int)) (x1 + (1 : Int)) (S.snoc x2
 ((3 : Int), x0 + Int.tdiv (tl (Int.toNat x1 + al)) (16 : Int),
 Int.tmod (vl (Int.toNat x1 + al)) (32 : Int) - (16 : Int), false)))))
 else (none))
 else (none))
 else (none)))
 else (none))
 else (none))
 else (none))
 else (none))
 else (none))
 else (bif (lim IntKind.u8 (Int.tdiv (tl (Int.toNat x1 + al)) (16 : Int)))
 then (bif (lim IntKind.i64 (Int.tdiv (tl (Int.toNat x1 + al)) (16 : Int)))
 then (bif (lim IntKind.i64 (x0 + Int.tdiv (tl (Int.toNat x1 + al)) (16 : Int)))
 then (bif (lim IntKind.i64 (Int.tmod (vl (Int.toNat x1 + al)) (32 : Int)))
 then (bif (lim IntKind.i64 (Int.tmod (vl (Int.toNat x1 + al)) (32 : Int) - (16 : Int)))
 then (bif (decide (vl (Int.toNat x1 + al) ≥ (32 : Int)))
 then (bif (decide (List.length x2 + 1 ≤ 1000000))
 then (bif (decide (List.length x2 ≤ List.length x2))
 then (bif (lim IntKind.i64 (x1 + (1 : Int)))
 then (some (.inl (.h0 (x0 + Int.tdiv (tl (Int.toNat x1 + al)) (16 : Int)) (x1 + (1 : Int)) (S.snoc x2
 ((2 : Int), x0 + Int.tdiv (tl (Int.toNat x1 + al)) (16 : Int),
 Int.tmod (vl (Int.toNat x1 + al)) (32 : Int) - (16 : Int), true)))))
 else (none))
 else (none))
 else (none))
 else (bif (decide (List.length x2 + 1 ≤ 1000000))
 then (bif (decide (List.length x2 ≤ List.length x2))
 then (bif (lim IntKind.i64 (x1 + (1 : Int)))
 then (some (.inl (.h0 (x0 + Int.tdiv (tl (Int.toNat x1 + al)) (16 : Int)) (x1 + (1 : Int)) (S.snoc x2
 ((2 : Int), x0 + Int.tdiv (tl (Int.toNat x1 + al)) (16 : Int),
 Int.tmod (vl (Int.toNat x1 + al)) (32 : Int) - (16 : Int), false)))))
 else (none))
 else (none))
 else (none)))
 else (none))
 else (none))
 else (none))
 else (none))
 else (none)))
 else (bif (Int.tmod (tl (Int.toNat x1 + al)) (16 : Int) == (15 : Int))
 then (bif (lim IntKind.u8 (Int.tdiv (tl (Int.toNat x1 + al)) (16 : Int)))
 then (bif (lim IntKind.i64 (Int.tdiv (tl (Int.toNat x1 + al)) (16 : Int)))
 then (bif (lim IntKind.i64 (x0 + Int.tdiv (tl (Int.toNat x1 + al)) (16 : Int)))
 then (bif (lim IntKind.i64 (Int.tmod (vl (Int.toNat x1 + al)) (32 : Int)))
 then (bif (lim IntKind.i64 (Int.tmod (vl (Int.toNat x1 + al)) (32 : Int) - (16 : Int)))
 then (bif (decide (vl (Int.toNat x1 + al) ≥ (32 : Int)))
 then (bif (decide (List.length x2 + 1 ≤ 1000000))
 then (bif (decide (List.length x2 ≤ List.length x2))
 then (bif (lim IntKind.i64 (x1 + (1 : Int)))
 then (some (.inl (.h0 (x0 + Int.tdiv (tl (Int.toNat x1 + al)) (16 : Int)) (x1 + (1 : Int)) (S.snoc x2
 ((3 : Int), x0 + Int.tdiv (tl (Int.toNat x1 + al)) (16 : Int),
 Int.tmod (vl (Int.toNat x1 + al)) (32 : Int) - (16 : Int), true)))))
 else (none))
 else (none))
 else (none))
 else (bif (decide (List.length x2 + 1 ≤ 1000000))
 then (bif (decide (List.length x2 ≤ List.length x2))
 then (bif (lim IntKind.i64 (x1 + (1 : Int)))
 then (some (.inl (.h0 (x0 + Int.tdiv (tl (Int.toNat x1 + al)) (16 : Int)) (x1 + (1 : Int)) (S.snoc x2
 ((3 : Int), x0 + Int.tdiv (tl (Int.toNat x1 + al)) (16 : Int),
 Int.tmod (vl (Int.toNat x1 + al)) (32 : Int) - (16 : Int), false)))))
 else (none))
 else (none))
 else (none)))
 else (none))
 else (none))
 else (none))
 else (none))
 else (none))
 else (bif (lim IntKind.u8 (Int.tdiv (tl (Int.toNat x1 + al)) (16 : Int)))
 then (bif (lim IntKind.i64 (Int.tdiv (tl (Int.toNat x1 + al)) (16 : Int)))
 then (bif (lim IntKind.i64 (x0 + Int.tdiv (tl (Int.toNat x1 + al)) (16 : Int)))
 then (bif (lim IntKind.i64 (Int.tmod (vl (Int.toNat x1 + al)) (32 : Int)))
 then (bif (lim IntKind.i64 (Int.tmod (vl (Int.toNat x1 + al)) (32 : Int) - (16 : Int)))
 then (bif (decide (vl (Int.toNat x1 + al) ≥ (32 : Int)))
 then (bif (decide (List.length x2 + 1 ≤ 1000000))
 then (bif (decide (List.length x2 ≤ List.length x2))
 then (bif (lim IntKind.i64 (x1 + (1 : Int)))
 then (some (.inl (.h0 (x0 + Int.tdiv (tl (Int.toNat x1 + al)) (16 : Int)) (x1 + (1 : Int)) (S.snoc x2
 ((1 : Int), x0 + Int.tdiv (tl (Int.toNat x1 + al)) (16 : Int),
 Int.tmod (vl (Int.toNat x1 + al)) (32 : Int) - (16 : Int), true)))))
 else (none))
 else (none))
 else (none))
 else (bif (decide (List.length x2 + 1 ≤ 1000000))
 then (bif (decide (List.length x2 ≤ List.length x2))
 then (bif (lim IntKind.i64 (x1 + (1 : Int)))
 then (some (.inl (.h0 (x0 + Int.tdiv (tl (Int.toNat x1 + al)) (16 : Int)) (x1 + (1 : Int)) (S.snoc x2
 ((1 : Int), x0 + Int.tdiv (tl (Int.toNat x1 + al)) (16 : Int),
 Int.tmod (vl (Int.toNat x1 + al)) (32 : Int) - (16 : Int), false)))))
 else (none))
 else (none))
 else (none)))
 else (none))
 else (none))
 else (none))
 else (none))
 else (none))))
 else (none))
 else (none))
 else (some (.inr (x2))) : Option (St37 ⊕ Rt37)) = some x) : T37_0 cond Kst Kret al nl ml tl vl x0 x1 x2 := by
  unfold T37_0
  refine bif_split h
   (fun c0 h => bif_split h
   (fun c1 h => cond_yes rfl (bif_split h
   (fun c2 h => cond_no rfl (bif_split h
   (fun c3 h => cond_yes c1 (cond_yes rfl (cond_yes c2 (cond_no rfl (bif_split h
   (fun c4 h => cond_yes c1 (cond_yes rfl (cond_yes c2 (cond_no rfl (bif_split h
   (fun c5 h => bif_split h
   (fun c6 h => bif_split h
   (fun c7 h => cond_yes c1 (cond_yes rfl (cond_yes c2 (cond_no rfl (bif_split h
   (fun c8 h => bif_split h
   (fun c9 h => cond_yes c1 (cond_yes rfl (cond_yes c2 (bif_split h
   (fun c10 h => bif_split h
   (fun c11 h => bif_split h
   (fun c12 h => cond_yes rfl (bif_split h
   (fun c13 h => ?_)
   (fun c13 h => ?_)))
   (fun c12 h => ?_))
   (fun c11 h => ?_))
   (fun c10 h => bif_split h
   (fun c11 h => bif_split h
   (fun c12 h => cond_yes rfl (bif_split h
   (fun c13 h => ?_)
   (fun c13 h => ?_)))
   (fun c12 h => ?_))
   (fun c11 h => ?_))))))
   (fun c9 h => ?_))
   (fun c8 h => ?_))))))
   (fun c7 h => ?_))
   (fun c6 h => ?_))
   (fun c5 h => ?_))))))
   (fun c4 h => cond_yes c1 (cond_yes rfl (cond_yes c2 (cond_no rfl (bif_split h
   (fun c5 h => bif_split h
   (fun c6 h => bif_split h
   (fun c7 h => cond_yes c1 (cond_yes rfl (cond_yes c2 (cond_no rfl (bif_split h
   (fun c8 h => bif_split h
   (fun c9 h => cond_yes c1 (cond_yes rfl (cond_yes c2 (bif_split h
   (fun c10 h => bif_split h
   (fun c11 h => bif_split h
   (fun c12 h => cond_yes rfl (bif_split h
   (fun c13 h => ?_)
   (fun c13 h => ?_)))
   (fun c12 h => ?_))
   (fun c11 h => ?_))
   (fun c10 h => bif_split h
   (fun c11 h => bif_split h
   (fun c12 h => cond_yes rfl (bif_split h
   (fun c13 h => ?_)
   (fun c13 h => ?_)))
   (fun c12 h => ?_))
   (fun c11 h => ?_))))))
   (fun c9 h => ?_))
   (fun c8 h => ?_))))))
   (fun c7 h => ?_))
   (fun c6 h => ?_))
   (fun c5 h => ?_)))))))))))
   (fun c3 h => cond_yes c1 (cond_yes rfl (cond_yes c2 (cond_no rfl (bif_split h
   (fun c4 h => cond_yes c1 (cond_yes rfl (cond_yes c2 (cond_no rfl (bif_split h
   (fun c5 h => bif_split h
   (fun c6 h => bif_split h
   (fun c7 h => cond_yes c1 (cond_yes rfl (cond_yes c2 (cond_no rfl (bif_split h
   (fun c8 h => bif_split h
   (fun c9 h => cond_yes c1 (cond_yes rfl (cond_yes c2 (bif_split h
   (fun c10 h => bif_split h
   (fun c11 h => bif_split h
   (fun c12 h => cond_yes rfl (bif_split h
   (fun c13 h => ?_)
   (fun c13 h => ?_)))
   (fun c12 h => ?_))
   (fun c11 h => ?_))
   (fun c10 h => bif_split h
   (fun c11 h => bif_split h
   (fun c12 h => cond_yes rfl (bif_split h
   (fun c13 h => ?_)
   (fun c13 h => ?_)))
   (fun c12 h => ?_))
   (fun c11 h => ?_))))))
   (fun c9 h => ?_))
   (fun c8 h => ?_))))))
   (fun c7 h => ?_))
   (fun c6 h => ?_))
   (fun c5 h => ?_))))))
   (fun c4 h => cond_yes c1 (cond_yes rfl (cond_yes c2 (cond_no rfl (bif_split h
   (fun c5 h => bif_split h
   (fun c6 h => bif_split h
   (fun c7 h => cond_yes c1 (cond_yes rfl (cond_yes c2 (cond_no rfl (bif_split h
   (fun c8 h => bif_split h
   (fun c9 h => cond_yes c1 (cond_yes rfl (cond_yes c2 (bif_split h
   (fun c10 h => bif_split h
   (fun c11 h => bif_split h
   (fun c12 h => cond_yes rfl (bif_split h
   (fun c13 h => ?_)
   (fun c13 h => ?_)))
   (fun c12 h => ?_))
   (fun c11 h => ?_))
   (fun c10 h => bif_split h
   (fun c11 h => bif_split h
   (fun c12 h => cond_yes rfl (bif_split h
   (fun c13 h => ?_)
   (fun c13 h => ?_)))
   (fun c12 h => ?_))
   (fun c11 h => ?_))))))
   (fun c9 h => ?_))
   (fun c8 h => ?_))))))
   (fun c7 h => ?_))
   (fun c6 h => ?_))
   (fun c5 h => ?_)))))))))))))
   (fun c2 h => ?_)))
   (fun c1 h => ?_))
   (fun c0 h => ret_at hR _ h (fun n => bif Nat.beq n 2 then 1 else n) rfl rfl rfl (rn_own (use_own rfl) rfl rfl) rfl (entl_new (use_own rfl) rfl (Nat.le_of_eq rfl) (rcs_int (fun _ _ => rfl) (rcs_int (fun _ _ => rfl) (rcs_int (fun _ _ => rfl) (rcs_bool (fun _ _ => rfl) rcs_nil)))) (entl_bor (use_lo rfl) rfl rfl entl_nil)))
  all_goals first
    | exact no_some h
    | exact stop_at hS _ h (fun n => bif Nat.beq n 1 then 4 else n) rfl rfl rfl ⟨(rn_loose (use_lo rfl) rfl rfl rfl), ⟨(rn_own (use_own rfl) rfl (snoc_len' rfl)), ⟨(rn_int rfl), ⟨(rn_int rfl), trivial⟩⟩⟩⟩ rfl (entl_new (use_own rfl) rfl (Nat.le_of_eq (snoc_len' rfl)) (rcs_int (col_snoc' (fun (t : Int × Int × Int × Bool) => t.1) rfl (fun _ _ => rfl)) (rcs_int (col_snoc' (fun (t : Int × Int × Int × Bool) => t.2.1) rfl (fun _ _ => rfl)) (rcs_int (col_snoc' (fun (t : Int × Int × Int × Bool) => t.2.2.1) rfl (fun _ _ => rfl)) (rcs_bool (col_snoc' (fun (t : Int × Int × Int × Bool) => t.2.2.2) rfl (fun _ _ => rfl)) rcs_nil)))) (entl_bor (use_lo rfl) rfl rfl entl_nil))
theorem a37 (al nl ml : Nat) (tl : Nat → Int) (vl : Nat → Int) {r : Rt37} (h : Goes ((q37 al nl ml tl vl)) ((p37 al nl ml tl vl)) r) : CallR Try.prog 37 [.loose ⟨0, 2, al, 0⟩ nl] [[(0, (false, .cols ml [.int .u8 tl, .int .u8 vl]))]] 1 ((V37 al nl ml tl vl) r) ((fun r => [newL (1 + 1) ((N37 al nl ml tl vl) r) ++ [(0, (false, .cols ml [.int .u8 tl, .int .u8 vl]))]]) r) 400 ∧ ∃ F, Try.prog.funcs[37]? = some F ∧ F.body.isSome = true ∧ (F.name == "runtime.NumGoroutine") = false := by
  refine dec_calls (f := 37) (lo := 1) (hi := 400) (H := [[(0, (false, .cols ml [.int .u8 tl, .int .u8 vl]))]]) (args := [.loose ⟨0, 2, al, 0⟩ nl]) Try.envOk Try.mixed xH_ok ((I37 al nl ml tl vl)) ((V37 al nl ml tl vl)) (fun r => [newL (1 + 1) ((N37 al nl ml tl vl) r) ++ [(0, (false, .cols ml [.int .u8 tl, .int .u8 vl]))]]) (fn := mkFn Try.f37) (ts := [0, 3, 4, 5]) (n := 400) rfl (by decide) (by simp) (names_of rfl) ?_ ?_ ?_ h
  · intro s; cases s <;> exact ⟨hd_ok _ _, by simp [I37], names_of rfl, Nat.le_of_ble_eq_true rfl⟩
  · intro Kst Kret x hS hR h
    exact Holds.eq (te37 cond Kst Kret al nl ml tl vl) (be37 al nl ml tl vl Kst Kret x hS hR h)
  · intro Kst Kret x hS hR s h
    cases s with
    | h0 x0 x1 x2 => exact Holds.eq (t37_0 cond Kst Kret al nl ml tl vl x0 x1 x2) (b37_0 al nl ml tl vl Kst Kret x hS hR x0 x1 x2 h)
noncomputable def k37 : Con := ⟨37, [.one (.list [.int .u8, .int .u8])], fun (x : (Nat × Nat × Nat × (Nat → Int) × (Nat → Int) × Unit) × Unit) => (fun (al nl ml : Nat) (tl : Nat → Int) (vl : Nat → Int) => decide (al + nl ≤ ml ∧ nl ≤ 900000 ∧ S.bytes nl (fun j => tl (j + al)) = true ∧ S.bytes nl (fun j => vl (j + al)) = true)) x.1.1 x.1.2.1 x.1.2.2.1 x.1.2.2.2.1 x.1.2.2.2.2.1, fun (x : (Nat × Nat × Nat × (Nat → Int) × (Nat → Int) × Unit) × Unit) => (fun (al nl ml : Nat) (tl : Nat → Int) (vl : Nat → Int) => (V37 al nl ml tl vl) (S.stepsT nl (fun j => tl (j + al)) (fun j => vl (j + al)))) x.1.1 x.1.2.1 x.1.2.2.1 x.1.2.2.2.1 x.1.2.2.2.2.1, fun (x : (Nat × Nat × Nat × (Nat → Int) × (Nat → Int) × Unit) × Unit) => (fun (al nl ml : Nat) (tl : Nat → Int) (vl : Nat → Int) => (N37 al nl ml tl vl) (S.stepsT nl (fun j => tl (j + al)) (fun j => vl (j + al)))) x.1.1 x.1.2.1 x.1.2.2.1 x.1.2.2.2.1 x.1.2.2.2.2.1, fun _ _ => .dead⟩
set_option maxHeartbeats 1000000 in
theorem s37' (al nl ml : Nat) (tl : Nat → Int) (vl : Nat → Int) (hp : al + nl ≤ ml ∧ nl ≤ 900000 ∧ S.bytes nl (fun j => tl (j + al)) = true ∧ S.bytes nl (fun j => vl (j + al)) = true) : ∀ k i : Nat, i + k = nl → Comes (q37 al nl ml tl vl) (.h0 (S.sumT (fun j => tl (j + al)) i) (i : Int) (S.stepsT i (fun j => tl (j + al)) (fun j => vl (j + al)))) (S.stepsT nl (fun j => tl (j + al)) (fun j => vl (j + al))) := by
  obtain ⟨hp1, hp2, hp3, hp4⟩ := hp
  have hp3 := of_decide_eq_true hp3
  have hp4 := of_decide_eq_true hp4
  intro k
  induction k with
  | zero =>
    intro i hi
    obtain rfl : i = nl := by omega
    apply Comes.of
    show Goes _ _ _
    (first | rw [q37] | unfold q37)
    repeat' first
      | with_reducible refine goes_if (fun h => ?_) (fun h => ?_) <;> (try simp only [lim64, imp_false, decide_eq_true_eq, decide_eq_false_iff_not, Int.toNat_natCast, toNat_pred, toNat_succ, Option.getD_some, Option.getD_none, Bool.not_eq_true', Bool.not_eq_false', Bool.and_eq_true, Bool.or_eq_true, Bool.and_eq_false_iff, Bool.or_eq_false_iff, bne_iff_ne, beq_iff_eq, bne_eq_false_iff_eq, beq_eq_false_iff_ne, ne_eq, not_and, Int.not_le, Int.not_lt, ge_iff_le, gt_iff_lt, Nat.not_lt, Nat.not_le, Bool.not_eq_true, Bool.not_eq_false, Bool.true_eq_false, Bool.false_eq_true, not_false_eq_true, not_true_eq_false] at h)
      | exact goes_none.mpr (by omega)
    all_goals first | (exfalso; omega) | rfl
  | succ k ih =>
    intro i hi
    have ih := ih (i + 1) (by omega)
    have hl : (S.stepsT i (fun j => tl (j + al)) (fun j => vl (j + al))).length = i := mkl_len
    have hs := sumT_ok (t := fun j => tl (j + al)) (n := i) fun j hj => hp3 j (by omega)
    have hb := byte_facts (x := tl (i + al)) (hp3 i (by omega))
    have hc := byte_facts (x := vl (i + al)) (hp4 i (by omega))
    have e1 : S.stepsT (i + 1) (fun j => tl (j + al)) (fun j => vl (j + al)) = S.snoc (S.stepsT i (fun j => tl (j + al)) (fun j => vl (j + al))) (S.kdT (tl (i + al)), S.sumT (fun j => tl (j + al)) (i + 1), (vl (i + al)).tmod 32 - 16, decide (32 ≤ vl (i + al))) := mkl_succ
    rw [e1] at ih
    have e2 : S.sumT (fun j => tl (j + al)) (i + 1) = S.sumT (fun j => tl (j + al)) i + (tl (i + al)).tdiv 16 := rfl
    rw [e2] at ih
    generalize S.sumT (fun j => tl (j + al)) i = sm at *
    generalize S.stepsT i (fun j => tl (j + al)) (fun j => vl (j + al)) = L at *
    unfold S.kdT at ih
    apply Comes.of
    show Goes _ _ _
    (first | rw [q37] | unfold q37)
    repeat' first
      | with_reducible refine goes_if (fun h => ?_) (fun h => ?_) <;> (try simp only [lim64, imp_false, decide_eq_true_eq, decide_eq_false_iff_not, Int.toNat_natCast, toNat_pred, toNat_succ, Option.getD_some, Option.getD_none, Bool.not_eq_true', Bool.not_eq_false', Bool.and_eq_true, Bool.or_eq_true, Bool.and_eq_false_iff, Bool.or_eq_false_iff, bne_iff_ne, beq_iff_eq, bne_eq_false_iff_eq, beq_eq_false_iff_ne, ne_eq, not_and, Int.not_le, Int.not_lt, ge_iff_le, gt_iff_lt, Nat.not_lt, Nat.not_le, Bool.not_eq_true, Bool.not_eq_false, Bool.true_eq_false, Bool.false_eq_true, not_false_eq_true, not_true_eq_false, lim8] at h)
      | exact goes_none.mpr (by omega)
    all_goals first
      | (exfalso; omega)
      | (simp only [*, if_true, if_false, decide_true, show ¬ ((14 : Int) = 15) by decide] at ih; exact ih)
      | (simp only [*, if_true, if_false, decide_true, show ¬ ((14 : Int) = 15) by decide, show decide (32 ≤ vl (i + al)) = false from decide_eq_false (by omega)] at ih; exact ih)
theorem s37 (al nl ml : Nat) (tl : Nat → Int) (vl : Nat → Int) (hp : al + nl ≤ ml ∧ nl ≤ 900000 ∧ S.bytes nl (fun j => tl (j + al)) = true ∧ S.bytes nl (fun j => vl (j + al)) = true) : Goes ((q37 al nl ml tl vl)) ((p37 al nl ml tl vl)) (S.stepsT nl (fun j => tl (j + al)) (fun j => vl (j + al))) := by
  exact s37' al nl ml tl vl hp nl 0 (by omega)
theorem k37_ok : k37.ok Try.prog := by
  intro x hx
  obtain ⟨⟨al, nl, ml, tl, vl, _⟩, _⟩ := x
  obtain ⟨h1, h2⟩ := a37 al nl ml tl vl (s37 al nl ml tl vl (of_dec hx rfl))
  exact ⟨⟨400, (by decide : 1 + 1 + 1 ≤ 400), h1⟩, h2⟩
namespace S
def byte (x : Int) : Bool := decide (0 ≤ x ∧ x ≤ 255)
end S
theorem byte_mk {x : Int} (h : 0 ≤ x ∧ x ≤ 255) : S.byte x = true := decide_eq_true h
theorem bytes_mk {n : Nat} {t : Nat → Int} (h : ∀ j, j < n → 0 ≤ t j ∧ t j ≤ 255) : S.bytes n t = true := decide_eq_true h
namespace S
def ovN (nn i : Nat) : Int := if i ≤ nn then 0 else (i : Int) - nn
def lastN (row : Nat → Int × Int × Bool) (nn i : Nat) : List (Int × Int × Bool) := mkl (min i nn) fun j => row (j + (i - min i nn))
end S
theorem steps_rows {n : Nat} {t v : Nat → Int} (h : (∀ j, j < n → 0 ≤ t j ∧ t j ≤ 255) ∧ ∀ j, j < n → 0 ≤ v j ∧ v j ≤ 255) (hn : n ≤ 1000) : ∀ j, j < n → S.okS (S.sumT t (j + 1)) ((v j).tmod 32 - 16) = true ∧ (0 < j → S.sumT t j ≤ S.sumT t (j + 1)) := by
  intro j hj
  have h1 := sumT_ok (t := t) (n := j + 1) fun i hi => h.1 i (by omega)
  have h2 := byte_facts (h.2 j hj)
  have h3 := byte_facts (h.1 j hj)
  refine ⟨decide_eq_true (by omega), fun _ => ?_⟩
  simp only [S.sumT]
  omega
noncomputable def xFz (test : Bool → Prop → Prop → Prop) : Ext := consX test [k11, k37, k12, k15, k17, k29, k23, k21]
theorem xFz_ok : ExtOk Try.prog (xFz cond) := consX_ok ⟨k11_ok, k37_ok, k12_ok, k15_ok, k17_ok, k29_ok, k23_ok, k21_ok, trivial⟩
namespace S
def reF (nl af i : Nat) : Int := if i ≤ nl then -1 else ((nl + af : Nat) : Int) - ((min i (nl + af) : Nat) : Int)
def fzF (nl af i : Nat) : Bool := decide (nl < i ∧ nl + af ≤ i)
end S
theorem vb_gen {nn : Nat} {row : Nat → Row} {i : Nat} {af re : Int} {fz : Bool} (h1 : 1 ≤ nn) (h2 : nn ≤ 200) (hi : i ≤ 1000000) (ha : 0 ≤ af ∧ af ≤ 200) (hre : -1 ≤ re ∧ re ≤ af) (hf1 : fz = true → re = 0) (hf2 : re = 0 → fz = true) (hr : ∀ j, j < i → S.okS (row j).1 (row j).2.1 = true ∧ (0 < j → (row (j - 1)).1 ≤ (row j).1)) :
    S.vB nn af (S.lastN row nn i).length (fun j => (S.at' (S.lastN row nn i) j).1) (fun j => (S.at' (S.lastN row nn i) j).2.1) (S.ovN nn i) re fz = 0 := by
  unfold S.lastN
  rw [vB_mkl]
  have hE : S.errS (fun j => (row (j + (i - min i nn))).1) (fun j => (row (j + (i - min i nn))).2.1) 0 (min i nn) = 0 := (errS_ok _ 0).2 fun j _ hj => by
    obtain ⟨a, b⟩ := hr (j + (i - min i nn)) (by omega)
    refine ⟨a, fun h0 => ?_⟩
    have := b (by omega)
    rwa [show j + (i - min i nn) - 1 = j - 1 + (i - min i nn) by omega] at this
  have ho : S.ovN nn i = 0 ∧ i ≤ nn ∨ S.ovN nn i = (i : Int) - nn ∧ nn < i := by
    unfold S.ovN; split
    · exact .inl ⟨rfl, by assumption⟩
    · exact .inr ⟨rfl, by omega⟩
  unfold S.vB
  rw [if_pos (by omega), if_pos hE, if_pos (by omega), if_pos ⟨hf1, hf2, by omega⟩]
theorem put_gen {nn : Nat} {row : Nat → Row} {i : Nat} {af re : Int} (h1 : 1 ≤ nn) (h2 : nn ≤ 200) (hi : i ≤ 1000000) (ha : 0 ≤ af ∧ af ≤ 200) (hre : -1 ≤ re ∧ re ≤ af) (hne : re ≠ 0) (hr : ∀ j, j ≤ i → S.okS (row j).1 (row j).2.1 = true ∧ (0 < j → (row (j - 1)).1 ≤ (row j).1)) :
    S.putS nn af (S.lastN row nn i).length (fun j => (S.at' (S.lastN row nn i) j).1) (fun j => (S.at' (S.lastN row nn i) j).2.1) (fun j => (S.at' (S.lastN row nn i) j).2.2) (S.ovN nn i) re false (row i).1 (row i).2.1 (row i).2.2 = ((nn : Int), af, S.ovN nn (i + 1), (if 0 < re then re - 1 else re), (if re = 1 then true else false), 0, S.lastN row nn (i + 1)) := by
  have hV := vb_gen (nn := nn) (row := row) (i := i) (af := af) (re := re) (fz := false) h1 h2 hi ha hre (fun h => by cases h) (fun h => absurd h hne) fun j hj => hr j (by omega)
  unfold S.lastN at hV ⊢
  rw [vB_mkl] at hV
  rw [putS_mkl]
  have ho : S.ovN nn i = 0 ∧ i ≤ nn ∨ S.ovN nn i = (i : Int) - nn ∧ nn < i := by
    unfold S.ovN; split
    · exact .inl ⟨rfl, by assumption⟩
    · exact .inr ⟨rfl, by omega⟩
  have hP : S.putE nn af (min i nn) (fun j => (row (j + (i - min i nn))).1) (fun j => (row (j + (i - min i nn))).2.1) (S.ovN nn i) re false (row i).1 (row i).2.1 = 0 := by
    unfold S.putE
    rw [if_pos hV]
    simp only [Bool.false_eq_true, if_false]
    rw [if_pos (hr i (Nat.le_refl _)).1, if_neg (fun h => by
      have := (hr i (Nat.le_refl _)).2 (by omega)
      rw [show min i nn - 1 + (i - min i nn) = i - 1 by omega] at h
      omega), if_neg (by omega)]
  unfold S.putS
  rw [if_pos hP]
  by_cases hc : i < nn
  · have e1 : min i nn = i := by omega
    have e2 : min (i + 1) nn = i + 1 := by omega
    simp only [e1, e2]
    rw [if_neg (show ¬ (i : Int) = (nn : Int) by omega), if_neg (show ¬ (i : Int) = (nn : Int) by omega), mkl_succ]
    simp only [Nat.sub_self, Nat.add_zero]
    unfold S.ovN
    rw [if_pos (show i ≤ nn by omega), if_pos (show i + 1 ≤ nn by omega)]
  · have e1 : min i nn = nn := by omega
    have e2 : min (i + 1) nn = nn := by omega
    simp only [e1, e2]
    rw [if_pos trivial, if_pos trivial]
    obtain ⟨m, rfl⟩ : ∃ m, nn = m + 1 := ⟨nn - 1, by omega⟩
    rw [mkl_succ]
    have e3 : ∀ j, j + 1 + (i - (m + 1)) = j + (i + 1 - (m + 1)) := fun j => by omega
    simp only [Nat.add_sub_cancel, e3, show m + (i - m) = i by omega]
    have e4 : S.ovN (m + 1) i + 1 = S.ovN (m + 1) (i + 1) := by
      unfold S.ovN
      rw [if_neg (show ¬ i + 1 ≤ m + 1 by omega)]
      split <;> omega
    rw [e4]
    simp only [show i + 1 - (m + 1) = i - m by omega, show m + (i - m) = i by omega]
theorem put_fz {nn : Nat} {row : Nat → Row} {i : Nat} {af : Int} {a b : Int} {c : Bool} (h1 : 1 ≤ nn) (h2 : nn ≤ 200) (hi : i ≤ 1000000) (ha : 0 ≤ af ∧ af ≤ 200) (hr : ∀ j, j < i → S.okS (row j).1 (row j).2.1 = true ∧ (0 < j → (row (j - 1)).1 ≤ (row j).1)) :
    S.putS nn af (S.lastN row nn i).length (fun j => (S.at' (S.lastN row nn i) j).1) (fun j => (S.at' (S.lastN row nn i) j).2.1) (fun j => (S.at' (S.lastN row nn i) j).2.2) (S.ovN nn i) 0 true a b c = S.noB 8 := by
  have hV := vb_gen (nn := nn) (row := row) (i := i) (af := af) (re := 0) (fz := true) h1 h2 hi ha (by omega) (fun _ => rfl) (fun _ => rfl) hr
  have hP : S.putE nn af (S.lastN row nn i).length (fun j => (S.at' (S.lastN row nn i) j).1) (fun j => (S.at' (S.lastN row nn i) j).2.1) (S.ovN nn i) 0 true a b = 8 := by
    unfold S.putE
    rw [if_pos hV, if_pos rfl]
  unfold S.putS
  rw [hP, if_neg (by decide)]
theorem frz_gen {nn : Nat} {row : Nat → Row} {i : Nat} {af re x : Int} {fz : Bool} (h1 : 1 ≤ nn) (h2 : nn ≤ 200) (hi : i ≤ 1000000) (ha : 0 ≤ af ∧ af ≤ 200) (hre : -1 ≤ re ∧ re ≤ af) (hf1 : fz = true → re = 0) (hf2 : re = 0 → fz = true) (hx : 0 ≤ x ∧ x ≤ 1099511627776) (hr : ∀ j, j < i → S.okS (row j).1 (row j).2.1 = true ∧ (0 < j → (row (j - 1)).1 ≤ (row j).1)) :
    S.frzS nn af (S.lastN row nn i).length (fun j => (S.at' (S.lastN row nn i) j).1) (fun j => (S.at' (S.lastN row nn i) j).2.1) (fun j => (S.at' (S.lastN row nn i) j).2.2) (S.ovN nn i) re fz x = ((nn : Int), af, S.ovN nn i, (if re = -1 then af else re), (if re = -1 then (if af = 0 then true else false) else fz), 0, S.lastN row nn i) := by
  unfold S.frzS
  rw [if_pos (vb_gen h1 h2 hi ha hre hf1 hf2 hr), if_pos hx, mkl3_at]
noncomputable abbrev c9_0_0 (x3 : Int) (x4 : Int) (x5 : Int) (x6 : Int) (x7 : Bool) (x9 : List (Int × Int × Bool)) :=
 S.frzS x3 x4 (List.length x9) (fun j => (S.at' x9 j).1)
 (fun j => (S.at' x9 j).2.1)
 (fun j => (S.at' x9 j).2.2) x5 x6 x7 (0 : Int)
noncomputable abbrev c9_0_1 (x3 : Int) (x4 : Int) (x5 : Int) (x6 : Int) (x7 : Bool) (x9 : List (Int × Int × Bool)) :=
 Prod.snd
 (Prod.snd
 (Prod.snd
 (S.frzS x3 x4 (List.length x9)
 (fun j => (S.at' x9 j).1)
 (fun j => (S.at' x9 j).2.1)
 (fun j => (S.at' x9 j).2.2) x5 x6 x7
 (0 : Int))))
noncomputable abbrev c9_0_2 (x3 : Int) (x4 : Int) (x5 : Int) (x6 : Int) (x7 : Bool) (x9 : List (Int × Int × Bool)) :=
 (Prod.snd
 (if
 S.vB x3 x4 (List.length x9) (fun j => (S.at' x9 j).1)
 (fun j => (S.at' x9 j).2.1) x5 x6 x7 =
 (0 : Int) then
 (x5, (0 : Int),
 S.mkl (List.length x9) fun j =>
 ((S.at' x9 j).1, (S.at' x9 j).2.1,
 (S.at' x9 j).2.2))
 else
 ((0 : Int),
 S.vB x3 x4 (List.length x9) (fun j => (S.at' x9 j).1)
 (fun j => (S.at' x9 j).2.1) x5 x6 x7,
 [])))
noncomputable abbrev c9_0_3 (x3 : Int) (x4 : Int) (x5 : Int) (x6 : Int) (x7 : Bool) (x9 : List (Int × Int × Bool)) :=
 Prod.snd
 (Prod.snd
 (Prod.snd
 (Prod.snd
 (Prod.snd
 (Prod.snd
 (S.frzS
 (Prod.fst
 (S.frzS x3 x4 (List.length x9)
 (fun j => (S.at' x9 j).1)
 (fun j => (S.at' x9 j).2.1)
 (fun j => (S.at' x9 j).2.2) x5 x6 x7 (0 : Int)))
 (Prod.fst
 (Prod.snd
 (S.frzS x3 x4 (List.length x9)
 (fun j => (S.at' x9 j).1)
 (fun j => (S.at' x9 j).2.1)
 (fun j => (S.at' x9 j).2.2) x5 x6 x7
 (0 : Int))))
 (List.length
 (Prod.snd
 (Prod.snd
 (Prod.snd
 (c9_0_1 x3 x4 x5 x6 x7 x9)))))
 (fun j =>
 Prod.fst
 (S.at'
 (Prod.snd
 (Prod.snd
 (Prod.snd
 (Prod.snd
 (Prod.snd
 (Prod.snd
 (S.frzS x3 x4 (List.length x9)
 (fun j => (S.at' x9 j).1)
 (fun j => (S.at' x9 j).2.1)
 (fun j => (S.at' x9 j).2.2) x5
 x6 x7 (0 : Int))))))))
 j))
 (fun j =>
 Prod.fst
 (Prod.snd
 (S.at'
 (Prod.snd
 (Prod.snd
 (Prod.snd
 (Prod.snd
 (Prod.snd
 (Prod.snd
 (S.frzS x3 x4 (List.length x9)
 (fun j => (S.at' x9 j).1)
 (fun j => (S.at' x9 j).2.1)
 (fun j => (S.at' x9 j).2.2) x5
 x6 x7 (0 : Int))))))))
 j)))
 (fun j =>
 Prod.snd
 (Prod.snd
 (S.at'
 (Prod.snd
 (Prod.snd
 (Prod.snd
 (Prod.snd
 (Prod.snd
 (Prod.snd
 (S.frzS x3 x4 (List.length x9)
 (fun j => (S.at' x9 j).1)
 (fun j => (S.at' x9 j).2.1)
 (fun j => (S.at' x9 j).2.2) x5
 x6 x7 (0 : Int))))))))
 j)))
 (Prod.fst
 (Prod.snd
 (Prod.snd
 (S.frzS x3 x4 (List.length x9)
 (fun j => (S.at' x9 j).1)
 (fun j => (S.at' x9 j).2.1)
 (fun j => (S.at' x9 j).2.2) x5 x6 x7
 (0 : Int)))))
 (Prod.fst
 (c9_0_1 x3 x4 x5 x6 x7 x9))
 (Prod.fst
 (Prod.snd
 (c9_0_1 x3 x4 x5 x6 x7 x9)))
 (1 : Int)))))))
noncomputable abbrev c9_0_4 (x2 : Int) (x3 : Int) (x4 : Int) (x5 : Int) (x6 : Int) (x7 : Bool) (x8 : List (Int × Int × Int × Bool)) (x9 : List (Int × Int × Bool)) :=
 S.putS
 (Prod.fst
 (c9_0_0 x3 x4 x5 x6 x7 x9))
 (Prod.fst
 (Prod.snd
 (c9_0_0 x3 x4 x5 x6 x7 x9)))
 (List.length
 (Prod.snd
 (Prod.snd
 (Prod.snd
 (Prod.snd
 (Prod.snd
 (Prod.snd
 (c9_0_0 x3 x4 x5 x6 x7 x9))))))))
 (fun j =>
 Prod.fst
 (S.at'
 (Prod.snd
 (Prod.snd
 (Prod.snd
 (Prod.snd
 (Prod.snd
 (Prod.snd
 (c9_0_0 x3 x4 x5 x6 x7 x9)))))))
 j))
 (fun j =>
 Prod.fst
 (Prod.snd
 (S.at'
 (Prod.snd
 (Prod.snd
 (Prod.snd
 (Prod.snd
 (Prod.snd
 (Prod.snd
 (S.frzS x3 x4 (List.length x9) (fun j => (S.at' x9 j).1)
 (fun j => (S.at' x9 j).2.1)
 (fun j => (S.at' x9 j).2.2) x5 x6 x7
 (0 : Int))))))))
 j)))
 (fun j =>
 Prod.snd
 (Prod.snd
 (S.at'
 (Prod.snd
 (Prod.snd
 (Prod.snd
 (Prod.snd
 (Prod.snd
 (Prod.snd
 (S.frzS x3 x4 (List.length x9) (fun j => (S.at' x9 j).1)
 (fun j => (S.at' x9 j).2.1)
 (fun j => (S.at' x9 j).2.2) x5 x6 x7
 (0 : Int))))))))
 j)))
 (Prod.fst
 (Prod.snd
 (Prod.snd
 (c9_0_0 x3 x4 x5 x6 x7 x9))))
 (Prod.fst
 (Prod.snd
 (Prod.snd
 (Prod.snd
 (c9_0_0 x3 x4 x5 x6 x7 x9)))))
 (Prod.fst
 (Prod.snd
 (Prod.snd
 (Prod.snd
 (Prod.snd
 (c9_0_0 x3 x4 x5 x6 x7 x9))))))
 ((S.at' x8 (Int.toNat x2)).2.1)
 ((S.at' x8 (Int.toNat x2)).2.2.1)
 ((S.at' x8 (Int.toNat x2)).2.2.2)
noncomputable abbrev c9_0_5 (x2 : Int) (x3 : Int) (x4 : Int) (x5 : Int) (x6 : Int) (x7 : Bool) (x8 : List (Int × Int × Int × Bool)) (x9 : List (Int × Int × Bool)) :=
 S.putS
 (Prod.fst
 (c9_0_0 x3 x4 x5 x6 x7 x9))
 (Prod.fst
 (Prod.snd
 (c9_0_0 x3 x4 x5 x6 x7 x9)))
 (List.length
 (Prod.snd
 (Prod.snd
 (Prod.snd
 (Prod.snd
 (Prod.snd
 (Prod.snd
 (c9_0_0 x3 x4 x5 x6 x7 x9))))))))
 (fun j =>
 Prod.fst
 (S.at'
 (Prod.snd
 (Prod.snd
 (Prod.snd
 (Prod.snd
 (Prod.snd
 (Prod.snd
 (c9_0_0 x3 x4 x5 x6 x7 x9)))))))
 j))
 (fun j =>
 Prod.fst
 (Prod.snd
 (S.at'
 (Prod.snd
 (Prod.snd
 (Prod.snd
 (Prod.snd
 (Prod.snd
 (Prod.snd
 (c9_0_0 x3 x4 x5 x6 x7 x9)))))))
 j)))
 (fun j =>
 Prod.snd
 (Prod.snd
 (S.at'
 (Prod.snd
 (Prod.snd
 (Prod.snd
 (Prod.snd
 (Prod.snd
 (Prod.snd
 (c9_0_0 x3 x4 x5 x6 x7 x9)))))))
 j)))
 (Prod.fst
 (Prod.snd
 (Prod.snd
 (c9_0_0 x3 x4 x5 x6 x7 x9))))
 (Prod.fst
 (Prod.snd
 (Prod.snd
 (Prod.snd
 (c9_0_0 x3 x4 x5 x6 x7 x9)))))
 (Prod.fst
 (Prod.snd
 (Prod.snd
 (Prod.snd
 (Prod.snd
 (c9_0_0 x3 x4 x5 x6 x7 x9))))))
 ((S.at' x8 (Int.toNat x2)).2.1)
 ((S.at' x8 (Int.toNat x2)).2.2.1)
 ((S.at' x8 (Int.toNat x2)).2.2.2)
noncomputable abbrev c9_0_6 (x3 : Int) (x4 : Int) (x5 : Int) (x6 : Int) (x7 : Bool) (x9 : List (Int × Int × Bool)) :=
 Prod.snd
 (Prod.snd
 (Prod.snd
 (Prod.snd
 (S.frzS
 (Prod.fst
 (c9_0_0 x3 x4 x5 x6 x7 x9))
 (Prod.fst
 (Prod.snd
 (c9_0_0 x3 x4 x5 x6 x7 x9)))
 (List.length
 (Prod.snd
 (Prod.snd
 (Prod.snd
 (c9_0_1 x3 x4 x5 x6 x7 x9)))))
 (fun j =>
 Prod.fst
 (S.at'
 (Prod.snd
 (Prod.snd
 (Prod.snd
 (c9_0_1 x3 x4 x5 x6 x7 x9))))
 j))
 (fun j =>
 Prod.fst
 (Prod.snd
 (S.at'
 (Prod.snd
 (Prod.snd
 (Prod.snd
 (c9_0_1 x3 x4 x5 x6 x7 x9))))
 j)))
 (fun j =>
 Prod.snd
 (Prod.snd
 (S.at'
 (Prod.snd
 (Prod.snd
 (Prod.snd
 (c9_0_1 x3 x4 x5 x6 x7 x9))))
 j)))
 (Prod.fst
 (Prod.snd
 (Prod.snd
 (c9_0_0 x3 x4 x5 x6 x7 x9))))
 (Prod.fst
 (Prod.snd
 (Prod.snd
 (Prod.snd
 (c9_0_0 x3 x4 x5 x6 x7 x9)))))
 (Prod.fst
 (Prod.snd
 (Prod.snd
 (Prod.snd
 (Prod.snd
 (c9_0_0 x3 x4 x5 x6 x7 x9))))))
 (1 : Int)))))
noncomputable abbrev c9_0_7 (x2 : Int) (x3 : Int) (x4 : Int) (x5 : Int) (x6 : Int) (x7 : Bool) (x8 : List (Int × Int × Int × Bool)) (x9 : List (Int × Int × Bool)) :=
 S.putS x3 x4 (List.length x9) (fun j => (S.at' x9 j).1)
 (fun j => (S.at' x9 j).2.1)
 (fun j => (S.at' x9 j).2.2) x5 x6 x7
 ((S.at' x8 (Int.toNat x2)).2.1)
 ((S.at' x8 (Int.toNat x2)).2.2.1)
 ((S.at' x8 (Int.toNat x2)).2.2.2)
noncomputable abbrev c9_0_8 (x3 : Int) (x4 : Int) (x5 : Int) (x6 : Int) (x7 : Bool) (x9 : List (Int × Int × Bool)) :=
 Prod.snd
 (Prod.snd
 (Prod.snd
 (Prod.snd
 (Prod.snd
 (Prod.snd
 (S.frzS x3 x4 (List.length x9) (fun j => (S.at' x9 j).1)
 (fun j => (S.at' x9 j).2.1)
 (fun j => (S.at' x9 j).2.2) x5 x6 x7
 (0 : Int)))))))
noncomputable abbrev c9_0_9 (x3 : Int) (x4 : Int) (x5 : Int) (x6 : Int) (x7 : Bool) (x9 : List (Int × Int × Bool)) :=
 Prod.snd
 (Prod.snd
 (Prod.snd
 (Prod.snd
 (Prod.snd
 (Prod.snd
 (c9_0_0 x3 x4 x5 x6 x7 x9))))))
noncomputable abbrev c9_0_10 (x3 : Int) (x4 : Int) (x5 : Int) (x6 : Int) (x7 : Bool) (x9 : List (Int × Int × Bool)) :=
 (S.mkl
 (List.length
 (Prod.snd
 (Prod.snd
 (Prod.snd
 (Prod.snd
 (Prod.snd
 (Prod.snd
 (S.frzS
 (Prod.fst
 (c9_0_0 x3 x4 x5 x6 x7 x9))
 (Prod.fst
 (Prod.snd
 (c9_0_0 x3 x4 x5 x6 x7 x9)))
 (List.length
 (Prod.snd
 (Prod.snd
 (Prod.snd
 (c9_0_1 x3 x4 x5 x6 x7 x9)))))
 (fun j =>
 Prod.fst
 (S.at'
 (Prod.snd
 (Prod.snd
 (Prod.snd
 (c9_0_1 x3 x4 x5 x6 x7 x9))))
 j))
 (fun j =>
 Prod.fst
 (Prod.snd
 (S.at'
 (Prod.snd
 (Prod.snd
 (Prod.snd
 (c9_0_1 x3 x4 x5 x6 x7 x9))))
 j)))
 (fun j =>
 Prod.snd
 (Prod.snd
 (S.at'
 (Prod.snd
 (Prod.snd
 (Prod.snd
 (c9_0_1 x3 x4 x5 x6 x7 x9))))
 j)))
 (Prod.fst
 (Prod.snd
 (Prod.snd
 (S.frzS x3 x4 (List.length x9)
 (fun j => (S.at' x9 j).1)
 (fun j => (S.at' x9 j).2.1)
 (fun j => (S.at' x9 j).2.2) x5 x6 x7 (0 : Int)))))
 (Prod.fst
 (c9_0_1 x3 x4 x5 x6 x7 x9))
 (Prod.fst
 (Prod.snd
 (c9_0_1 x3 x4 x5 x6 x7 x9)))
 (1 : Int)))))))))
 fun j =>
 (Prod.fst
 (S.at'
 (Prod.snd
 (Prod.snd
 (Prod.snd
 (Prod.snd
 (Prod.snd
 (Prod.snd
 (S.frzS
 (Prod.fst
 (S.frzS x3 x4 (List.length x9)
 (fun j => (S.at' x9 j).1)
 (fun j => (S.at' x9 j).2.1)
 (fun j => (S.at' x9 j).2.2) x5 x6 x7 (0 : Int)))
 (Prod.fst
 (Prod.snd
 (S.frzS x3 x4 (List.length x9)
 (fun j => (S.at' x9 j).1)
 (fun j => (S.at' x9 j).2.1)
 (fun j => (S.at' x9 j).2.2) x5 x6 x7
 (0 : Int))))
 (List.length
 (Prod.snd
 (Prod.snd
 (Prod.snd
 (c9_0_1 x3 x4 x5 x6 x7 x9)))))
 (fun j =>
 Prod.fst
 (S.at'
 (Prod.snd
 (Prod.snd
 (Prod.snd
 (Prod.snd
 (Prod.snd
 (Prod.snd
 (S.frzS x3 x4 (List.length x9)
 (fun j => (S.at' x9 j).1)
 (fun j => (S.at' x9 j).2.1)
 (fun j => (S.at' x9 j).2.2) x5 x6
 x7 (0 : Int))))))))
 j))
 (fun j =>
 Prod.fst
 (Prod.snd
 (S.at'
 (Prod.snd
 (Prod.snd
 (Prod.snd
 (Prod.snd
 (Prod.snd
 (Prod.snd
 (S.frzS x3 x4 (List.length x9)
 (fun j => (S.at' x9 j).1)
 (fun j => (S.at' x9 j).2.1)
 (fun j => (S.at' x9 j).2.2) x5
 x6 x7 (0 : Int))))))))
 j)))
 (fun j =>
 Prod.snd
 (Prod.snd
 (S.at'
 (Prod.snd
 (Prod.snd
 (Prod.snd
 (Prod.snd
 (Prod.snd
 (Prod.snd
 (S.frzS x3 x4 (List.length x9)
 (fun j => (S.at' x9 j).1)
 (fun j => (S.at' x9 j).2.1)
 (fun j => (S.at' x9 j).2.2) x5
 x6 x7 (0 : Int))))))))
 j)))
 (Prod.fst
 (Prod.snd
 (Prod.snd
 (S.frzS x3 x4 (List.length x9)
 (fun j => (S.at' x9 j).1)
 (fun j => (S.at' x9 j).2.1)
 (fun j => (S.at' x9 j).2.2) x5 x6 x7
 (0 : Int)))))
 (Prod.fst
 (c9_0_1 x3 x4 x5 x6 x7 x9))
 (Prod.fst
 (Prod.snd
 (c9_0_1 x3 x4 x5 x6 x7 x9)))
 (1 : Int))))))))
 j),
 Prod.fst
 (Prod.snd
 (S.at'
 (c9_0_3 x3 x4 x5 x6 x7 x9)
 j)),
 Prod.snd
 (Prod.snd
 (S.at'
 (c9_0_3 x3 x4 x5 x6 x7 x9)
 j))))
noncomputable abbrev c9_0_11 (x3 : Int) (x4 : Int) (x5 : Int) (x6 : Int) (x7 : Bool) (x9 : List (Int × Int × Bool)) :=
 (decide
 (Prod.fst
 (S.frzS
 (Prod.fst
 (c9_0_0 x3 x4 x5 x6 x7 x9))
 (Prod.fst
 (Prod.snd
 (c9_0_0 x3 x4 x5 x6 x7 x9)))
 (List.length
 (c9_0_9 x3 x4 x5 x6 x7 x9))
 (fun j =>
 Prod.fst
 (S.at'
 (c9_0_9 x3 x4 x5 x6 x7 x9)
 j))
 (fun j =>
 Prod.fst
 (Prod.snd
 (S.at'
 (c9_0_9 x3 x4 x5 x6 x7 x9)
 j)))
 (fun j =>
 Prod.snd
 (Prod.snd
 (S.at'
 (c9_0_9 x3 x4 x5 x6 x7 x9)
 j)))
 (Prod.fst
 (Prod.snd
 (Prod.snd
 (c9_0_0 x3 x4 x5 x6 x7 x9))))
 (Prod.fst
 (Prod.snd
 (Prod.snd
 (Prod.snd
 (c9_0_0 x3 x4 x5 x6 x7 x9)))))
 (Prod.fst
 (Prod.snd
 (Prod.snd
 (Prod.snd
 (Prod.snd
 (c9_0_0 x3 x4 x5 x6 x7 x9))))))
 (1 : Int)) =
 Prod.fst
 (c9_0_0 x3 x4 x5 x6 x7 x9) ∧
 Prod.fst
 (Prod.snd
 (S.frzS
 (Prod.fst
 (c9_0_0 x3 x4 x5 x6 x7 x9))
 (Prod.fst
 (Prod.snd
 (c9_0_0 x3 x4 x5 x6 x7 x9)))
 (List.length
 (c9_0_9 x3 x4 x5 x6 x7 x9))
 (fun j =>
 Prod.fst
 (S.at'
 (c9_0_9 x3 x4 x5 x6 x7 x9)
 j))
 (fun j =>
 Prod.fst
 (Prod.snd
 (S.at'
 (c9_0_9 x3 x4 x5 x6 x7 x9)
 j)))
 (fun j =>
 Prod.snd
 (Prod.snd
 (S.at'
 (c9_0_9 x3 x4 x5 x6 x7 x9)
 j)))
 (Prod.fst
 (Prod.snd
 (Prod.snd
 (c9_0_0 x3 x4 x5 x6 x7 x9))))
 (Prod.fst
 (Prod.snd
 (Prod.snd
 (Prod.snd
 (c9_0_0 x3 x4 x5 x6 x7 x9)))))
 (Prod.fst
 (Prod.snd
 (Prod.snd
 (Prod.snd
 (Prod.snd
 (c9_0_0 x3 x4 x5 x6 x7 x9))))))
 (1 : Int))) =
 Prod.fst
 (Prod.snd
 (c9_0_0 x3 x4 x5 x6 x7 x9)) ∧
 Prod.fst
 (Prod.snd
 (Prod.snd
 (S.frzS
 (Prod.fst
 (c9_0_0 x3 x4 x5 x6 x7 x9))
 (Prod.fst
 (Prod.snd
 (c9_0_0 x3 x4 x5 x6 x7 x9)))
 (List.length
 (c9_0_9 x3 x4 x5 x6 x7 x9))
 (fun j =>
 Prod.fst
 (S.at'
 (c9_0_8 x3 x4 x5 x6 x7 x9)
 j))
 (fun j =>
 Prod.fst
 (Prod.snd
 (S.at'
 (Prod.snd
 (Prod.snd
 (Prod.snd
 (c9_0_1 x3 x4 x5 x6 x7 x9))))
 j)))
 (fun j =>
 Prod.snd
 (Prod.snd
 (S.at'
 (Prod.snd
 (Prod.snd
 (Prod.snd
 (c9_0_1 x3 x4 x5 x6 x7 x9))))
 j)))
 (Prod.fst
 (Prod.snd
 (Prod.snd
 (c9_0_0 x3 x4 x5 x6 x7 x9))))
 (Prod.fst
 (Prod.snd
 (Prod.snd
 (Prod.snd
 (c9_0_0 x3 x4 x5 x6 x7 x9)))))
 (Prod.fst
 (Prod.snd
 (Prod.snd
 (Prod.snd
 (Prod.snd
 (c9_0_0 x3 x4 x5 x6 x7 x9))))))
 (1 : Int)))) =
 Prod.fst
 (Prod.snd
 (Prod.snd
 (c9_0_0 x3 x4 x5 x6 x7 x9))) ∧
 Prod.fst
 (Prod.snd
 (Prod.snd
 (Prod.snd
 (S.frzS
 (Prod.fst
 (c9_0_0 x3 x4 x5 x6 x7 x9))
 (Prod.fst
 (Prod.snd
 (c9_0_0 x3 x4 x5 x6 x7 x9)))
 (List.length
 (c9_0_8 x3 x4 x5 x6 x7 x9))
 (fun j =>
 Prod.fst
 (S.at'
 (Prod.snd
 (Prod.snd
 (Prod.snd
 (c9_0_1 x3 x4 x5 x6 x7 x9))))
 j))
 (fun j =>
 Prod.fst
 (Prod.snd
 (S.at'
 (Prod.snd
 (Prod.snd
 (Prod.snd
 (c9_0_1 x3 x4 x5 x6 x7 x9))))
 j)))
 (fun j =>
 Prod.snd
 (Prod.snd
 (S.at'
 (Prod.snd
 (Prod.snd
 (Prod.snd
 (c9_0_1 x3 x4 x5 x6 x7 x9))))
 j)))
 (Prod.fst
 (Prod.snd
 (Prod.snd
 (c9_0_0 x3 x4 x5 x6 x7 x9))))
 (Prod.fst
 (Prod.snd
 (Prod.snd
 (Prod.snd
 (c9_0_0 x3 x4 x5 x6 x7 x9)))))
 (Prod.fst
 (Prod.snd
 (Prod.snd
 (Prod.snd
 (Prod.snd
 (c9_0_0 x3 x4 x5 x6 x7 x9))))))
 (1 : Int))))) =
 Prod.fst
 (Prod.snd
 (Prod.snd
 (Prod.snd
 (c9_0_0 x3 x4 x5 x6 x7 x9)))) ∧
 Prod.fst
 (c9_0_6 x3 x4 x5 x6 x7 x9) =
 Prod.fst
 (Prod.snd
 (Prod.snd
 (Prod.snd
 (Prod.snd
 (c9_0_0 x3 x4 x5 x6 x7 x9))))) ∧
 (c9_0_10 x3 x4 x5 x6 x7 x9) =
 S.mkl
 (List.length
 (c9_0_9 x3 x4 x5 x6 x7 x9))
 fun j =>
 (Prod.fst
 (S.at'
 (c9_0_9 x3 x4 x5 x6 x7 x9)
 j),
 Prod.fst
 (Prod.snd
 (S.at'
 (c9_0_8 x3 x4 x5 x6 x7 x9)
 j)),
 Prod.snd
 (Prod.snd
 (S.at'
 (c9_0_8 x3 x4 x5 x6 x7 x9)
 j)))))
noncomputable abbrev c9_0_12 (x3 : Int) (x4 : Int) (x5 : Int) (x6 : Int) (x7 : Bool) (x9 : List (Int × Int × Bool)) :=
 S.frzS x3 x4 (List.length x9) (fun j => (S.at' x9 j).1)
 (fun j => (S.at' x9 j).2.1)
 (fun j => (S.at' x9 j).2.2) x5 x6 x7 (1 : Int)
noncomputable abbrev c9_0_13 (x3 : Int) (x4 : Int) (x5 : Int) (x6 : Int) (x7 : Bool) (x9 : List (Int × Int × Bool)) :=
 (decide
 (Prod.fst
 (c9_0_12 x3 x4 x5 x6 x7 x9) =
 x3 ∧
 Prod.fst
 (Prod.snd
 (c9_0_12 x3 x4 x5 x6 x7 x9)) =
 x4 ∧
 Prod.fst
 (Prod.snd
 (Prod.snd
 (c9_0_12 x3 x4 x5 x6 x7 x9))) =
 x5 ∧
 Prod.fst
 (Prod.snd
 (Prod.snd
 (Prod.snd
 (c9_0_12 x3 x4 x5 x6 x7 x9)))) =
 x6 ∧
 Prod.fst
 (Prod.snd
 (Prod.snd
 (Prod.snd
 (Prod.snd
 (c9_0_12 x3 x4 x5 x6 x7 x9))))) =
 x7 ∧
 (S.mkl
 (List.length
 (Prod.snd
 (Prod.snd
 (Prod.snd
 (Prod.snd
 (Prod.snd
 (Prod.snd
 (c9_0_12 x3 x4 x5 x6 x7 x9))))))))
 fun j =>
 (Prod.fst
 (S.at'
 (Prod.snd
 (Prod.snd
 (Prod.snd
 (Prod.snd
 (Prod.snd
 (Prod.snd
 (c9_0_12 x3 x4 x5 x6 x7 x9)))))))
 j),
 Prod.fst
 (Prod.snd
 (S.at'
 (Prod.snd
 (Prod.snd
 (Prod.snd
 (Prod.snd
 (Prod.snd
 (Prod.snd
 (S.frzS x3 x4 (List.length x9) (fun j => (S.at' x9 j).1)
 (fun j => (S.at' x9 j).2.1)
 (fun j => (S.at' x9 j).2.2) x5 x6 x7
 (1 : Int))))))))
 j)),
 Prod.snd
 (Prod.snd
 (S.at'
 (Prod.snd
 (Prod.snd
 (Prod.snd
 (Prod.snd
 (Prod.snd
 (Prod.snd
 (S.frzS x3 x4 (List.length x9) (fun j => (S.at' x9 j).1)
 (fun j => (S.at' x9 j).2.1)
 (fun j => (S.at' x9 j).2.2) x5 x6 x7
 (1 : Int))))))))
 j)))) =
 S.mkl (List.length x9) fun j =>
 ((S.at' x9 j).1, (S.at' x9 j).2.1,
 (S.at' x9 j).2.2)))
noncomputable abbrev c9_0_14 (x3 : Int) (x4 : Int) (x5 : Int) (x6 : Int) (x7 : Bool) (x9 : List (Int × Int × Bool)) :=
 decide
 (0 +
 List.length
 (Prod.snd
 (Prod.snd
 (c9_0_6 x3 x4 x5 x6 x7 x9))) ≤
 List.length
 (Prod.snd
 (Prod.snd
 (Prod.snd
 (Prod.snd
 (Prod.snd
 (Prod.snd
 (S.frzS
 (Prod.fst
 (c9_0_0 x3 x4 x5 x6 x7 x9))
 (Prod.fst
 (Prod.snd
 (c9_0_0 x3 x4 x5 x6 x7 x9)))
 (List.length
 (c9_0_8 x3 x4 x5 x6 x7 x9))
 (fun j =>
 Prod.fst
 (S.at'
 (Prod.snd
 (Prod.snd
 (Prod.snd
 (c9_0_1 x3 x4 x5 x6 x7 x9))))
 j))
 (fun j =>
 Prod.fst
 (Prod.snd
 (S.at'
 (Prod.snd
 (Prod.snd
 (Prod.snd
 (c9_0_1 x3 x4 x5 x6 x7 x9))))
 j)))
 (fun j =>
 Prod.snd
 (Prod.snd
 (S.at'
 (Prod.snd
 (Prod.snd
 (Prod.snd
 (c9_0_1 x3 x4 x5 x6 x7 x9))))
 j)))
 (Prod.fst
 (Prod.snd
 (Prod.snd
 (c9_0_0 x3 x4 x5 x6 x7 x9))))
 (Prod.fst
 (Prod.snd
 (Prod.snd
 (Prod.snd
 (c9_0_0 x3 x4 x5 x6 x7 x9)))))
 (Prod.fst
 (Prod.snd
 (Prod.snd
 (Prod.snd
 (Prod.snd
 (c9_0_0 x3 x4 x5 x6 x7 x9))))))
 (1 : Int)))))))) ∧
 List.length
 (Prod.snd
 (Prod.snd
 (c9_0_6 x3 x4 x5 x6 x7 x9))) ≤
 1000000 ∧
 0 +
 List.length
 (c9_0_9 x3 x4 x5 x6 x7 x9) ≤
 List.length
 (c9_0_9 x3 x4 x5 x6 x7 x9) ∧
 List.length
 (c9_0_9 x3 x4 x5 x6 x7 x9) ≤
 1000000)
noncomputable abbrev c9_0_15 (c0 : Int) (x3 : Int) (x4 : Int) (x5 : Int) (x6 : Int) (x7 : Bool) (x9 : List (Int × Int × Bool)) (x10 : List (Int × Int × Bool)) :=
 (decide
 ((S.mkl
 (List.length
 (Prod.snd
 (c9_0_2 x3 x4 x5 x6 x7 x9)))
 fun j =>
 (Prod.fst
 (S.at'
 (Prod.snd
 (c9_0_2 x3 x4 x5 x6 x7 x9))
 j),
 Prod.fst
 (Prod.snd
 (S.at'
 (Prod.snd
 (c9_0_2 x3 x4 x5 x6 x7 x9))
 j)),
 Prod.snd
 (Prod.snd
 (S.at'
 (Prod.snd
 (c9_0_2 x3 x4 x5 x6 x7 x9))
 j)))) =
 S.mkl
 (List.length x10 -
 Int.toNat (Max.max (0 : Int) ((↑(List.length x10) : Int) - ((1 : Int) + Int.tmod c0 (10 : Int)))))
 fun j =>
 (Prod.fst
 (S.at' x10
 (j + Int.toNat (Max.max (0 : Int) ((↑(List.length x10) : Int) - ((1 : Int) + Int.tmod c0 (10 : Int)))))),
 Prod.fst
 (Prod.snd
 (S.at' x10
 (j + Int.toNat (Max.max (0 : Int) ((↑(List.length x10) : Int) - ((1 : Int) + Int.tmod c0 (10 : Int))))))),
 Prod.snd
 (Prod.snd
 (S.at' x10
 (j +
 Int.toNat (Max.max (0 : Int) ((↑(List.length x10) : Int) - ((1 : Int) + Int.tmod c0 (10 : Int))))))))))
noncomputable abbrev c9_0_16 (x3 : Int) (x4 : Int) (x5 : Int) (x6 : Int) (x7 : Bool) (x9 : List (Int × Int × Bool)) :=
 Prod.fst
 (Prod.snd
 (Prod.snd
 (Prod.snd
 (Prod.snd
 (Prod.snd
 (S.frzS
 (Prod.fst
 (c9_0_0 x3 x4 x5 x6 x7 x9))
 (Prod.fst
 (Prod.snd
 (c9_0_0 x3 x4 x5 x6 x7 x9)))
 (List.length
 (c9_0_9 x3 x4 x5 x6 x7 x9))
 (fun j =>
 Prod.fst
 (S.at'
 (c9_0_9 x3 x4 x5 x6 x7 x9)
 j))
 (fun j =>
 Prod.fst
 (Prod.snd
 (S.at'
 (c9_0_8 x3 x4 x5 x6 x7 x9)
 j)))
 (fun j =>
 Prod.snd
 (Prod.snd
 (S.at'
 (c9_0_8 x3 x4 x5 x6 x7 x9)
 j)))
 (Prod.fst
 (Prod.snd
 (Prod.snd
 (c9_0_0 x3 x4 x5 x6 x7 x9))))
 (Prod.fst
 (Prod.snd
 (Prod.snd
 (Prod.snd
 (c9_0_0 x3 x4 x5 x6 x7 x9)))))
 (Prod.fst
 (Prod.snd
 (Prod.snd
 (Prod.snd
 (Prod.snd
 (c9_0_0 x3 x4 x5 x6 x7 x9))))))
 (1 : Int))))))) !=
 (0 : Int)
noncomputable abbrev c9_e_0 (al : Nat) (nl : Nat) (tl : Nat → Int) (vl : Nat → Int) (aw : Nat) (nw : Nat) (tw : Nat → Int) (vw : Nat → Int) :=
 S.stepsT (0 + nl + nw)
 (fun j =>
 bif Nat.blt j (0 + nl) then bif Nat.blt j (0) then (0 : Int) else tl (j + al)
 else tw (j - (0 + nl) + aw))
 fun j =>
 bif Nat.blt j (0 + nl) then bif Nat.blt j (0) then (0 : Int) else vl (j + al)
 else vw (j - (0 + nl) + aw)
noncomputable abbrev c9_e_1 (al : Nat) (nl : Nat) (tl : Nat → Int) (vl : Nat → Int) (aw : Nat) (nw : Nat) (tw : Nat → Int) (vw : Nat → Int) :=
 S.stepsT (0 + nl + nw)
 (fun j => bif Nat.blt j (0 + nl) then tl (j + al) else tw (j - (0 + nl) + aw))
 fun j => bif Nat.blt j (0 + nl) then vl (j + al) else vw (j - (0 + nl) + aw)
noncomputable abbrev c9_e_2 (al : Nat) (nl : Nat) (tl : Nat → Int) (vl : Nat → Int) (aw : Nat) (nw : Nat) (tw : Nat → Int) (vw : Nat → Int) :=
 decide
 (0 + (0 + nl + nw) ≤ 0 + nl + nw ∧
 0 + nl + nw ≤ 900000 ∧
 (S.bytes (0 + nl + nw) fun j =>
 bif Nat.blt j (0 + nl) then bif Nat.blt j (0) then (0 : Int) else tl (j + al)
 else tw (j - (0 + nl) + aw)) =
 true ∧
 (S.bytes (0 + nl + nw) fun j =>
 bif Nat.blt j (0 + nl) then bif Nat.blt j (0) then (0 : Int) else vl (j + al)
 else vw (j - (0 + nl) + aw)) =
 true)
noncomputable abbrev c9_e_3 (al : Nat) (nl : Nat) (tl : Nat → Int) (vl : Nat → Int) (aw : Nat) (nw : Nat) (tw : Nat → Int) (vw : Nat → Int) :=
 decide
 (0 + (0 + nl + nw) ≤ 0 + nl + nw ∧
 0 + nl + nw ≤ 900000 ∧
 (S.bytes (0 + nl + nw) fun j =>
 bif Nat.blt j (0 + nl) then tl (j + al) else tw (j - (0 + nl) + aw)) =
 true ∧
 (S.bytes (0 + nl + nw) fun j =>
 bif Nat.blt j (0 + nl) then vl (j + al) else vw (j - (0 + nl) + aw)) =
 true)
inductive St9 where
  | h0 (x0 : Int) (x1 : Int) (x2 : Int) (x3 : Int) (x4 : Int) (x5 : Int) (x6 : Int) (x7 : Bool) (x8 : List (Int × Int × Int × Bool)) (x9 : List (Int × Int × Bool)) (x10 : List (Int × Int × Bool))
abbrev Rt9 := Bool
noncomputable def V9 (c0 : Int) (c1 : Int) (al nl ml : Nat) (tl : Nat → Int) (vl : Nat → Int) (aw nw mw : Nat) (tw : Nat → Int) (vw : Nat → Int) (r : Rt9) : PV := PV.bool r
noncomputable def N9 (c0 : Int) (c1 : Int) (al nl ml : Nat) (tl : Nat → Int) (vl : Nat → Int) (aw nw mw : Nat) (tw : Nat → Int) (vw : Nat → Int) (r : Rt9) : List Blk := []
noncomputable def I9 (c0 : Int) (c1 : Int) (al nl ml : Nat) (tl : Nat → Int) (vl : Nat → Int) (aw nw mw : Nat) (tw : Nat → Int) (vw : Nat → Int) : St9 → Hd
  | .h0 x0 x1 x2 x3 x4 x5 x6 x7 x8 x9 x10 => ⟨hd Try.f9 0, [PV.loose (PA.mk (0) (2) al (0)) nl,
 PV.int IntKind.i64 ((1 : Int) + Int.tmod c0 (10 : Int)),
 PV.int IntKind.i64 (Int.tmod c1 (11 : Int)),
 PV.ptr (PA.mk (2) (0) (0) (0)), PV.int IntKind.i64 x0,
 PV.own (5) (3) (List.length x10), PV.own (3) (4) (List.length x8),
 PV.int IntKind.i64 x1, PV.int IntKind.i64 x2], [[(2, (true, Blk.cells
 [PV.int IntKind.i64 x3, PV.int IntKind.i64 x4,
 PV.own (4) (3) (List.length x9), PV.int IntKind.i64 x5,
 PV.int IntKind.i64 x6, PV.bool x7])), (3, (true, Blk.cols (List.length x8)
 [Col.int IntKind.i64 fun j => (S.at' x8 j).1,
 Col.int IntKind.i64 fun j => (S.at' x8 j).2.1,
 Col.int IntKind.i64 fun j => (S.at' x8 j).2.2.1,
 Col.bool fun j => (S.at' x8 j).2.2.2])), (4, (true, Blk.cols (List.length x9)
 [Col.int IntKind.i64 fun j => (S.at' x9 j).1,
 Col.int IntKind.i64 fun j => (S.at' x9 j).2.1,
 Col.bool fun j => (S.at' x9 j).2.2])), (5, (true, Blk.cols (List.length x10)
 [Col.int IntKind.i64 fun j => (S.at' x10 j).1,
 Col.int IntKind.i64 fun j => (S.at' x10 j).2.1,
 Col.bool fun j => (S.at' x10 j).2.2]))], [(0, (false, .cols ml [.int .u8 tl, .int .u8 vl])), (1, (false, .cols mw [.int .u8 tw, .int .u8 vw]))]], 6⟩
noncomputable def q9 (c0 : Int) (c1 : Int) (al nl ml : Nat) (tl : Nat → Int) (vl : Nat → Int) (aw nw mw : Nat) (tw : Nat → Int) (vw : Nat → Int) : St9 → Option (St9 ⊕ Rt9)
  | .h0 x0 x1 x2 x3 x4 x5 x6 x7 x8 x9 x10 => bif (decide (x2 < x1))
 then (bif (decide ((0 : Int) ≤ x2 ∧ x2 < (↑(List.length x8) : Int)))
 then (bif (decide (Int.toNat x2 < List.length x8))
 then (bif (x2 == (↑nl : Int))
 then (bif (decide (0 + List.length x9 ≤ List.length x9 ∧ List.length x9 ≤ 1000000))
 then (bif (Prod.fst
 (Prod.snd
 (Prod.snd
 (Prod.snd
 (Prod.snd
 (Prod.snd
 (c9_0_0 x3 x4 x5 x6 x7 x9)))))) !=
 (0 : Int))
 then (some (.inr (false)))
 else (bif (decide
 (0 +
 List.length
 (c9_0_9 x3 x4 x5 x6 x7 x9) ≤
 List.length
 (c9_0_9 x3 x4 x5 x6 x7 x9) ∧
 List.length
 (c9_0_9 x3 x4 x5 x6 x7 x9) ≤
 1000000))
 then (bif (lim IntKind.i64 ((↑nl : Int) + Int.tmod c1 (11 : Int)))
 then (bif (decide (x2 ≥ (↑nl : Int) + Int.tmod c1 (11 : Int)))
 then (bif (Prod.fst
 (Prod.snd
 (Prod.snd
 (Prod.snd
 (Prod.snd
 (Prod.snd
 (c9_0_4 x2 x3 x4 x5 x6 x7 x8 x9)))))) !=
 (8 : Int))
 then (some (.inr (false)))
 else (bif (Prod.fst
 (Prod.snd
 (Prod.snd
 (Prod.snd
 (Prod.snd
 (c9_0_0 x3 x4 x5 x6 x7 x9))))))
 then (bif (c9_0_16 x3 x4 x5 x6 x7 x9)
 then (some (.inr (false)))
 else (bif (c9_0_14 x3 x4 x5 x6 x7 x9)
 then (bif (c9_0_11 x3 x4 x5 x6 x7 x9)
 then (bif (lim IntKind.i64 (x2 + (1 : Int)))
 then (some (.inl (.h0 (Prod.fst
 (Prod.snd
 (Prod.snd
 (Prod.snd
 (Prod.snd
 (Prod.snd
 (c9_0_0 x3 x4 x5 x6 x7 x9))))))) (x1) (x2 + (1 : Int)) (Prod.fst
 (S.frzS x3 x4 (List.length x9) (fun j => (S.at' x9 j).1)
 (fun j => (S.at' x9 j).2.1) (fun j => (S.at' x9 j).2.2)
 x5 x6 x7 (0 : Int))) (Prod.fst
 (Prod.snd
 (c9_0_0 x3 x4 x5 x6 x7 x9))) (Prod.fst
 (Prod.snd
 (Prod.snd
 (c9_0_0 x3 x4 x5 x6 x7 x9)))) (Prod.fst
 (Prod.snd
 (Prod.snd
 (Prod.snd
 (c9_0_0 x3 x4 x5 x6 x7 x9))))) (Prod.fst
 (Prod.snd
 (Prod.snd
 (Prod.snd
 (Prod.snd
 (c9_0_0 x3 x4 x5 x6 x7 x9)))))) (x8) (c9_0_9 x3 x4 x5 x6 x7 x9) (x10))))
 else (none))
 else (some (.inr (false))))
 else (none)))
 else (some (.inr (false)))))
 else (bif (Prod.fst
 (Prod.snd
 (Prod.snd
 (Prod.snd
 (Prod.snd
 (Prod.snd
 (c9_0_4 x2 x3 x4 x5 x6 x7 x8 x9)))))) !=
 (0 : Int))
 then (some (.inr (false)))
 else (bif (decide (List.length x10 + 1 ≤ 1000000))
 then (bif (decide (List.length x10 ≤ List.length x10))
 then (bif (lim IntKind.i64 (x2 + (1 : Int)))
 then (some (.inl (.h0 (Prod.fst
 (Prod.snd
 (Prod.snd
 (Prod.snd
 (Prod.snd
 (Prod.snd
 (c9_0_0 x3 x4 x5 x6 x7 x9))))))) (x1) (x2 + (1 : Int)) (Prod.fst
 (c9_0_5 x2 x3 x4 x5 x6 x7 x8 x9)) (Prod.fst
 (Prod.snd
 (c9_0_5 x2 x3 x4 x5 x6 x7 x8 x9))) (Prod.fst
 (Prod.snd
 (Prod.snd
 (c9_0_5 x2 x3 x4 x5 x6 x7 x8 x9)))) (Prod.fst
 (Prod.snd
 (Prod.snd
 (Prod.snd
 (c9_0_5 x2 x3 x4 x5 x6 x7 x8 x9))))) (Prod.fst
 (Prod.snd
 (Prod.snd
 (Prod.snd
 (Prod.snd
 (c9_0_5 x2 x3 x4 x5 x6 x7 x8 x9)))))) (x8) (Prod.snd
 (Prod.snd
 (Prod.snd
 (Prod.snd
 (Prod.snd
 (Prod.snd
 (c9_0_5 x2 x3 x4 x5 x6 x7 x8 x9))))))) (S.snoc x10
 ((S.at' x8 (Int.toNat x2)).2.1, (S.at' x8 (Int.toNat x2)).2.2.1,
 (S.at' x8 (Int.toNat x2)).2.2.2)))))
 else (none))
 else (none))
 else (none))))
 else (none))
 else (none)))
 else (none))
 else (bif (decide (0 + List.length x9 ≤ List.length x9 ∧ List.length x9 ≤ 1000000))
 then (bif (lim IntKind.i64 ((↑nl : Int) + Int.tmod c1 (11 : Int)))
 then (bif (decide (x2 ≥ (↑nl : Int) + Int.tmod c1 (11 : Int)))
 then (bif (Prod.fst
 (Prod.snd
 (Prod.snd
 (Prod.snd
 (Prod.snd
 (Prod.snd
 (c9_0_7 x2 x3 x4 x5 x6 x7 x8 x9)))))) !=
 (8 : Int))
 then (some (.inr (false)))
 else (bif (x7)
 then (bif (Prod.fst
 (Prod.snd
 (Prod.snd
 (Prod.snd
 (Prod.snd
 (Prod.snd
 (c9_0_12 x3 x4 x5 x6 x7 x9)))))) !=
 (0 : Int))
 then (some (.inr (false)))
 else (bif (decide
 (0 +
 List.length
 (Prod.snd
 (Prod.snd
 (Prod.snd
 (Prod.snd
 (Prod.snd
 (Prod.snd
 (c9_0_12 x3 x4 x5 x6 x7 x9))))))) ≤
 List.length
 (Prod.snd
 (Prod.snd
 (Prod.snd
 (Prod.snd
 (Prod.snd
 (Prod.snd
 (c9_0_12 x3 x4 x5 x6 x7 x9))))))) ∧
 List.length
 (Prod.snd
 (Prod.snd
 (Prod.snd
 (Prod.snd
 (Prod.snd
 (Prod.snd
 (c9_0_12 x3 x4 x5 x6 x7 x9))))))) ≤
 1000000 ∧
 0 + List.length x9 ≤ List.length x9 ∧ List.length x9 ≤ 1000000))
 then (bif (c9_0_13 x3 x4 x5 x6 x7 x9)
 then (bif (lim IntKind.i64 (x2 + (1 : Int)))
 then (some (.inl (.h0 (x0) (x1) (x2 + (1 : Int)) (x3) (x4) (x5) (x6) (x7) (x8) (x9) (x10))))
 else (none))
 else (some (.inr (false))))
 else (none)))
 else (some (.inr (false)))))
 else (bif (x0 != (0 : Int))
 then (some (.inr (false)))
 else (bif (Prod.fst
 (Prod.snd
 (Prod.snd
 (Prod.snd
 (Prod.snd
 (Prod.snd
 (c9_0_7 x2 x3 x4 x5 x6 x7 x8 x9)))))) !=
 (0 : Int))
 then (some (.inr (false)))
 else (bif (decide (List.length x10 + 1 ≤ 1000000))
 then (bif (decide (List.length x10 ≤ List.length x10))
 then (bif (lim IntKind.i64 (x2 + (1 : Int)))
 then (some (.inl (.h0 (x0) (x1) (x2 + (1 : Int)) (Prod.fst
 (S.putS x3 x4 (List.length x9) (fun j => (S.at' x9 j).1)
 (fun j => (S.at' x9 j).2.1) (fun j => (S.at' x9 j).2.2)
 x5 x6 x7 ((S.at' x8 (Int.toNat x2)).2.1)
 ((S.at' x8 (Int.toNat x2)).2.2.1)
 ((S.at' x8 (Int.toNat x2)).2.2.2))) (Prod.fst
 (Prod.snd
 (c9_0_7 x2 x3 x4 x5 x6 x7 x8 x9))) (Prod.fst
 (Prod.snd
 (Prod.snd
 (c9_0_7 x2 x3 x4 x5 x6 x7 x8 x9)))) (Prod.fst
 (Prod.snd
 (Prod.snd
 (Prod.snd
 (c9_0_7 x2 x3 x4 x5 x6 x7 x8 x9))))) (Prod.fst
 (Prod.snd
 (Prod.snd
 (Prod.snd
 (Prod.snd
 (c9_0_7 x2 x3 x4 x5 x6 x7 x8 x9)))))) (x8) (Prod.snd
 (Prod.snd
 (Prod.snd
 (Prod.snd
 (Prod.snd
 (Prod.snd
 (c9_0_7 x2 x3 x4 x5 x6 x7 x8 x9))))))) (S.snoc x10
 ((S.at' x8 (Int.toNat x2)).2.1, (S.at' x8 (Int.toNat x2)).2.2.1,
 (S.at' x8 (Int.toNat x2)).2.2.2)))))
 else (none))
 else (none))
 else (none)))))
 else (none))
 else (none)))
 else (none))
 else (none))
 else (bif (decide (0 + List.length x9 ≤ List.length x9 ∧ List.length x9 ≤ 1000000))
 then (bif (Prod.fst
 (c9_0_2 x3 x4 x5 x6 x7 x9) ==
 (0 : Int))
 then (bif (lim IntKind.i64 ((↑(List.length x10) : Int) - ((1 : Int) + Int.tmod c0 (10 : Int))))
 then (bif (decide
 ((0 : Int) ≤ Max.max (0 : Int) ((↑(List.length x10) : Int) - ((1 : Int) + Int.tmod c0 (10 : Int))) ∧
 Max.max (0 : Int) ((↑(List.length x10) : Int) - ((1 : Int) + Int.tmod c0 (10 : Int))) ≤ (↑(List.length x10) : Int) ∧
 (↑(List.length x10) : Int) ≤ (↑(List.length x10) : Int)))
 then (bif (decide
 (0 +
 List.length
 (Prod.snd
 (c9_0_2 x3 x4 x5 x6 x7 x9)) ≤
 List.length
 (Prod.snd
 (c9_0_2 x3 x4 x5 x6 x7 x9)) ∧
 List.length
 (Prod.snd
 (c9_0_2 x3 x4 x5 x6 x7 x9)) ≤
 1000000 ∧
 Int.toNat (Max.max (0 : Int) ((↑(List.length x10) : Int) - ((1 : Int) + Int.tmod c0 (10 : Int)))) +
 (List.length x10 -
 Int.toNat (Max.max (0 : Int) ((↑(List.length x10) : Int) - ((1 : Int) + Int.tmod c0 (10 : Int))))) ≤
 List.length x10 ∧
 List.length x10 -
 Int.toNat (Max.max (0 : Int) ((↑(List.length x10) : Int) - ((1 : Int) + Int.tmod c0 (10 : Int)))) ≤
 1000000))
 then (bif (c9_0_15 c0 x3 x4 x5 x6 x7 x9 x10)
 then (some (.inr (true)))
 else (some (.inr (false))))
 else (none))
 else (none))
 else (none))
 else (some (.inr (false))))
 else (none))
noncomputable def p9 (c0 : Int) (c1 : Int) (al nl ml : Nat) (tl : Nat → Int) (vl : Nat → Int) (aw nw mw : Nat) (tw : Nat → Int) (vw : Nat → Int) : Option (St9 ⊕ Rt9) := bif (decide ((↑nl : Int) > (60 : Int)))
 then (some (.inr (true)))
 else (bif (decide ((↑nw : Int) > (60 : Int)))
 then (some (.inr (true)))
 else (bif (lim IntKind.i64 (Int.tmod c0 (10 : Int)))
 then (bif (lim IntKind.i64 ((1 : Int) + Int.tmod c0 (10 : Int)))
 then (bif (lim IntKind.i64 (Int.tmod c1 (11 : Int)))
 then (bif (lim IntKind.i64 ((0 : Int) + (↑nl : Int)))
 then (bif (decide ((0 : Int) + (↑nl : Int) < (0 : Int)))
 then (none)
 else (bif (lim IntKind.i64 ((0 : Int) + (↑nl : Int) + (↑nw : Int)))
 then (bif (decide ((0 : Int) + (↑nl : Int) + (↑nw : Int) < (0 : Int)))
 then (none)
 else (bif (lim IntKind.i64 ((0 : Int) + (↑nl : Int) + (↑nw : Int) - (0 : Int)))
 then (bif (decide ((0 : Int) + (↑nl : Int) + (↑nw : Int) - (0 : Int) > (0 : Int)))
 then (bif (decide
 ((0 : Int) ≤ (0 : Int) + (↑nl : Int) + (↑nw : Int) - (0 : Int) ∧
 (0 : Int) + (↑nl : Int) + (↑nw : Int) - (0 : Int) ≤ (1000000 : Int)))
 then (bif (decide
 ((0 : Int) ≤ (0 : Int) ∧ (0 : Int) ≤ (↑(Int.toNat ((0 : Int) + (↑nl : Int) + (↑nw : Int) - (0 : Int))) : Int)))
 then (bif (decide (0 + nl ≤ 1000000))
 then (bif (decide (0 ≤ Int.toNat ((0 : Int) + (↑nl : Int) + (↑nw : Int) - (0 : Int))))
 then (bif (decide (al + nl ≤ ml))
 then (bif (decide (0 + nl + nw ≤ 1000000))
 then (bif (decide (0 + nl ≤ 0 + nl))
 then (bif (decide (aw + nw ≤ mw))
 then (bif (c9_e_2 al nl tl vl aw nw tw vw)
 then (some (.inl (.h0 ((S.newS ((1 : Int) + Int.tmod c0 (10 : Int)) (Int.tmod c1 (11 : Int))).2.2.2) ((↑(List.length
 (c9_e_0 al nl tl vl aw nw tw vw)) :
 Int)) ((0 : Int)) ((S.newS ((1 : Int) + Int.tmod c0 (10 : Int)) (Int.tmod c1 (11 : Int))).1) ((S.newS ((1 : Int) + Int.tmod c0 (10 : Int)) (Int.tmod c1 (11 : Int))).2.1) ((0 : Int)) ((S.newS ((1 : Int) + Int.tmod c0 (10 : Int)) (Int.tmod c1 (11 : Int))).2.2.1) (false) (c9_e_0 al nl tl vl aw nw tw vw) ([]) ([]))))
 else (none))
 else (none))
 else (none))
 else (none))
 else (none))
 else (none))
 else (none))
 else (none))
 else (none))
 else (bif (decide (0 + nl ≤ 1000000))
 then (bif (decide (al + nl ≤ ml))
 then (bif (decide (0 + nl + nw ≤ 1000000))
 then (bif (decide (0 + nl ≤ 0 + nl))
 then (bif (decide (aw + nw ≤ mw))
 then (bif (c9_e_3 al nl tl vl aw nw tw vw)
 then (some (.inl (.h0 ((S.newS ((1 : Int) + Int.tmod c0 (10 : Int)) (Int.tmod c1 (11 : Int))).2.2.2) ((↑(List.length
 (c9_e_1 al nl tl vl aw nw tw vw)) :
 Int)) ((0 : Int)) ((S.newS ((1 : Int) + Int.tmod c0 (10 : Int)) (Int.tmod c1 (11 : Int))).1) ((S.newS ((1 : Int) + Int.tmod c0 (10 : Int)) (Int.tmod c1 (11 : Int))).2.1) ((0 : Int)) ((S.newS ((1 : Int) + Int.tmod c0 (10 : Int)) (Int.tmod c1 (11 : Int))).2.2.1) (false) (c9_e_1 al nl tl vl aw nw tw vw) ([]) ([]))))
 else (none))
 else (none))
 else (none))
 else (none))
 else (none))
 else (none)))
 else (none)))
 else (none)))
 else (none))
 else (none))
 else (none))
 else (none)))
noncomputable def Te9 (test : Bool → Prop → Prop → Prop) (Kst : KS) (Kret : KR) (c0 : Int) (c1 : Int) (al nl ml : Nat) (tl : Nat → Int) (vl : Nat → Int) (aw nw mw : Nat) (tw : Nat → Int) (vw : Nat → Int) : Prop :=
  test (true)
 (test (true)
 (test (decide ((↑nl : Int) > (60 : Int)))
 (test (true)
 (test (true)
 (Kret (PV.tf true) ([[(1, false, Blk.cols mw [Col.int IntKind.u8 tw, Col.int IntKind.u8 vw]),
 (0, false, Blk.cols ml [Col.int IntKind.u8 tl, Col.int IntKind.u8 vl])]]) (5))
 (Kret (PV.tf false) ([[(1, false, Blk.cols mw [Col.int IntKind.u8 tw, Col.int IntKind.u8 vw]),
 (0, false, Blk.cols ml [Col.int IntKind.u8 tl, Col.int IntKind.u8 vl])]]) (5)))
 (False))
 (test (decide ((↑nw : Int) > (60 : Int)))
 (test (true)
 (test (true)
 (Kret (PV.tf true) ([[(1, false, Blk.cols mw [Col.int IntKind.u8 tw, Col.int IntKind.u8 vw]),
 (0, false, Blk.cols ml [Col.int IntKind.u8 tl, Col.int IntKind.u8 vl])]]) (5))
 (Kret (PV.tf false) ([[(1, false, Blk.cols mw [Col.int IntKind.u8 tw, Col.int IntKind.u8 vw]),
 (0, false, Blk.cols ml [Col.int IntKind.u8 tl, Col.int IntKind.u8 vl])]]) (5)))
 (False))
 (test (true)
 (test (false)
 (False)
 (test (lim IntKind.i64 (Int.tmod c0 (10 : Int)))
 (test (lim IntKind.i64 ((1 : Int) + Int.tmod c0 (10 : Int)))
 (test (true)
 (test (false)
 (False)
 (test (lim IntKind.i64 (Int.tmod c1 (11 : Int)))
 (test (true)
 (test (true)
 (test (true)
 (test (lim IntKind.i64 ((0 : Int) + (↑nl : Int)))
 (test (decide ((0 : Int) + (↑nl : Int) < (0 : Int)))
 (False)
 (test (true)
 (test (true)
 (test (true)
 (test (lim IntKind.i64 ((0 : Int) + (↑nl : Int) + (↑nw : Int)))
 (test (decide ((0 : Int) + (↑nl : Int) + (↑nw : Int) < (0 : Int)))
 (False)
 (test (true)
 (test (false)
 (test (false)
 (False)
 (False))
 (test (decide ((0 : Int) + (↑nl : Int) + (↑nw : Int) < (0 : Int)))
 (False)
 (test (true)
 (test (lim IntKind.i64 ((0 : Int) + (↑nl : Int) + (↑nw : Int) - (0 : Int)))
 (test (decide ((0 : Int) + (↑nl : Int) + (↑nw : Int) - (0 : Int) > (0 : Int)))
 (test (true)
 (test (decide
 ((0 : Int) ≤ (0 : Int) + (↑nl : Int) + (↑nw : Int) - (0 : Int) ∧
 (0 : Int) + (↑nl : Int) + (↑nw : Int) - (0 : Int) ≤ (1000000 : Int)))
 (test (decide
 ((0 : Int) ≤ (0 : Int) ∧ (0 : Int) ≤ (↑(Int.toNat ((0 : Int) + (↑nl : Int) + (↑nw : Int) - (0 : Int))) : Int)))
 (test (true)
 (test (true)
 (test (decide (0 + nl ≤ 1000000))
 (test (decide (0 ≤ Int.toNat ((0 : Int) + (↑nl : Int) + (↑nw : Int) - (0 : Int))))
 (test (decide (al + nl ≤ ml))
 (test (true)
 (test (true)
 (test (true)
 (test (decide (0 + nl + nw ≤ 1000000))
 (test (decide (0 + nl ≤ 0 + nl))
 (test (decide (aw + nw ≤ mw))
 (test (true)
 (test (false)
 (test (false)
 (False)
 (False))
 (test (c9_e_2 al nl tl vl aw nw tw vw)
 (Kst (hd Try.f9 0) ([PV.loose (PA.mk (0) (2) al (0)) nl,
 PV.int IntKind.i64 ((1 : Int) + Int.tmod c0 (10 : Int)),
 PV.int IntKind.i64 (Int.tmod c1 (11 : Int)),
 PV.ptr (PA.mk (5) (0) (0) (0)),
 PV.int IntKind.i64
 ((S.newS ((1 : Int) + Int.tmod c0 (10 : Int)) (Int.tmod c1 (11 : Int))).2.2.2),
 PV.nils,
 PV.own (11) (4)
 (List.length
 (c9_e_0 al nl tl vl aw nw tw vw)),
 PV.int IntKind.i64
 (↑(List.length
 (c9_e_0 al nl tl vl aw nw tw vw)) :
 Int),
 PV.int IntKind.i64 (0 : Int)]) ([[(1, false, Blk.cols mw [Col.int IntKind.u8 tw, Col.int IntKind.u8 vw]),
 (0, false, Blk.cols ml [Col.int IntKind.u8 tl, Col.int IntKind.u8 vl]),
 (11, true,
 Blk.cols
 (List.length
 (c9_e_0 al nl tl vl aw nw tw vw))
 [Col.int IntKind.i64 fun j =>
 Prod.fst
 (S.at'
 (c9_e_0 al nl tl vl aw nw tw vw)
 j),
 Col.int IntKind.i64 fun j =>
 Prod.fst
 (Prod.snd
 (S.at'
 (c9_e_0 al nl tl vl aw nw tw vw)
 j)),
 Col.int IntKind.i64 fun j =>
 Prod.fst
 (Prod.snd
 (Prod.snd
 (S.at'
 (c9_e_0 al nl tl vl aw nw tw vw)
 j))),
 Col.bool fun j =>
 Prod.snd
 (Prod.snd
 (Prod.snd
 (S.at'
 (c9_e_0 al nl tl vl aw nw tw vw)
 j)))]),
 (5, true,
 Blk.cells
 [PV.int IntKind.i64
 ((S.newS ((1 : Int) + Int.tmod c0 (10 : Int)) (Int.tmod c1 (11 : Int))).1),
 PV.int IntKind.i64
 ((S.newS ((1 : Int) + Int.tmod c0 (10 : Int)) (Int.tmod c1 (11 : Int))).2.1),
 PV.nils, PV.int IntKind.i64 (0 : Int),
 PV.int IntKind.i64
 (Prod.fst
 ((S.newS ((1 : Int) + Int.tmod c0 (10 : Int)) (Int.tmod c1 (11 : Int))).2.2)),
 PV.tf false])]]) (12))
 (False)))
 (False))
 (False))
 (False))
 (False))
 (False))
 (test (decide
 (0 + (0 + nl) ≤ 0 + nl ∧
 0 + nl ≤ 900000 ∧
 (S.bytes (0 + nl) fun j => bif Nat.blt j (0) then (0 : Int) else tl (j + al)) =
 true ∧
 (S.bytes (0 + nl) fun j => bif Nat.blt j (0) then (0 : Int) else vl (j + al)) =
 true))
 (Kst (hd Try.f9 0) ([PV.loose (PA.mk (0) (2) al (0)) nl,
 PV.int IntKind.i64 ((1 : Int) + Int.tmod c0 (10 : Int)),
 PV.int IntKind.i64 (Int.tmod c1 (11 : Int)),
 PV.ptr (PA.mk (5) (0) (0) (0)),
 PV.int IntKind.i64
 ((S.newS ((1 : Int) + Int.tmod c0 (10 : Int)) (Int.tmod c1 (11 : Int))).2.2.2),
 PV.nils,
 PV.own (10) (4)
 (List.length
 (S.stepsT (0 + nl) (fun j => bif Nat.blt j (0) then (0 : Int) else tl (j + al))
 fun j => bif Nat.blt j (0) then (0 : Int) else vl (j + al))),
 PV.int IntKind.i64
 (↑(List.length
 (S.stepsT (0 + nl) (fun j => bif Nat.blt j (0) then (0 : Int) else tl (j + al))
 fun j => bif Nat.blt j (0) then (0 : Int) else vl (j + al))) :
 Int),
 PV.int IntKind.i64 (0 : Int)]) ([[(1, false, Blk.cols mw [Col.int IntKind.u8 tw, Col.int IntKind.u8 vw]),
 (0, false, Blk.cols ml [Col.int IntKind.u8 tl, Col.int IntKind.u8 vl]),
 (10, true,
 Blk.cols
 (List.length
 (S.stepsT (0 + nl) (fun j => bif Nat.blt j (0) then (0 : Int) else tl (j + al))
 fun j => bif Nat.blt j (0) then (0 : Int) else vl (j + al)))
 [Col.int IntKind.i64 fun j =>
 Prod.fst
 (S.at'
 (S.stepsT (0 + nl)
 (fun j => bif Nat.blt j (0) then (0 : Int) else tl (j + al)) fun j =>
 bif Nat.blt j (0) then (0 : Int) else vl (j + al))
 j),
 Col.int IntKind.i64 fun j =>
 Prod.fst
 (Prod.snd
 (S.at'
 (S.stepsT (0 + nl)
 (fun j => bif Nat.blt j (0) then (0 : Int) else tl (j + al)) fun j =>
 bif Nat.blt j (0) then (0 : Int) else vl (j + al))
 j)),
 Col.int IntKind.i64 fun j =>
 Prod.fst
 (Prod.snd
 (Prod.snd
 (S.at'
 (S.stepsT (0 + nl)
 (fun j => bif Nat.blt j (0) then (0 : Int) else tl (j + al)) fun j =>
 bif Nat.blt j (0) then (0 : Int) else vl (j + al))
 j))),
 Col.bool fun j =>
 Prod.snd
 (Prod.snd
 (Prod.snd
 (S.at'
 (S.stepsT (0 + nl)
 (fun j => bif Nat.blt j (0) then (0 : Int) else tl (j + al)) fun j =>
 bif Nat.blt j (0) then (0 : Int) else vl (j + al))
 j)))]),
 (5, true,
 Blk.cells
 [PV.int IntKind.i64
 ((S.newS ((1 : Int) + Int.tmod c0 (10 : Int)) (Int.tmod c1 (11 : Int))).1),
 PV.int IntKind.i64
 ((S.newS ((1 : Int) + Int.tmod c0 (10 : Int)) (Int.tmod c1 (11 : Int))).2.1),
 PV.nils, PV.int IntKind.i64 (0 : Int),
 PV.int IntKind.i64
 (Prod.fst
 ((S.newS ((1 : Int) + Int.tmod c0 (10 : Int)) (Int.tmod c1 (11 : Int))).2.2)),
 PV.tf false])]]) (11))
 (False)))
 (False))
 (False))
 (False))
 (False))
 (False))
 (test (decide
 (0 ≤ Int.toNat ((0 : Int) + (↑nl : Int) + (↑nw : Int) - (0 : Int)) ∧
 0 ≤ 900000 ∧ true = true ∧ true = true))
 (Kst (hd Try.f9 0) ([PV.loose (PA.mk (0) (2) al (0)) nl,
 PV.int IntKind.i64 ((1 : Int) + Int.tmod c0 (10 : Int)),
 PV.int IntKind.i64 (Int.tmod c1 (11 : Int)),
 PV.ptr (PA.mk (5) (0) (0) (0)),
 PV.int IntKind.i64
 ((S.newS ((1 : Int) + Int.tmod c0 (10 : Int)) (Int.tmod c1 (11 : Int))).2.2.2),
 PV.nils, PV.own (9) (4) (0), PV.int IntKind.i64 (0 : Int),
 PV.int IntKind.i64 (0 : Int)]) ([[(1, false, Blk.cols mw [Col.int IntKind.u8 tw, Col.int IntKind.u8 vw]),
 (0, false, Blk.cols ml [Col.int IntKind.u8 tl, Col.int IntKind.u8 vl]),
 (9, true,
 Blk.cols (0)
 [Col.int IntKind.i64 fun j =>
 Prod.fst
 (S.at' (S.stepsT (0) (fun j => (0 : Int)) fun j => (0 : Int)) j),
 Col.int IntKind.i64 fun j =>
 Prod.fst
 (Prod.snd
 (S.at' (S.stepsT (0) (fun j => (0 : Int)) fun j => (0 : Int)) j)),
 Col.int IntKind.i64 fun j =>
 Prod.fst
 (Prod.snd
 (Prod.snd
 (S.at' (S.stepsT (0) (fun j => (0 : Int)) fun j => (0 : Int))
 j))),
 Col.bool fun j =>
 Prod.snd
 (Prod.snd
 (Prod.snd
 (S.at' (S.stepsT (0) (fun j => (0 : Int)) fun j => (0 : Int))
 j)))]),
 (5, true,
 Blk.cells
 [PV.int IntKind.i64
 ((S.newS ((1 : Int) + Int.tmod c0 (10 : Int)) (Int.tmod c1 (11 : Int))).1),
 PV.int IntKind.i64
 ((S.newS ((1 : Int) + Int.tmod c0 (10 : Int)) (Int.tmod c1 (11 : Int))).2.1),
 PV.nils, PV.int IntKind.i64 (0 : Int),
 PV.int IntKind.i64
 (Prod.fst
 ((S.newS ((1 : Int) + Int.tmod c0 (10 : Int)) (Int.tmod c1 (11 : Int))).2.2)),
 PV.tf false])]]) (10))
 (False)))
 (False))
 (False))
 (False))
 (test (true)
 (test (true)
 (test (decide (0 + nl ≤ 1000000))
 (test (true)
 (test (decide (al + nl ≤ ml))
 (test (true)
 (test (true)
 (test (true)
 (test (decide (0 + nl + nw ≤ 1000000))
 (test (decide (0 + nl ≤ 0 + nl))
 (test (decide (aw + nw ≤ mw))
 (test (true)
 (test (false)
 (test (false)
 (False)
 (False))
 (test (c9_e_3 al nl tl vl aw nw tw vw)
 (Kst (hd Try.f9 0) ([PV.loose (PA.mk (0) (2) al (0)) nl,
 PV.int IntKind.i64 ((1 : Int) + Int.tmod c0 (10 : Int)),
 PV.int IntKind.i64 (Int.tmod c1 (11 : Int)),
 PV.ptr (PA.mk (5) (0) (0) (0)),
 PV.int IntKind.i64
 ((S.newS ((1 : Int) + Int.tmod c0 (10 : Int)) (Int.tmod c1 (11 : Int))).2.2.2),
 PV.nils,
 PV.own (10) (4)
 (List.length
 (c9_e_1 al nl tl vl aw nw tw vw)),
 PV.int IntKind.i64
 (↑(List.length
 (c9_e_1 al nl tl vl aw nw tw vw)) :
 Int),
 PV.int IntKind.i64 (0 : Int)]) ([[(1, false, Blk.cols mw [Col.int IntKind.u8 tw, Col.int IntKind.u8 vw]),
 (0, false, Blk.cols ml [Col.int IntKind.u8 tl, Col.int IntKind.u8 vl]),
 (10, true,
 Blk.cols
 (List.length
 (c9_e_1 al nl tl vl aw nw tw vw))
 [Col.int IntKind.i64 fun j =>
 Prod.fst
 (S.at'
 (c9_e_1 al nl tl vl aw nw tw vw)
 j),
 Col.int IntKind.i64 fun j =>
 Prod.fst
 (Prod.snd
 (S.at'
 (S.stepsT (0 + nl + nw)
 (fun j =>
 bif Nat.blt j (0 + nl) then tl (j + al) else tw (j - (0 + nl) + aw))
 fun j =>
 bif Nat.blt j (0 + nl) then vl (j + al) else vw (j - (0 + nl) + aw))
 j)),
 Col.int IntKind.i64 fun j =>
 Prod.fst
 (Prod.snd
 (Prod.snd
 (S.at'
 (S.stepsT (0 + nl + nw)
 (fun j =>
 bif Nat.blt j (0 + nl) then tl (j + al) else tw (j - (0 + nl) + aw))
 fun j =>
 bif Nat.blt j (0 + nl) then vl (j + al) else vw (j - (0 + nl) + aw))
 j))),
 Col.bool fun j =>
 Prod.snd
 (Prod.snd
 (Prod.snd
 (S.at'
 (S.stepsT (0 + nl + nw)
 (fun j =>
 bif Nat.blt j (0 + nl) then tl (j + al) else tw (j - (0 + nl) + aw))
 fun j =>
 bif Nat.blt j (0 + nl) then vl (j + al) else vw (j - (0 + nl) + aw))
 j)))]),
 (5, true,
 Blk.cells
 [PV.int IntKind.i64
 ((S.newS ((1 : Int) + Int.tmod c0 (10 : Int)) (Int.tmod c1 (11 : Int))).1),
 PV.int IntKind.i64
 ((S.newS ((1 : Int) + Int.tmod c0 (10 : Int)) (Int.tmod c1 (11 : Int))).2.1),
 PV.nils, PV.int IntKind.i64 (0 : Int),
 PV.int IntKind.i64
 (Prod.fst
 ((S.newS ((1 : Int) + Int.tmod c0 (10 : Int)) (Int.tmod c1 (11 : Int))).2.2)),
 PV.tf false])]]) (11))
 (False)))
 (False))
 (False))
 (False))
 (False))
 (False))
 (test (decide
 (0 + (0 + nl) ≤ 0 + nl ∧
 0 + nl ≤ 900000 ∧
 (S.bytes (0 + nl) fun j => tl (j + al)) = true ∧
 (S.bytes (0 + nl) fun j => vl (j + al)) = true))
 (Kst (hd Try.f9 0) ([PV.loose (PA.mk (0) (2) al (0)) nl,
 PV.int IntKind.i64 ((1 : Int) + Int.tmod c0 (10 : Int)),
 PV.int IntKind.i64 (Int.tmod c1 (11 : Int)),
 PV.ptr (PA.mk (5) (0) (0) (0)),
 PV.int IntKind.i64
 ((S.newS ((1 : Int) + Int.tmod c0 (10 : Int)) (Int.tmod c1 (11 : Int))).2.2.2),
 PV.nils,
 PV.own (9) (4)
 (List.length (S.stepsT (0 + nl) (fun j => tl (j + al)) fun j => vl (j + al))),
 PV.int IntKind.i64
 (↑(List.length (S.stepsT (0 + nl) (fun j => tl (j + al)) fun j => vl (j + al))) :
 Int),
 PV.int IntKind.i64 (0 : Int)]) ([[(1, false, Blk.cols mw [Col.int IntKind.u8 tw, Col.int IntKind.u8 vw]),
 (0, false, Blk.cols ml [Col.int IntKind.u8 tl, Col.int IntKind.u8 vl]),
 (9, true,
 Blk.cols
 (List.length (S.stepsT (0 + nl) (fun j => tl (j + al)) fun j => vl (j + al)))
 [Col.int IntKind.i64 fun j =>
 Prod.fst
 (S.at' (S.stepsT (0 + nl) (fun j => tl (j + al)) fun j => vl (j + al))
 j),
 Col.int IntKind.i64 fun j =>
 Prod.fst
 (Prod.snd
 (S.at'
 (S.stepsT (0 + nl) (fun j => tl (j + al)) fun j => vl (j + al)) j)),
 Col.int IntKind.i64 fun j =>
 Prod.fst
 (Prod.snd
 (Prod.snd
 (S.at'
 (S.stepsT (0 + nl) (fun j => tl (j + al)) fun j => vl (j + al)) j))),
 Col.bool fun j =>
 Prod.snd
 (Prod.snd
 (Prod.snd
 (S.at'
 (S.stepsT (0 + nl) (fun j => tl (j + al)) fun j => vl (j + al))
 j)))]),
 (5, true,
 Blk.cells
 [PV.int IntKind.i64
 ((S.newS ((1 : Int) + Int.tmod c0 (10 : Int)) (Int.tmod c1 (11 : Int))).1),
 PV.int IntKind.i64
 ((S.newS ((1 : Int) + Int.tmod c0 (10 : Int)) (Int.tmod c1 (11 : Int))).2.1),
 PV.nils, PV.int IntKind.i64 (0 : Int),
 PV.int IntKind.i64
 (Prod.fst
 ((S.newS ((1 : Int) + Int.tmod c0 (10 : Int)) (Int.tmod c1 (11 : Int))).2.2)),
 PV.tf false])]]) (10))
 (False)))
 (False))
 (False))
 (False))
 (False))
 (False))
 (test (true)
 (Kst (hd Try.f9 0) ([PV.loose (PA.mk (0) (2) al (0)) nl,
 PV.int IntKind.i64 ((1 : Int) + Int.tmod c0 (10 : Int)),
 PV.int IntKind.i64 (Int.tmod c1 (11 : Int)),
 PV.ptr (PA.mk (5) (0) (0) (0)),
 PV.int IntKind.i64
 ((S.newS ((1 : Int) + Int.tmod c0 (10 : Int)) (Int.tmod c1 (11 : Int))).2.2.2),
 PV.nils, PV.own (8) (4) (0), PV.int IntKind.i64 (0 : Int),
 PV.int IntKind.i64 (0 : Int)]) ([[(1, false, Blk.cols mw [Col.int IntKind.u8 tw, Col.int IntKind.u8 vw]),
 (0, false, Blk.cols ml [Col.int IntKind.u8 tl, Col.int IntKind.u8 vl]),
 (8, true,
 Blk.cols (0)
 [Col.int IntKind.i64 fun j => (S.at' ([] : List (Int × Int × Int × Bool)) j).1,
 Col.int IntKind.i64 fun j => (S.at' ([] : List (Int × Int × Int × Bool)) j).2.1,
 Col.int IntKind.i64 fun j => (S.at' ([] : List (Int × Int × Int × Bool)) j).2.2.1,
 Col.bool fun j => (S.at' ([] : List (Int × Int × Int × Bool)) j).2.2.2]),
 (5, true,
 Blk.cells
 [PV.int IntKind.i64
 ((S.newS ((1 : Int) + Int.tmod c0 (10 : Int)) (Int.tmod c1 (11 : Int))).1),
 PV.int IntKind.i64
 ((S.newS ((1 : Int) + Int.tmod c0 (10 : Int)) (Int.tmod c1 (11 : Int))).2.1),
 PV.nils, PV.int IntKind.i64 (0 : Int),
 PV.int IntKind.i64
 (Prod.fst
 ((S.newS ((1 : Int) + Int.tmod c0 (10 : Int)) (Int.tmod c1 (11 : Int))).2.2)),
 PV.tf false])]]) (9))
 (False))))
 (False))
 (False))))
 (False)))
 (False))
 (False))
 (test (decide ((0 : Int) + (↑nl : Int) < (0 : Int)))
 (False)
 (test (true)
 (test (lim IntKind.i64 ((0 : Int) + (↑nl : Int) - (0 : Int)))
 (test (decide ((0 : Int) + (↑nl : Int) - (0 : Int) > (0 : Int)))
 (test (true)
 (test (decide
 ((0 : Int) ≤ (0 : Int) + (↑nl : Int) - (0 : Int) ∧ (0 : Int) + (↑nl : Int) - (0 : Int) ≤ (1000000 : Int)))
 (test (decide ((0 : Int) ≤ (0 : Int) ∧ (0 : Int) ≤ (↑(Int.toNat ((0 : Int) + (↑nl : Int) - (0 : Int))) : Int)))
 (test (true)
 (test (true)
 (test (decide (0 + nl ≤ 1000000))
 (test (decide (0 ≤ Int.toNat ((0 : Int) + (↑nl : Int) - (0 : Int))))
 (test (decide (al + nl ≤ ml))
 (test (true)
 (test (true)
 (test (true)
 (test (decide (0 + nl + nw ≤ 1000000))
 (test (decide (0 + nl ≤ 0 + nl))
 (test (decide (aw + nw ≤ mw))
 (test (true)
 (test (false)
 (test (false)
 (False)
 (False))
 (test (c9_e_2 al nl tl vl aw nw tw vw)
 (Kst (hd Try.f9 0) ([PV.loose (PA.mk (0) (2) al (0)) nl,
 PV.int IntKind.i64 ((1 : Int) + Int.tmod c0 (10 : Int)),
 PV.int IntKind.i64 (Int.tmod c1 (11 : Int)),
 PV.ptr (PA.mk (5) (0) (0) (0)),
 PV.int IntKind.i64
 ((S.newS ((1 : Int) + Int.tmod c0 (10 : Int)) (Int.tmod c1 (11 : Int))).2.2.2),
 PV.nils,
 PV.own (11) (4)
 (List.length
 (c9_e_0 al nl tl vl aw nw tw vw)),
 PV.int IntKind.i64
 (↑(List.length
 (c9_e_0 al nl tl vl aw nw tw vw)) :
 Int),
 PV.int IntKind.i64 (0 : Int)]) ([[(1, false, Blk.cols mw [Col.int IntKind.u8 tw, Col.int IntKind.u8 vw]),
 (0, false, Blk.cols ml [Col.int IntKind.u8 tl, Col.int IntKind.u8 vl]),
 (11, true,
 Blk.cols
 (List.length
 (c9_e_0 al nl tl vl aw nw tw vw))
 [Col.int IntKind.i64 fun j =>
 Prod.fst
 (S.at'
 (c9_e_0 al nl tl vl aw nw tw vw)
 j),
 Col.int IntKind.i64 fun j =>
 Prod.fst
 (Prod.snd
 (S.at'
 (c9_e_0 al nl tl vl aw nw tw vw)
 j)),
 Col.int IntKind.i64 fun j =>
 Prod.fst
 (Prod.snd
 (Prod.snd
 (S.at'
 (c9_e_0 al nl tl vl aw nw tw vw)
 j))),
 Col.bool fun j =>
 Prod.snd
 (Prod.snd
 (Prod.snd
 (S.at'
 (c9_e_0 al nl tl vl aw nw tw vw)
 j)))]),
 (5, true,
 Blk.cells
 [PV.int IntKind.i64
 ((S.newS ((1 : Int) + Int.tmod c0 (10 : Int)) (Int.tmod c1 (11 : Int))).1),
 PV.int IntKind.i64
 ((S.newS ((1 : Int) + Int.tmod c0 (10 : Int)) (Int.tmod c1 (11 : Int))).2.1),
 PV.nils, PV.int IntKind.i64 (0 : Int),
 PV.int IntKind.i64
 (Prod.fst
 ((S.newS ((1 : Int) + Int.tmod c0 (10 : Int)) (Int.tmod c1 (11 : Int))).2.2)),
 PV.tf false])]]) (12))
 (False)))
 (False))
 (False))
 (False))
 (False))
 (False))
 (test (decide
 (0 + (0 + nl) ≤ 0 + nl ∧
 0 + nl ≤ 900000 ∧
 (S.bytes (0 + nl) fun j => bif Nat.blt j (0) then (0 : Int) else tl (j + al)) =
 true ∧
 (S.bytes (0 + nl) fun j => bif Nat.blt j (0) then (0 : Int) else vl (j + al)) =
 true))
 (Kst (hd Try.f9 0) ([PV.loose (PA.mk (0) (2) al (0)) nl,
 PV.int IntKind.i64 ((1 : Int) + Int.tmod c0 (10 : Int)),
 PV.int IntKind.i64 (Int.tmod c1 (11 : Int)),
 PV.ptr (PA.mk (5) (0) (0) (0)),
 PV.int IntKind.i64
 ((S.newS ((1 : Int) + Int.tmod c0 (10 : Int)) (Int.tmod c1 (11 : Int))).2.2.2),
 PV.nils,
 PV.own (10) (4)
 (List.length
 (S.stepsT (0 + nl) (fun j => bif Nat.blt j (0) then (0 : Int) else tl (j + al))
 fun j => bif Nat.blt j (0) then (0 : Int) else vl (j + al))),
 PV.int IntKind.i64
 (↑(List.length
 (S.stepsT (0 + nl) (fun j => bif Nat.blt j (0) then (0 : Int) else tl (j + al))
 fun j => bif Nat.blt j (0) then (0 : Int) else vl (j + al))) :
 Int),
 PV.int IntKind.i64 (0 : Int)]) ([[(1, false, Blk.cols mw [Col.int IntKind.u8 tw, Col.int IntKind.u8 vw]),
 (0, false, Blk.cols ml [Col.int IntKind.u8 tl, Col.int IntKind.u8 vl]),
 (10, true,
 Blk.cols
 (List.length
 (S.stepsT (0 + nl) (fun j => bif Nat.blt j (0) then (0 : Int) else tl (j + al))
 fun j => bif Nat.blt j (0) then (0 : Int) else vl (j + al)))
 [Col.int IntKind.i64 fun j =>
 Prod.fst
 (S.at'
 (S.stepsT (0 + nl)
 (fun j => bif Nat.blt j (0) then (0 : Int) else tl (j + al)) fun j =>
 bif Nat.blt j (0) then (0 : Int) else vl (j + al))
 j),
 Col.int IntKind.i64 fun j =>
 Prod.fst
 (Prod.snd
 (S.at'
 (S.stepsT (0 + nl)
 (fun j => bif Nat.blt j (0) then (0 : Int) else tl (j + al)) fun j =>
 bif Nat.blt j (0) then (0 : Int) else vl (j + al))
 j)),
 Col.int IntKind.i64 fun j =>
 Prod.fst
 (Prod.snd
 (Prod.snd
 (S.at'
 (S.stepsT (0 + nl)
 (fun j => bif Nat.blt j (0) then (0 : Int) else tl (j + al)) fun j =>
 bif Nat.blt j (0) then (0 : Int) else vl (j + al))
 j))),
 Col.bool fun j =>
 Prod.snd
 (Prod.snd
 (Prod.snd
 (S.at'
 (S.stepsT (0 + nl)
 (fun j => bif Nat.blt j (0) then (0 : Int) else tl (j + al)) fun j =>
 bif Nat.blt j (0) then (0 : Int) else vl (j + al))
 j)))]),
 (5, true,
 Blk.cells
 [PV.int IntKind.i64
 ((S.newS ((1 : Int) + Int.tmod c0 (10 : Int)) (Int.tmod c1 (11 : Int))).1),
 PV.int IntKind.i64
 ((S.newS ((1 : Int) + Int.tmod c0 (10 : Int)) (Int.tmod c1 (11 : Int))).2.1),
 PV.nils, PV.int IntKind.i64 (0 : Int),
 PV.int IntKind.i64
 (Prod.fst
 ((S.newS ((1 : Int) + Int.tmod c0 (10 : Int)) (Int.tmod c1 (11 : Int))).2.2)),
 PV.tf false])]]) (11))
 (False)))
 (False))
 (False))
 (False))
 (False))
 (False))
 (test (decide
 (0 ≤ Int.toNat ((0 : Int) + (↑nl : Int) - (0 : Int)) ∧
 0 ≤ 900000 ∧ true = true ∧ true = true))
 (Kst (hd Try.f9 0) ([PV.loose (PA.mk (0) (2) al (0)) nl,
 PV.int IntKind.i64 ((1 : Int) + Int.tmod c0 (10 : Int)),
 PV.int IntKind.i64 (Int.tmod c1 (11 : Int)),
 PV.ptr (PA.mk (5) (0) (0) (0)),
 PV.int IntKind.i64
 ((S.newS ((1 : Int) + Int.tmod c0 (10 : Int)) (Int.tmod c1 (11 : Int))).2.2.2),
 PV.nils, PV.own (9) (4) (0), PV.int IntKind.i64 (0 : Int),
 PV.int IntKind.i64 (0 : Int)]) ([[(1, false, Blk.cols mw [Col.int IntKind.u8 tw, Col.int IntKind.u8 vw]),
 (0, false, Blk.cols ml [Col.int IntKind.u8 tl, Col.int IntKind.u8 vl]),
 (9, true,
 Blk.cols (0)
 [Col.int IntKind.i64 fun j =>
 Prod.fst
 (S.at' (S.stepsT (0) (fun j => (0 : Int)) fun j => (0 : Int)) j),
 Col.int IntKind.i64 fun j =>
 Prod.fst
 (Prod.snd
 (S.at' (S.stepsT (0) (fun j => (0 : Int)) fun j => (0 : Int)) j)),
 Col.int IntKind.i64 fun j =>
 Prod.fst
 (Prod.snd
 (Prod.snd
 (S.at' (S.stepsT (0) (fun j => (0 : Int)) fun j => (0 : Int))
 j))),
 Col.bool fun j =>
 Prod.snd
 (Prod.snd
 (Prod.snd
 (S.at' (S.stepsT (0) (fun j => (0 : Int)) fun j => (0 : Int))
 j)))]),
 (5, true,
 Blk.cells
 [PV.int IntKind.i64
 ((S.newS ((1 : Int) + Int.tmod c0 (10 : Int)) (Int.tmod c1 (11 : Int))).1),
 PV.int IntKind.i64
 ((S.newS ((1 : Int) + Int.tmod c0 (10 : Int)) (Int.tmod c1 (11 : Int))).2.1),
 PV.nils, PV.int IntKind.i64 (0 : Int),
 PV.int IntKind.i64
 (Prod.fst
 ((S.newS ((1 : Int) + Int.tmod c0 (10 : Int)) (Int.tmod c1 (11 : Int))).2.2)),
 PV.tf false])]]) (10))
 (False)))
 (False))
 (False))
 (False))
 (test (true)
 (test (true)
 (test (decide (0 + nl ≤ 1000000))
 (test (true)
 (test (decide (al + nl ≤ ml))
 (test (true)
 (test (true)
 (test (true)
 (test (decide (0 + nl + nw ≤ 1000000))
 (test (decide (0 + nl ≤ 0 + nl))
 (test (decide (aw + nw ≤ mw))
 (test (true)
 (test (false)
 (test (false)
 (False)
 (False))
 (test (c9_e_3 al nl tl vl aw nw tw vw)
 (Kst (hd Try.f9 0) ([PV.loose (PA.mk (0) (2) al (0)) nl,
 PV.int IntKind.i64 ((1 : Int) + Int.tmod c0 (10 : Int)),
 PV.int IntKind.i64 (Int.tmod c1 (11 : Int)),
 PV.ptr (PA.mk (5) (0) (0) (0)),
 PV.int IntKind.i64
 ((S.newS ((1 : Int) + Int.tmod c0 (10 : Int)) (Int.tmod c1 (11 : Int))).2.2.2),
 PV.nils,
 PV.own (10) (4)
 (List.length
 (c9_e_1 al nl tl vl aw nw tw vw)),
 PV.int IntKind.i64
 (↑(List.length
 (c9_e_1 al nl tl vl aw nw tw vw)) :
 Int),
 PV.int IntKind.i64 (0 : Int)]) ([[(1, false, Blk.cols mw [Col.int IntKind.u8 tw, Col.int IntKind.u8 vw]),
 (0, false, Blk.cols ml [Col.int IntKind.u8 tl, Col.int IntKind.u8 vl]),
 (10, true,
 Blk.cols
 (List.length
 (c9_e_1 al nl tl vl aw nw tw vw))
 [Col.int IntKind.i64 fun j =>
 Prod.fst
 (S.at'
 (c9_e_1 al nl tl vl aw nw tw vw)
 j),
 Col.int IntKind.i64 fun j =>
 Prod.fst
 (Prod.snd
 (S.at'
 (S.stepsT (0 + nl + nw)
 (fun j =>
 bif Nat.blt j (0 + nl) then tl (j + al) else tw (j - (0 + nl) + aw))
 fun j =>
 bif Nat.blt j (0 + nl) then vl (j + al) else vw (j - (0 + nl) + aw))
 j)),
 Col.int IntKind.i64 fun j =>
 Prod.fst
 (Prod.snd
 (Prod.snd
 (S.at'
 (S.stepsT (0 + nl + nw)
 (fun j =>
 bif Nat.blt j (0 + nl) then tl (j + al) else tw (j - (0 + nl) + aw))
 fun j =>
 bif Nat.blt j (0 + nl) then vl (j + al) else vw (j - (0 + nl) + aw))
 j))),
 Col.bool fun j =>
 Prod.snd
 (Prod.snd
 (Prod.snd
 (S.at'
 (S.stepsT (0 + nl + nw)
 (fun j =>
 bif Nat.blt j (0 + nl) then tl (j + al) else tw (j - (0 + nl) + aw))
 fun j =>
 bif Nat.blt j (0 + nl) then vl (j + al) else vw (j - (0 + nl) + aw))
 j)))]),
 (5, true,
 Blk.cells
 [PV.int IntKind.i64
 ((S.newS ((1 : Int) + Int.tmod c0 (10 : Int)) (Int.tmod c1 (11 : Int))).1),
 PV.int IntKind.i64
 ((S.newS ((1 : Int) + Int.tmod c0 (10 : Int)) (Int.tmod c1 (11 : Int))).2.1),
 PV.nils, PV.int IntKind.i64 (0 : Int),
 PV.int IntKind.i64
 (Prod.fst
 ((S.newS ((1 : Int) + Int.tmod c0 (10 : Int)) (Int.tmod c1 (11 : Int))).2.2)),
 PV.tf false])]]) (11))
 (False)))
 (False))
 (False))
 (False))
 (False))
 (False))
 (test (decide
 (0 + (0 + nl) ≤ 0 + nl ∧
 0 + nl ≤ 900000 ∧
 (S.bytes (0 + nl) fun j => tl (j + al)) = true ∧
 (S.bytes (0 + nl) fun j => vl (j + al)) = true))
 (Kst (hd Try.f9 0) ([PV.loose (PA.mk (0) (2) al (0)) nl,
 PV.int IntKind.i64 ((1 : Int) + Int.tmod c0 (10 : Int)),
 PV.int IntKind.i64 (Int.tmod c1 (11 : Int)),
 PV.ptr (PA.mk (5) (0) (0) (0)),
 PV.int IntKind.i64
 ((S.newS ((1 : Int) + Int.tmod c0 (10 : Int)) (Int.tmod c1 (11 : Int))).2.2.2),
 PV.nils,
 PV.own (9) (4)
 (List.length (S.stepsT (0 + nl) (fun j => tl (j + al)) fun j => vl (j + al))),
 PV.int IntKind.i64
 (↑(List.length (S.stepsT (0 + nl) (fun j => tl (j + al)) fun j => vl (j + al))) :
 Int),
 PV.int IntKind.i64 (0 : Int)]) ([[(1, false, Blk.cols mw [Col.int IntKind.u8 tw, Col.int IntKind.u8 vw]),
 (0, false, Blk.cols ml [Col.int IntKind.u8 tl, Col.int IntKind.u8 vl]),
 (9, true,
 Blk.cols
 (List.length (S.stepsT (0 + nl) (fun j => tl (j + al)) fun j => vl (j + al)))
 [Col.int IntKind.i64 fun j =>
 Prod.fst
 (S.at' (S.stepsT (0 + nl) (fun j => tl (j + al)) fun j => vl (j + al))
 j),
 Col.int IntKind.i64 fun j =>
 Prod.fst
 (Prod.snd
 (S.at'
 (S.stepsT (0 + nl) (fun j => tl (j + al)) fun j => vl (j + al)) j)),
 Col.int IntKind.i64 fun j =>
 Prod.fst
 (Prod.snd
 (Prod.snd
 (S.at'
 (S.stepsT (0 + nl) (fun j => tl (j + al)) fun j => vl (j + al)) j))),
 Col.bool fun j =>
 Prod.snd
 (Prod.snd
 (Prod.snd
 (S.at'
 (S.stepsT (0 + nl) (fun j => tl (j + al)) fun j => vl (j + al))
 j)))]),
 (5, true,
 Blk.cells
 [PV.int IntKind.i64
 ((S.newS ((1 : Int) + Int.tmod c0 (10 : Int)) (Int.tmod c1 (11 : Int))).1),
 PV.int IntKind.i64
 ((S.newS ((1 : Int) + Int.tmod c0 (10 : Int)) (Int.tmod c1 (11 : Int))).2.1),
 PV.nils, PV.int IntKind.i64 (0 : Int),
 PV.int IntKind.i64
 (Prod.fst
 ((S.newS ((1 : Int) + Int.tmod c0 (10 : Int)) (Int.tmod c1 (11 : Int))).2.2)),
 PV.tf false])]]) (10))
 (False)))
 (False))
 (False))
 (False))
 (False))
 (False))
 (test (true)
 (Kst (hd Try.f9 0) ([PV.loose (PA.mk (0) (2) al (0)) nl,
 PV.int IntKind.i64 ((1 : Int) + Int.tmod c0 (10 : Int)),
 PV.int IntKind.i64 (Int.tmod c1 (11 : Int)),
 PV.ptr (PA.mk (5) (0) (0) (0)),
 PV.int IntKind.i64
 ((S.newS ((1 : Int) + Int.tmod c0 (10 : Int)) (Int.tmod c1 (11 : Int))).2.2.2),
 PV.nils, PV.own (8) (4) (0), PV.int IntKind.i64 (0 : Int),
 PV.int IntKind.i64 (0 : Int)]) ([[(1, false, Blk.cols mw [Col.int IntKind.u8 tw, Col.int IntKind.u8 vw]),
 (0, false, Blk.cols ml [Col.int IntKind.u8 tl, Col.int IntKind.u8 vl]),
 (8, true,
 Blk.cols (0)
 [Col.int IntKind.i64 fun j => (S.at' ([] : List (Int × Int × Int × Bool)) j).1,
 Col.int IntKind.i64 fun j => (S.at' ([] : List (Int × Int × Int × Bool)) j).2.1,
 Col.int IntKind.i64 fun j => (S.at' ([] : List (Int × Int × Int × Bool)) j).2.2.1,
 Col.bool fun j => (S.at' ([] : List (Int × Int × Int × Bool)) j).2.2.2]),
 (5, true,
 Blk.cells
 [PV.int IntKind.i64
 ((S.newS ((1 : Int) + Int.tmod c0 (10 : Int)) (Int.tmod c1 (11 : Int))).1),
 PV.int IntKind.i64
 ((S.newS ((1 : Int) + Int.tmod c0 (10 : Int)) (Int.tmod c1 (11 : Int))).2.1),
 PV.nils, PV.int IntKind.i64 (0 : Int),
 PV.int IntKind.i64
 (Prod.fst
 ((S.newS ((1 : Int) + Int.tmod c0 (10 : Int)) (Int.tmod c1 (11 : Int))).2.2)),
 PV.tf false])]]) (9))
 (False))))
 (False))
 (False))))
 (False)))
 (False))
 (False))
 (test (false)
 (False)
 (test (true)
 (test (true)
 (test (false)
 (test (true)
 (test (true)
 (test (true)
 (test (true)
 (test (true)
 (test (decide (0 + nl ≤ 1000000))
 (test (true)
 (test (decide (al + nl ≤ ml))
 (test (true)
 (test (true)
 (test (true)
 (test (decide (0 + nl + nw ≤ 1000000))
 (test (decide (0 + nl ≤ 0 + nl))
 (test (decide (aw + nw ≤ mw))
 (test (true)
 (test (false)
 (test (false)
 (False)
 (False))
 (test (c9_e_2 al nl tl vl aw nw tw vw)
 (Kst (hd Try.f9 0) ([PV.loose (PA.mk (0) (2) al (0)) nl,
 PV.int IntKind.i64 ((1 : Int) + Int.tmod c0 (10 : Int)),
 PV.int IntKind.i64 (Int.tmod c1 (11 : Int)),
 PV.ptr (PA.mk (5) (0) (0) (0)),
 PV.int IntKind.i64
 ((S.newS ((1 : Int) + Int.tmod c0 (10 : Int)) (Int.tmod c1 (11 : Int))).2.2.2),
 PV.nils,
 PV.own (11) (4)
 (List.length
 (c9_e_0 al nl tl vl aw nw tw vw)),
 PV.int IntKind.i64
 (↑(List.length
 (c9_e_0 al nl tl vl aw nw tw vw)) :
 Int),
 PV.int IntKind.i64 (0 : Int)]) ([[(1, false, Blk.cols mw [Col.int IntKind.u8 tw, Col.int IntKind.u8 vw]),
 (0, false, Blk.cols ml [Col.int IntKind.u8 tl, Col.int IntKind.u8 vl]),
 (11, true,
 Blk.cols
 (List.length
 (c9_e_0 al nl tl vl aw nw tw vw))
 [Col.int IntKind.i64 fun j =>
 Prod.fst
 (S.at'
 (c9_e_0 al nl tl vl aw nw tw vw)
 j),
 Col.int IntKind.i64 fun j =>
 Prod.fst
 (Prod.snd
 (S.at'
 (c9_e_0 al nl tl vl aw nw tw vw)
 j)),
 Col.int IntKind.i64 fun j =>
 Prod.fst
 (Prod.snd
 (Prod.snd
 (S.at'
 (c9_e_0 al nl tl vl aw nw tw vw)
 j))),
 Col.bool fun j =>
 Prod.snd
 (Prod.snd
 (Prod.snd
 (S.at'
 (c9_e_0 al nl tl vl aw nw tw vw)
 j)))]),
 (5, true,
 Blk.cells
 [PV.int IntKind.i64
 ((S.newS ((1 : Int) + Int.tmod c0 (10 : Int)) (Int.tmod c1 (11 : Int))).1),
 PV.int IntKind.i64
 ((S.newS ((1 : Int) + Int.tmod c0 (10 : Int)) (Int.tmod c1 (11 : Int))).2.1),
 PV.nils, PV.int IntKind.i64 (0 : Int),
 PV.int IntKind.i64
 (Prod.fst
 ((S.newS ((1 : Int) + Int.tmod c0 (10 : Int)) (Int.tmod c1 (11 : Int))).2.2)),
 PV.tf false])]]) (12))
 (False)))
 (False))
 (False))
 (False))
 (False))
 (False))
 (test (decide
 (0 + (0 + nl) ≤ 0 + nl ∧
 0 + nl ≤ 900000 ∧
 (S.bytes (0 + nl) fun j => bif Nat.blt j (0) then (0 : Int) else tl (j + al)) =
 true ∧
 (S.bytes (0 + nl) fun j => bif Nat.blt j (0) then (0 : Int) else vl (j + al)) =
 true))
 (Kst (hd Try.f9 0) ([PV.loose (PA.mk (0) (2) al (0)) nl,
 PV.int IntKind.i64 ((1 : Int) + Int.tmod c0 (10 : Int)),
 PV.int IntKind.i64 (Int.tmod c1 (11 : Int)),
 PV.ptr (PA.mk (5) (0) (0) (0)),
 PV.int IntKind.i64
 ((S.newS ((1 : Int) + Int.tmod c0 (10 : Int)) (Int.tmod c1 (11 : Int))).2.2.2),
 PV.nils,
 PV.own (10) (4)
 (List.length
 (S.stepsT (0 + nl) (fun j => bif Nat.blt j (0) then (0 : Int) else tl (j + al))
 fun j => bif Nat.blt j (0) then (0 : Int) else vl (j + al))),
 PV.int IntKind.i64
 (↑(List.length
 (S.stepsT (0 + nl) (fun j => bif Nat.blt j (0) then (0 : Int) else tl (j + al))
 fun j => bif Nat.blt j (0) then (0 : Int) else vl (j + al))) :
 Int),
 PV.int IntKind.i64 (0 : Int)]) ([[(1, false, Blk.cols mw [Col.int IntKind.u8 tw, Col.int IntKind.u8 vw]),
 (0, false, Blk.cols ml [Col.int IntKind.u8 tl, Col.int IntKind.u8 vl]),
 (10, true,
 Blk.cols
 (List.length
 (S.stepsT (0 + nl) (fun j => bif Nat.blt j (0) then (0 : Int) else tl (j + al))
 fun j => bif Nat.blt j (0) then (0 : Int) else vl (j + al)))
 [Col.int IntKind.i64 fun j =>
 Prod.fst
 (S.at'
 (S.stepsT (0 + nl)
 (fun j => bif Nat.blt j (0) then (0 : Int) else tl (j + al)) fun j =>
 bif Nat.blt j (0) then (0 : Int) else vl (j + al))
 j),
 Col.int IntKind.i64 fun j =>
 Prod.fst
 (Prod.snd
 (S.at'
 (S.stepsT (0 + nl)
 (fun j => bif Nat.blt j (0) then (0 : Int) else tl (j + al)) fun j =>
 bif Nat.blt j (0) then (0 : Int) else vl (j + al))
 j)),
 Col.int IntKind.i64 fun j =>
 Prod.fst
 (Prod.snd
 (Prod.snd
 (S.at'
 (S.stepsT (0 + nl)
 (fun j => bif Nat.blt j (0) then (0 : Int) else tl (j + al)) fun j =>
 bif Nat.blt j (0) then (0 : Int) else vl (j + al))
 j))),
 Col.bool fun j =>
 Prod.snd
 (Prod.snd
 (Prod.snd
 (S.at'
 (S.stepsT (0 + nl)
 (fun j => bif Nat.blt j (0) then (0 : Int) else tl (j + al)) fun j =>
 bif Nat.blt j (0) then (0 : Int) else vl (j + al))
 j)))]),
 (5, true,
 Blk.cells
 [PV.int IntKind.i64
 ((S.newS ((1 : Int) + Int.tmod c0 (10 : Int)) (Int.tmod c1 (11 : Int))).1),
 PV.int IntKind.i64
 ((S.newS ((1 : Int) + Int.tmod c0 (10 : Int)) (Int.tmod c1 (11 : Int))).2.1),
 PV.nils, PV.int IntKind.i64 (0 : Int),
 PV.int IntKind.i64
 (Prod.fst
 ((S.newS ((1 : Int) + Int.tmod c0 (10 : Int)) (Int.tmod c1 (11 : Int))).2.2)),
 PV.tf false])]]) (11))
 (False)))
 (False))
 (False))
 (False))
 (False))
 (False))
 (test (decide (0 ≤ 0 ∧ 0 ≤ 900000 ∧ true = true ∧ true = true))
 (Kst (hd Try.f9 0) ([PV.loose (PA.mk (0) (2) al (0)) nl,
 PV.int IntKind.i64 ((1 : Int) + Int.tmod c0 (10 : Int)),
 PV.int IntKind.i64 (Int.tmod c1 (11 : Int)),
 PV.ptr (PA.mk (5) (0) (0) (0)),
 PV.int IntKind.i64
 ((S.newS ((1 : Int) + Int.tmod c0 (10 : Int)) (Int.tmod c1 (11 : Int))).2.2.2),
 PV.nils, PV.own (9) (4) (0), PV.int IntKind.i64 (0 : Int),
 PV.int IntKind.i64 (0 : Int)]) ([[(1, false, Blk.cols mw [Col.int IntKind.u8 tw, Col.int IntKind.u8 vw]),
 (0, false, Blk.cols ml [Col.int IntKind.u8 tl, Col.int IntKind.u8 vl]),
 (9, true,
 Blk.cols (0)
 [Col.int IntKind.i64 fun j =>
 Prod.fst
 (S.at' (S.stepsT (0) (fun j => (0 : Int)) fun j => (0 : Int)) j),
 Col.int IntKind.i64 fun j =>
 Prod.fst
 (Prod.snd
 (S.at' (S.stepsT (0) (fun j => (0 : Int)) fun j => (0 : Int)) j)),
 Col.int IntKind.i64 fun j =>
 Prod.fst
 (Prod.snd
 (Prod.snd
 (S.at' (S.stepsT (0) (fun j => (0 : Int)) fun j => (0 : Int))
 j))),
 Col.bool fun j =>
 Prod.snd
 (Prod.snd
 (Prod.snd
 (S.at' (S.stepsT (0) (fun j => (0 : Int)) fun j => (0 : Int))
 j)))]),
 (5, true,
 Blk.cells
 [PV.int IntKind.i64
 ((S.newS ((1 : Int) + Int.tmod c0 (10 : Int)) (Int.tmod c1 (11 : Int))).1),
 PV.int IntKind.i64
 ((S.newS ((1 : Int) + Int.tmod c0 (10 : Int)) (Int.tmod c1 (11 : Int))).2.1),
 PV.nils, PV.int IntKind.i64 (0 : Int),
 PV.int IntKind.i64
 (Prod.fst
 ((S.newS ((1 : Int) + Int.tmod c0 (10 : Int)) (Int.tmod c1 (11 : Int))).2.2)),
 PV.tf false])]]) (10))
 (False)))
 (False))
 (False))
 (False))
 (test (true)
 (test (true)
 (test (decide (0 + nl ≤ 1000000))
 (test (true)
 (test (decide (al + nl ≤ ml))
 (test (true)
 (test (true)
 (test (true)
 (test (decide (0 + nl + nw ≤ 1000000))
 (test (decide (0 + nl ≤ 0 + nl))
 (test (decide (aw + nw ≤ mw))
 (test (true)
 (test (false)
 (test (false)
 (False)
 (False))
 (test (c9_e_3 al nl tl vl aw nw tw vw)
 (Kst (hd Try.f9 0) ([PV.loose (PA.mk (0) (2) al (0)) nl,
 PV.int IntKind.i64 ((1 : Int) + Int.tmod c0 (10 : Int)),
 PV.int IntKind.i64 (Int.tmod c1 (11 : Int)),
 PV.ptr (PA.mk (5) (0) (0) (0)),
 PV.int IntKind.i64
 ((S.newS ((1 : Int) + Int.tmod c0 (10 : Int)) (Int.tmod c1 (11 : Int))).2.2.2),
 PV.nils,
 PV.own (10) (4)
 (List.length
 (c9_e_1 al nl tl vl aw nw tw vw)),
 PV.int IntKind.i64
 (↑(List.length
 (c9_e_1 al nl tl vl aw nw tw vw)) :
 Int),
 PV.int IntKind.i64 (0 : Int)]) ([[(1, false, Blk.cols mw [Col.int IntKind.u8 tw, Col.int IntKind.u8 vw]),
 (0, false, Blk.cols ml [Col.int IntKind.u8 tl, Col.int IntKind.u8 vl]),
 (10, true,
 Blk.cols
 (List.length
 (c9_e_1 al nl tl vl aw nw tw vw))
 [Col.int IntKind.i64 fun j =>
 Prod.fst
 (S.at'
 (c9_e_1 al nl tl vl aw nw tw vw)
 j),
 Col.int IntKind.i64 fun j =>
 Prod.fst
 (Prod.snd
 (S.at'
 (S.stepsT (0 + nl + nw)
 (fun j =>
 bif Nat.blt j (0 + nl) then tl (j + al) else tw (j - (0 + nl) + aw))
 fun j =>
 bif Nat.blt j (0 + nl) then vl (j + al) else vw (j - (0 + nl) + aw))
 j)),
 Col.int IntKind.i64 fun j =>
 Prod.fst
 (Prod.snd
 (Prod.snd
 (S.at'
 (S.stepsT (0 + nl + nw)
 (fun j =>
 bif Nat.blt j (0 + nl) then tl (j + al) else tw (j - (0 + nl) + aw))
 fun j =>
 bif Nat.blt j (0 + nl) then vl (j + al) else vw (j - (0 + nl) + aw))
 j))),
 Col.bool fun j =>
 Prod.snd
 (Prod.snd
 (Prod.snd
 (S.at'
 (S.stepsT (0 + nl + nw)
 (fun j =>
 bif Nat.blt j (0 + nl) then tl (j + al) else tw (j - (0 + nl) + aw))
 fun j =>
 bif Nat.blt j (0 + nl) then vl (j + al) else vw (j - (0 + nl) + aw))
 j)))]),
 (5, true,
 Blk.cells
 [PV.int IntKind.i64
 ((S.newS ((1 : Int) + Int.tmod c0 (10 : Int)) (Int.tmod c1 (11 : Int))).1),
 PV.int IntKind.i64
 ((S.newS ((1 : Int) + Int.tmod c0 (10 : Int)) (Int.tmod c1 (11 : Int))).2.1),
 PV.nils, PV.int IntKind.i64 (0 : Int),
 PV.int IntKind.i64
 (Prod.fst
 ((S.newS ((1 : Int) + Int.tmod c0 (10 : Int)) (Int.tmod c1 (11 : Int))).2.2)),
 PV.tf false])]]) (11))
 (False)))
 (False))
 (False))
 (False))
 (False))
 (False))
 (test (decide
 (0 + (0 + nl) ≤ 0 + nl ∧
 0 + nl ≤ 900000 ∧
 (S.bytes (0 + nl) fun j => tl (j + al)) = true ∧
 (S.bytes (0 + nl) fun j => vl (j + al)) = true))
 (Kst (hd Try.f9 0) ([PV.loose (PA.mk (0) (2) al (0)) nl,
 PV.int IntKind.i64 ((1 : Int) + Int.tmod c0 (10 : Int)),
 PV.int IntKind.i64 (Int.tmod c1 (11 : Int)),
 PV.ptr (PA.mk (5) (0) (0) (0)),
 PV.int IntKind.i64
 ((S.newS ((1 : Int) + Int.tmod c0 (10 : Int)) (Int.tmod c1 (11 : Int))).2.2.2),
 PV.nils,
 PV.own (9) (4)
 (List.length (S.stepsT (0 + nl) (fun j => tl (j + al)) fun j => vl (j + al))),
 PV.int IntKind.i64
 (↑(List.length (S.stepsT (0 + nl) (fun j => tl (j + al)) fun j => vl (j + al))) :
 Int),
 PV.int IntKind.i64 (0 : Int)]) ([[(1, false, Blk.cols mw [Col.int IntKind.u8 tw, Col.int IntKind.u8 vw]),
 (0, false, Blk.cols ml [Col.int IntKind.u8 tl, Col.int IntKind.u8 vl]),
 (9, true,
 Blk.cols
 (List.length (S.stepsT (0 + nl) (fun j => tl (j + al)) fun j => vl (j + al)))
 [Col.int IntKind.i64 fun j =>
 Prod.fst
 (S.at' (S.stepsT (0 + nl) (fun j => tl (j + al)) fun j => vl (j + al))
 j),
 Col.int IntKind.i64 fun j =>
 Prod.fst
 (Prod.snd
 (S.at'
 (S.stepsT (0 + nl) (fun j => tl (j + al)) fun j => vl (j + al)) j)),
 Col.int IntKind.i64 fun j =>
 Prod.fst
 (Prod.snd
 (Prod.snd
 (S.at'
 (S.stepsT (0 + nl) (fun j => tl (j + al)) fun j => vl (j + al)) j))),
 Col.bool fun j =>
 Prod.snd
 (Prod.snd
 (Prod.snd
 (S.at'
 (S.stepsT (0 + nl) (fun j => tl (j + al)) fun j => vl (j + al))
 j)))]),
 (5, true,
 Blk.cells
 [PV.int IntKind.i64
 ((S.newS ((1 : Int) + Int.tmod c0 (10 : Int)) (Int.tmod c1 (11 : Int))).1),
 PV.int IntKind.i64
 ((S.newS ((1 : Int) + Int.tmod c0 (10 : Int)) (Int.tmod c1 (11 : Int))).2.1),
 PV.nils, PV.int IntKind.i64 (0 : Int),
 PV.int IntKind.i64
 (Prod.fst
 ((S.newS ((1 : Int) + Int.tmod c0 (10 : Int)) (Int.tmod c1 (11 : Int))).2.2)),
 PV.tf false])]]) (10))
 (False)))
 (False))
 (False))
 (False))
 (False))
 (False))
 (test (true)
 (Kst (hd Try.f9 0) ([PV.loose (PA.mk (0) (2) al (0)) nl,
 PV.int IntKind.i64 ((1 : Int) + Int.tmod c0 (10 : Int)),
 PV.int IntKind.i64 (Int.tmod c1 (11 : Int)),
 PV.ptr (PA.mk (5) (0) (0) (0)),
 PV.int IntKind.i64
 ((S.newS ((1 : Int) + Int.tmod c0 (10 : Int)) (Int.tmod c1 (11 : Int))).2.2.2),
 PV.nils, PV.own (8) (4) (0), PV.int IntKind.i64 (0 : Int),
 PV.int IntKind.i64 (0 : Int)]) ([[(1, false, Blk.cols mw [Col.int IntKind.u8 tw, Col.int IntKind.u8 vw]),
 (0, false, Blk.cols ml [Col.int IntKind.u8 tl, Col.int IntKind.u8 vl]),
 (8, true,
 Blk.cols (0)
 [Col.int IntKind.i64 fun j => (S.at' ([] : List (Int × Int × Int × Bool)) j).1,
 Col.int IntKind.i64 fun j => (S.at' ([] : List (Int × Int × Int × Bool)) j).2.1,
 Col.int IntKind.i64 fun j => (S.at' ([] : List (Int × Int × Int × Bool)) j).2.2.1,
 Col.bool fun j => (S.at' ([] : List (Int × Int × Int × Bool)) j).2.2.2]),
 (5, true,
 Blk.cells
 [PV.int IntKind.i64
 ((S.newS ((1 : Int) + Int.tmod c0 (10 : Int)) (Int.tmod c1 (11 : Int))).1),
 PV.int IntKind.i64
 ((S.newS ((1 : Int) + Int.tmod c0 (10 : Int)) (Int.tmod c1 (11 : Int))).2.1),
 PV.nils, PV.int IntKind.i64 (0 : Int),
 PV.int IntKind.i64
 (Prod.fst
 ((S.newS ((1 : Int) + Int.tmod c0 (10 : Int)) (Int.tmod c1 (11 : Int))).2.2)),
 PV.tf false])]]) (9))
 (False))))
 (False))
 (False))))
 (False))
 (False)))
 (False))
 (False))
 (False)))
 (False))))
 (test (true)
 (test (true)
 (Kret (PV.tf true) ([[(1, false, Blk.cols mw [Col.int IntKind.u8 tw, Col.int IntKind.u8 vw]),
 (0, false, Blk.cols ml [Col.int IntKind.u8 tl, Col.int IntKind.u8 vl])]]) (5))
 (Kret (PV.tf false) ([[(1, false, Blk.cols mw [Col.int IntKind.u8 tw, Col.int IntKind.u8 vw]),
 (0, false, Blk.cols ml [Col.int IntKind.u8 tl, Col.int IntKind.u8 vl])]]) (5)))
 (False)))
 (False)
theorem te9 (test : Bool → Prop → Prop → Prop) (Kst : KS) (Kret : KR) (c0 : Int) (c1 : Int) (al nl ml : Nat) (tl : Nat → Int) (vl : Nat → Int) (aw nw mw : Nat) (tw : Nat → Int) (vw : Nat → Int) : run test Try.env true (xFz test) true 400 ⟨9, [.cd (mkFn Try.f9).body], argT 0 [.agg [.int .u8 c0, .int .u8 c1], .loose ⟨0, 2, al, 0⟩ nl, .loose ⟨1, 2, aw, 0⟩ nw], [[], [(0, (false, .cols ml [.int .u8 tl, .int .u8 vl])), (1, (false, .cols mw [.int .u8 tw, .int .u8 vw]))]], 2⟩ (proj 2 [1, 7, 8, 9, 10, 11, 53, 54, 55] Kst Kret) =
  Te9 test Kst Kret c0 c1 al nl ml tl vl aw nw mw tw vw := by kernel_rfl
noncomputable def T9_0 (test : Bool → Prop → Prop → Prop) (Kst : KS) (Kret : KR) (c0 : Int) (c1 : Int) (al nl ml : Nat) (tl : Nat → Int) (vl : Nat → Int) (aw nw mw : Nat) (tw : Nat → Int) (vw : Nat → Int) (x0 : Int) (x1 : Int) (x2 : Int) (x3 : Int) (x4 : Int) (x5 : Int) (x6 : Int) (x7 : Bool) (x8 : List (Int × Int × Int × Bool)) (x9 : List (Int × Int × Bool)) (x10 : List (Int × Int × Bool)) : Prop :=
  test (decide (x2 < x1))
 (test (decide ((0 : Int) ≤ x2 ∧ x2 < (↑(List.length x8) : Int)))
 (test (decide (Int.toNat x2 < List.length x8))
 (test (decide (Int.toNat x2 < List.length x8))
 (test (decide (Int.toNat x2 < List.length x8))
 (test (decide (Int.toNat x2 < List.length x8))
 (test (x2 == (↑nl : Int))
 (test (decide (0 + List.length x9 ≤ List.length x9 ∧ List.length x9 ≤ 1000000))
 (test (Prod.fst
 (Prod.snd
 (Prod.snd
 (Prod.snd
 (Prod.snd
 (Prod.snd
 (c9_0_0 x3 x4 x5 x6 x7 x9)))))) !=
 (0 : Int))
 (Kret (PV.tf false) ([[(1, false, Blk.cols mw [Col.int IntKind.u8 tw, Col.int IntKind.u8 vw]),
 (0, false, Blk.cols ml [Col.int IntKind.u8 tl, Col.int IntKind.u8 vl])]]) (9))
 (test (decide
 (0 +
 List.length
 (c9_0_9 x3 x4 x5 x6 x7 x9) ≤
 List.length
 (c9_0_9 x3 x4 x5 x6 x7 x9) ∧
 List.length
 (c9_0_9 x3 x4 x5 x6 x7 x9) ≤
 1000000))
 (test (lim IntKind.i64 ((↑nl : Int) + Int.tmod c1 (11 : Int)))
 (test (decide (x2 ≥ (↑nl : Int) + Int.tmod c1 (11 : Int)))
 (test (Prod.fst
 (Prod.snd
 (Prod.snd
 (Prod.snd
 (Prod.snd
 (Prod.snd
 (c9_0_4 x2 x3 x4 x5 x6 x7 x8 x9)))))) !=
 (8 : Int))
 (Kret (PV.tf false) ([[(1, false, Blk.cols mw [Col.int IntKind.u8 tw, Col.int IntKind.u8 vw]),
 (0, false, Blk.cols ml [Col.int IntKind.u8 tl, Col.int IntKind.u8 vl])]]) (12))
 (test (Prod.fst
 (Prod.snd
 (Prod.snd
 (Prod.snd
 (Prod.snd
 (c9_0_0 x3 x4 x5 x6 x7 x9))))))
 (test (decide
 (0 +
 List.length
 (c9_0_9 x3 x4 x5 x6 x7 x9) ≤
 List.length
 (c9_0_9 x3 x4 x5 x6 x7 x9) ∧
 List.length
 (c9_0_9 x3 x4 x5 x6 x7 x9) ≤
 1000000))
 (test (c9_0_16 x3 x4 x5 x6 x7 x9)
 (Kret (PV.tf false) ([[(1, false, Blk.cols mw [Col.int IntKind.u8 tw, Col.int IntKind.u8 vw]),
 (0, false, Blk.cols ml [Col.int IntKind.u8 tl, Col.int IntKind.u8 vl])]]) (15))
 (test (c9_0_14 x3 x4 x5 x6 x7 x9)
 (test (c9_0_11 x3 x4 x5 x6 x7 x9)
 (test (lim IntKind.i64 (x2 + (1 : Int)))
 (Kst (hd Try.f9 0) ([PV.loose (PA.mk (0) (2) al (0)) nl,
 PV.int IntKind.i64 ((1 : Int) + Int.tmod c0 (10 : Int)),
 PV.int IntKind.i64 (Int.tmod c1 (11 : Int)),
 PV.ptr (PA.mk (2) (0) (0) (0)),
 PV.int IntKind.i64
 (Prod.fst
 (Prod.snd
 (Prod.snd
 (Prod.snd
 (Prod.snd
 (Prod.snd
 (c9_0_0 x3 x4 x5 x6 x7 x9))))))),
 PV.own (5) (3) (List.length x10), PV.own (3) (4) (List.length x8),
 PV.int IntKind.i64 x1, PV.int IntKind.i64 (x2 + (1 : Int))]) ([[(1, false, Blk.cols mw [Col.int IntKind.u8 tw, Col.int IntKind.u8 vw]),
 (0, false, Blk.cols ml [Col.int IntKind.u8 tl, Col.int IntKind.u8 vl]),
 (3, true,
 Blk.cols (List.length x8)
 [Col.int IntKind.i64 fun j => (S.at' x8 j).1,
 Col.int IntKind.i64 fun j => (S.at' x8 j).2.1,
 Col.int IntKind.i64 fun j => (S.at' x8 j).2.2.1,
 Col.bool fun j => (S.at' x8 j).2.2.2]),
 (5, true,
 Blk.cols (List.length x10)
 [Col.int IntKind.i64 fun j => (S.at' x10 j).1,
 Col.int IntKind.i64 fun j => (S.at' x10 j).2.1,
 Col.bool fun j => (S.at' x10 j).2.2]),
 (2, true,
 Blk.cells
 [PV.int IntKind.i64
 (Prod.fst
 (c9_0_0 x3 x4 x5 x6 x7 x9)),
 PV.int IntKind.i64
 (Prod.fst
 (Prod.snd
 (c9_0_0 x3 x4 x5 x6 x7 x9))),
 PV.own (8) (3)
 (List.length
 (c9_0_9 x3 x4 x5 x6 x7 x9)),
 PV.int IntKind.i64
 (Prod.fst
 (Prod.snd
 (Prod.snd
 (c9_0_0 x3 x4 x5 x6 x7 x9)))),
 PV.int IntKind.i64
 (Prod.fst
 (Prod.snd
 (Prod.snd
 (Prod.snd
 (c9_0_0 x3 x4 x5 x6 x7 x9))))),
 PV.bool
 (Prod.fst
 (Prod.snd
 (Prod.snd
 (Prod.snd
 (Prod.snd
 (c9_0_0 x3 x4 x5 x6 x7 x9))))))]),
 (8, true,
 Blk.cols
 (List.length
 (c9_0_9 x3 x4 x5 x6 x7 x9))
 [Col.int IntKind.i64 fun j =>
 Prod.fst
 (S.at'
 (c9_0_9 x3 x4 x5 x6 x7 x9)
 j),
 Col.int IntKind.i64 fun j =>
 Prod.fst
 (Prod.snd
 (S.at'
 (c9_0_9 x3 x4 x5 x6 x7 x9)
 j)),
 Col.bool fun j =>
 Prod.snd
 (Prod.snd
 (S.at'
 (c9_0_9 x3 x4 x5 x6 x7 x9)
 j))])]]) (16))
 (False))
 (Kret (PV.tf false) ([[(1, false, Blk.cols mw [Col.int IntKind.u8 tw, Col.int IntKind.u8 vw]),
 (0, false, Blk.cols ml [Col.int IntKind.u8 tl, Col.int IntKind.u8 vl])]]) (16)))
 (False)))
 (False))
 (Kret (PV.tf false) ([[(1, false, Blk.cols mw [Col.int IntKind.u8 tw, Col.int IntKind.u8 vw]),
 (0, false, Blk.cols ml [Col.int IntKind.u8 tl, Col.int IntKind.u8 vl])]]) (12))))
 (test (Prod.fst
 (Prod.snd
 (Prod.snd
 (Prod.snd
 (Prod.snd
 (Prod.snd
 (c9_0_0 x3 x4 x5 x6 x7 x9)))))) !=
 (0 : Int))
 (Kret (PV.tf false) ([[(1, false, Blk.cols mw [Col.int IntKind.u8 tw, Col.int IntKind.u8 vw]),
 (0, false, Blk.cols ml [Col.int IntKind.u8 tl, Col.int IntKind.u8 vl])]]) (12))
 (test (Prod.fst
 (Prod.snd
 (Prod.snd
 (Prod.snd
 (Prod.snd
 (Prod.snd
 (c9_0_4 x2 x3 x4 x5 x6 x7 x8 x9)))))) !=
 (0 : Int))
 (Kret (PV.tf false) ([[(1, false, Blk.cols mw [Col.int IntKind.u8 tw, Col.int IntKind.u8 vw]),
 (0, false, Blk.cols ml [Col.int IntKind.u8 tl, Col.int IntKind.u8 vl])]]) (12))
 (test (decide (List.length x10 + 1 ≤ 1000000))
 (test (decide (List.length x10 ≤ List.length x10))
 (test (true)
 (test (lim IntKind.i64 (x2 + (1 : Int)))
 (Kst (hd Try.f9 0) ([PV.loose (PA.mk (0) (2) al (0)) nl,
 PV.int IntKind.i64 ((1 : Int) + Int.tmod c0 (10 : Int)),
 PV.int IntKind.i64 (Int.tmod c1 (11 : Int)),
 PV.ptr (PA.mk (2) (0) (0) (0)),
 PV.int IntKind.i64
 (Prod.fst
 (Prod.snd
 (Prod.snd
 (Prod.snd
 (Prod.snd
 (Prod.snd
 (c9_0_0 x3 x4 x5 x6 x7 x9))))))),
 PV.own (13) (3) (List.length x10 + 1),
 PV.own (3) (4) (List.length x8), PV.int IntKind.i64 x1,
 PV.int IntKind.i64 (x2 + (1 : Int))]) ([[(1, false, Blk.cols mw [Col.int IntKind.u8 tw, Col.int IntKind.u8 vw]),
 (0, false, Blk.cols ml [Col.int IntKind.u8 tl, Col.int IntKind.u8 vl]),
 (3, true,
 Blk.cols (List.length x8)
 [Col.int IntKind.i64 fun j => (S.at' x8 j).1,
 Col.int IntKind.i64 fun j => (S.at' x8 j).2.1,
 Col.int IntKind.i64 fun j => (S.at' x8 j).2.2.1,
 Col.bool fun j => (S.at' x8 j).2.2.2]),
 (13, true,
 Blk.cols (List.length x10 + 1)
 [Col.int IntKind.i64 fun j =>
 bif Nat.blt j (List.length x10) then (S.at' x10 j).1
 else (S.at' x8 (Int.toNat x2)).2.1,
 Col.int IntKind.i64 fun j =>
 bif Nat.blt j (List.length x10) then (S.at' x10 j).2.1
 else (S.at' x8 (Int.toNat x2)).2.2.1,
 Col.bool fun j =>
 bif Nat.blt j (List.length x10) then (S.at' x10 j).2.2
 else (S.at' x8 (Int.toNat x2)).2.2.2]),
 (2, true,
 Blk.cells
 [PV.int IntKind.i64
 (Prod.fst
 (c9_0_4 x2 x3 x4 x5 x6 x7 x8 x9)),
 PV.int IntKind.i64
 (Prod.fst
 (Prod.snd
 (S.putS
 (Prod.fst
 (c9_0_0 x3 x4 x5 x6 x7 x9))
 (Prod.fst
 (Prod.snd
 (c9_0_0 x3 x4 x5 x6 x7 x9)))
 (List.length
 (c9_0_9 x3 x4 x5 x6 x7 x9))
 (fun j =>
 Prod.fst
 (S.at'
 (c9_0_8 x3 x4 x5 x6 x7 x9)
 j))
 (fun j =>
 Prod.fst
 (Prod.snd
 (S.at'
 (Prod.snd
 (Prod.snd
 (Prod.snd
 (c9_0_1 x3 x4 x5 x6 x7 x9))))
 j)))
 (fun j =>
 Prod.snd
 (Prod.snd
 (S.at'
 (Prod.snd
 (Prod.snd
 (Prod.snd
 (c9_0_1 x3 x4 x5 x6 x7 x9))))
 j)))
 (Prod.fst
 (Prod.snd
 (Prod.snd
 (c9_0_0 x3 x4 x5 x6 x7 x9))))
 (Prod.fst
 (Prod.snd
 (Prod.snd
 (Prod.snd
 (c9_0_0 x3 x4 x5 x6 x7 x9)))))
 (Prod.fst
 (Prod.snd
 (Prod.snd
 (Prod.snd
 (Prod.snd
 (c9_0_0 x3 x4 x5 x6 x7 x9))))))
 ((S.at' x8 (Int.toNat x2)).2.1)
 ((S.at' x8 (Int.toNat x2)).2.2.1)
 ((S.at' x8 (Int.toNat x2)).2.2.2)))),
 PV.own (10) (3)
 (List.length
 (Prod.snd
 (Prod.snd
 (Prod.snd
 (Prod.snd
 (Prod.snd
 (Prod.snd
 (S.putS
 (Prod.fst
 (c9_0_0 x3 x4 x5 x6 x7 x9))
 (Prod.fst
 (Prod.snd
 (c9_0_0 x3 x4 x5 x6 x7 x9)))
 (List.length
 (Prod.snd
 (Prod.snd
 (Prod.snd
 (c9_0_1 x3 x4 x5 x6 x7 x9)))))
 (fun j =>
 Prod.fst
 (S.at'
 (Prod.snd
 (Prod.snd
 (Prod.snd
 (c9_0_1 x3 x4 x5 x6 x7 x9))))
 j))
 (fun j =>
 Prod.fst
 (Prod.snd
 (S.at'
 (Prod.snd
 (Prod.snd
 (Prod.snd
 (c9_0_1 x3 x4 x5 x6 x7 x9))))
 j)))
 (fun j =>
 Prod.snd
 (Prod.snd
 (S.at'
 (Prod.snd
 (Prod.snd
 (Prod.snd
 (c9_0_1 x3 x4 x5 x6 x7 x9))))
 j)))
 (Prod.fst
 (Prod.snd
 (Prod.snd
 (c9_0_0 x3 x4 x5 x6 x7 x9))))
 (Prod.fst
 (Prod.snd
 (Prod.snd
 (Prod.snd
 (c9_0_0 x3 x4 x5 x6 x7 x9)))))
 (Prod.fst
 (Prod.snd
 (c9_0_1 x3 x4 x5 x6 x7 x9)))
 ((S.at' x8 (Int.toNat x2)).2.1)
 ((S.at' x8 (Int.toNat x2)).2.2.1)
 ((S.at' x8 (Int.toNat x2)).2.2.2))))))))),
 PV.int IntKind.i64
 (Prod.fst
 (Prod.snd
 (Prod.snd
 (S.putS
 (Prod.fst
 (c9_0_0 x3 x4 x5 x6 x7 x9))
 (Prod.fst
 (Prod.snd
 (c9_0_0 x3 x4 x5 x6 x7 x9)))
 (List.length
 (c9_0_9 x3 x4 x5 x6 x7 x9))
 (fun j =>
 Prod.fst
 (S.at'
 (Prod.snd
 (Prod.snd
 (Prod.snd
 (c9_0_1 x3 x4 x5 x6 x7 x9))))
 j))
 (fun j =>
 Prod.fst
 (Prod.snd
 (S.at'
 (Prod.snd
 (Prod.snd
 (Prod.snd
 (c9_0_1 x3 x4 x5 x6 x7 x9))))
 j)))
 (fun j =>
 Prod.snd
 (Prod.snd
 (S.at'
 (Prod.snd
 (Prod.snd
 (Prod.snd
 (c9_0_1 x3 x4 x5 x6 x7 x9))))
 j)))
 (Prod.fst
 (Prod.snd
 (Prod.snd
 (c9_0_0 x3 x4 x5 x6 x7 x9))))
 (Prod.fst
 (Prod.snd
 (Prod.snd
 (Prod.snd
 (c9_0_0 x3 x4 x5 x6 x7 x9)))))
 (Prod.fst
 (Prod.snd
 (Prod.snd
 (Prod.snd
 (Prod.snd
 (c9_0_0 x3 x4 x5 x6 x7 x9))))))
 ((S.at' x8 (Int.toNat x2)).2.1)
 ((S.at' x8 (Int.toNat x2)).2.2.1)
 ((S.at' x8 (Int.toNat x2)).2.2.2))))),
 PV.int IntKind.i64
 (Prod.fst
 (Prod.snd
 (Prod.snd
 (Prod.snd
 (S.putS
 (Prod.fst
 (c9_0_0 x3 x4 x5 x6 x7 x9))
 (Prod.fst
 (Prod.snd
 (c9_0_0 x3 x4 x5 x6 x7 x9)))
 (List.length
 (c9_0_8 x3 x4 x5 x6 x7 x9))
 (fun j =>
 Prod.fst
 (S.at'
 (Prod.snd
 (Prod.snd
 (Prod.snd
 (c9_0_1 x3 x4 x5 x6 x7 x9))))
 j))
 (fun j =>
 Prod.fst
 (Prod.snd
 (S.at'
 (Prod.snd
 (Prod.snd
 (Prod.snd
 (c9_0_1 x3 x4 x5 x6 x7 x9))))
 j)))
 (fun j =>
 Prod.snd
 (Prod.snd
 (S.at'
 (Prod.snd
 (Prod.snd
 (Prod.snd
 (c9_0_1 x3 x4 x5 x6 x7 x9))))
 j)))
 (Prod.fst
 (Prod.snd
 (Prod.snd
 (c9_0_0 x3 x4 x5 x6 x7 x9))))
 (Prod.fst
 (Prod.snd
 (Prod.snd
 (Prod.snd
 (c9_0_0 x3 x4 x5 x6 x7 x9)))))
 (Prod.fst
 (Prod.snd
 (Prod.snd
 (Prod.snd
 (Prod.snd
 (c9_0_0 x3 x4 x5 x6 x7 x9))))))
 ((S.at' x8 (Int.toNat x2)).2.1)
 ((S.at' x8 (Int.toNat x2)).2.2.1)
 ((S.at' x8 (Int.toNat x2)).2.2.2)))))),
 PV.bool
 (Prod.fst
 (Prod.snd
 (Prod.snd
 (Prod.snd
 (Prod.snd
 (S.putS
 (Prod.fst
 (c9_0_0 x3 x4 x5 x6 x7 x9))
 (Prod.fst
 (Prod.snd
 (c9_0_0 x3 x4 x5 x6 x7 x9)))
 (List.length
 (Prod.snd
 (Prod.snd
 (Prod.snd
 (c9_0_1 x3 x4 x5 x6 x7 x9)))))
 (fun j =>
 Prod.fst
 (S.at'
 (Prod.snd
 (Prod.snd
 (Prod.snd
 (c9_0_1 x3 x4 x5 x6 x7 x9))))
 j))
 (fun j =>
 Prod.fst
 (Prod.snd
 (S.at'
 (Prod.snd
 (Prod.snd
 (Prod.snd
 (c9_0_1 x3 x4 x5 x6 x7 x9))))
 j)))
 (fun j =>
 Prod.snd
 (Prod.snd
 (S.at'
 (Prod.snd
 (Prod.snd
 (Prod.snd
 (c9_0_1 x3 x4 x5 x6 x7 x9))))
 j)))
 (Prod.fst
 (Prod.snd
 (Prod.snd
 (c9_0_0 x3 x4 x5 x6 x7 x9))))
 (Prod.fst
 (Prod.snd
 (Prod.snd
 (Prod.snd
 (c9_0_0 x3 x4 x5 x6 x7 x9)))))
 (Prod.fst
 (Prod.snd
 (Prod.snd
 (Prod.snd
 (Prod.snd
 (c9_0_0 x3 x4 x5 x6 x7 x9))))))
 ((S.at' x8 (Int.toNat x2)).2.1)
 ((S.at' x8 (Int.toNat x2)).2.2.1)
 ((S.at' x8 (Int.toNat x2)).2.2.2)))))))]),
 (10, true,
 Blk.cols
 (List.length
 (Prod.snd
 (Prod.snd
 (Prod.snd
 (Prod.snd
 (Prod.snd
 (Prod.snd
 (S.putS
 (Prod.fst
 (c9_0_0 x3 x4 x5 x6 x7 x9))
 (Prod.fst
 (Prod.snd
 (c9_0_0 x3 x4 x5 x6 x7 x9)))
 (List.length
 (Prod.snd
 (Prod.snd
 (Prod.snd
 (c9_0_1 x3 x4 x5 x6 x7 x9)))))
 (fun j =>
 Prod.fst
 (S.at'
 (Prod.snd
 (Prod.snd
 (Prod.snd
 (c9_0_1 x3 x4 x5 x6 x7 x9))))
 j))
 (fun j =>
 Prod.fst
 (Prod.snd
 (S.at'
 (Prod.snd
 (Prod.snd
 (Prod.snd
 (c9_0_1 x3 x4 x5 x6 x7 x9))))
 j)))
 (fun j =>
 Prod.snd
 (Prod.snd
 (S.at'
 (Prod.snd
 (Prod.snd
 (Prod.snd
 (c9_0_1 x3 x4 x5 x6 x7 x9))))
 j)))
 (Prod.fst
 (Prod.snd
 (Prod.snd
 (c9_0_0 x3 x4 x5 x6 x7 x9))))
 (Prod.fst
 (Prod.snd
 (Prod.snd
 (Prod.snd
 (c9_0_0 x3 x4 x5 x6 x7 x9)))))
 (Prod.fst
 (Prod.snd
 (Prod.snd
 (Prod.snd
 (Prod.snd
 (c9_0_0 x3 x4 x5 x6 x7 x9))))))
 ((S.at' x8 (Int.toNat x2)).2.1)
 ((S.at' x8 (Int.toNat x2)).2.2.1)
 ((S.at' x8 (Int.toNat x2)).2.2.2)))))))))
 [Col.int IntKind.i64 fun j =>
 Prod.fst
 (S.at'
 (Prod.snd
 (Prod.snd
 (Prod.snd
 (Prod.snd
 (Prod.snd
 (Prod.snd
 (S.putS
 (Prod.fst
 (c9_0_0 x3 x4 x5 x6 x7 x9))
 (Prod.fst
 (Prod.snd
 (c9_0_0 x3 x4 x5 x6 x7 x9)))
 (List.length
 (Prod.snd
 (Prod.snd
 (Prod.snd
 (c9_0_1 x3 x4 x5 x6 x7 x9)))))
 (fun j =>
 Prod.fst
 (S.at'
 (Prod.snd
 (Prod.snd
 (Prod.snd
 (c9_0_1 x3 x4 x5 x6 x7 x9))))
 j))
 (fun j =>
 Prod.fst
 (Prod.snd
 (S.at'
 (Prod.snd
 (Prod.snd
 (Prod.snd
 (c9_0_1 x3 x4 x5 x6 x7 x9))))
 j)))
 (fun j =>
 Prod.snd
 (Prod.snd
 (S.at'
 (Prod.snd
 (Prod.snd
 (Prod.snd
 (c9_0_1 x3 x4 x5 x6 x7 x9))))
 j)))
 (Prod.fst
 (Prod.snd
 (Prod.snd
 (c9_0_0 x3 x4 x5 x6 x7 x9))))
 (Prod.fst
 (c9_0_1 x3 x4 x5 x6 x7 x9))
 (Prod.fst
 (Prod.snd
 (c9_0_1 x3 x4 x5 x6 x7 x9)))
 ((S.at' x8 (Int.toNat x2)).2.1)
 ((S.at' x8 (Int.toNat x2)).2.2.1)
 ((S.at' x8 (Int.toNat x2)).2.2.2))))))))
 j),
 Col.int IntKind.i64 fun j =>
 Prod.fst
 (Prod.snd
 (S.at'
 (Prod.snd
 (Prod.snd
 (Prod.snd
 (Prod.snd
 (Prod.snd
 (Prod.snd
 (S.putS
 (Prod.fst
 (c9_0_0 x3 x4 x5 x6 x7 x9))
 (Prod.fst
 (Prod.snd
 (c9_0_0 x3 x4 x5 x6 x7 x9)))
 (List.length
 (Prod.snd
 (Prod.snd
 (Prod.snd
 (c9_0_1 x3 x4 x5 x6 x7 x9)))))
 (fun j =>
 Prod.fst
 (S.at'
 (Prod.snd
 (Prod.snd
 (Prod.snd
 (c9_0_1 x3 x4 x5 x6 x7 x9))))
 j))
 (fun j =>
 Prod.fst
 (Prod.snd
 (S.at'
 (Prod.snd
 (Prod.snd
 (Prod.snd
 (c9_0_1 x3 x4 x5 x6 x7 x9))))
 j)))
 (fun j =>
 Prod.snd
 (Prod.snd
 (S.at'
 (Prod.snd
 (Prod.snd
 (Prod.snd
 (c9_0_1 x3 x4 x5 x6 x7 x9))))
 j)))
 (Prod.fst
 (Prod.snd
 (Prod.snd
 (S.frzS x3 x4 (List.length x9)
 (fun j => (S.at' x9 j).1)
 (fun j => (S.at' x9 j).2.1)
 (fun j => (S.at' x9 j).2.2) x5 x6 x7 (0 : Int)))))
 (Prod.fst
 (c9_0_1 x3 x4 x5 x6 x7 x9))
 (Prod.fst
 (Prod.snd
 (c9_0_1 x3 x4 x5 x6 x7 x9)))
 ((S.at' x8 (Int.toNat x2)).2.1)
 ((S.at' x8 (Int.toNat x2)).2.2.1)
 ((S.at' x8 (Int.toNat x2)).2.2.2))))))))
 j)),
 Col.bool fun j =>
 Prod.snd
 (Prod.snd
 (S.at'
 (Prod.snd
 (Prod.snd
 (Prod.snd
 (Prod.snd
 (Prod.snd
 (Prod.snd
 (S.putS
 (Prod.fst
 (c9_0_0 x3 x4 x5 x6 x7 x9))
 (Prod.fst
 (Prod.snd
 (c9_0_0 x3 x4 x5 x6 x7 x9)))
 (List.length
 (Prod.snd
 (Prod.snd
 (Prod.snd
 (c9_0_1 x3 x4 x5 x6 x7 x9)))))
 (fun j =>
 Prod.fst
 (S.at'
 (Prod.snd
 (Prod.snd
 (Prod.snd
 (c9_0_1 x3 x4 x5 x6 x7 x9))))
 j))
 (fun j =>
 Prod.fst
 (Prod.snd
 (S.at'
 (Prod.snd
 (Prod.snd
 (Prod.snd
 (c9_0_1 x3 x4 x5 x6 x7 x9))))
 j)))
 (fun j =>
 Prod.snd
 (Prod.snd
 (S.at'
 (Prod.snd
 (Prod.snd
 (Prod.snd
 (c9_0_1 x3 x4 x5 x6 x7 x9))))
 j)))
 (Prod.fst
 (Prod.snd
 (Prod.snd
 (S.frzS x3 x4 (List.length x9)
 (fun j => (S.at' x9 j).1)
 (fun j => (S.at' x9 j).2.1)
 (fun j => (S.at' x9 j).2.2) x5 x6 x7 (0 : Int)))))
 (Prod.fst
 (c9_0_1 x3 x4 x5 x6 x7 x9))
 (Prod.fst
 (Prod.snd
 (c9_0_1 x3 x4 x5 x6 x7 x9)))
 ((S.at' x8 (Int.toNat x2)).2.1)
 ((S.at' x8 (Int.toNat x2)).2.2.1)
 ((S.at' x8 (Int.toNat x2)).2.2.2))))))))
 j))])]]) (14))
 (False))
 (False))
 (False))
 (False)))))
 (False))
 (False)))
 (False))
 (test (decide (0 + List.length x9 ≤ List.length x9 ∧ List.length x9 ≤ 1000000))
 (test (lim IntKind.i64 ((↑nl : Int) + Int.tmod c1 (11 : Int)))
 (test (decide (x2 ≥ (↑nl : Int) + Int.tmod c1 (11 : Int)))
 (test (Prod.fst
 (Prod.snd
 (Prod.snd
 (Prod.snd
 (Prod.snd
 (Prod.snd
 (c9_0_7 x2 x3 x4 x5 x6 x7 x8 x9)))))) !=
 (8 : Int))
 (Kret (PV.tf false) ([[(1, false, Blk.cols mw [Col.int IntKind.u8 tw, Col.int IntKind.u8 vw]),
 (0, false, Blk.cols ml [Col.int IntKind.u8 tl, Col.int IntKind.u8 vl])]]) (10))
 (test (x7)
 (test (decide (0 + List.length x9 ≤ List.length x9 ∧ List.length x9 ≤ 1000000))
 (test (Prod.fst
 (Prod.snd
 (Prod.snd
 (Prod.snd
 (Prod.snd
 (Prod.snd
 (c9_0_12 x3 x4 x5 x6 x7 x9)))))) !=
 (0 : Int))
 (Kret (PV.tf false) ([[(1, false, Blk.cols mw [Col.int IntKind.u8 tw, Col.int IntKind.u8 vw]),
 (0, false, Blk.cols ml [Col.int IntKind.u8 tl, Col.int IntKind.u8 vl])]]) (13))
 (test (decide
 (0 +
 List.length
 (Prod.snd
 (Prod.snd
 (Prod.snd
 (Prod.snd
 (Prod.snd
 (Prod.snd
 (c9_0_12 x3 x4 x5 x6 x7 x9))))))) ≤
 List.length
 (Prod.snd
 (Prod.snd
 (Prod.snd
 (Prod.snd
 (Prod.snd
 (Prod.snd
 (c9_0_12 x3 x4 x5 x6 x7 x9))))))) ∧
 List.length
 (Prod.snd
 (Prod.snd
 (Prod.snd
 (Prod.snd
 (Prod.snd
 (Prod.snd
 (c9_0_12 x3 x4 x5 x6 x7 x9))))))) ≤
 1000000 ∧
 0 + List.length x9 ≤ List.length x9 ∧ List.length x9 ≤ 1000000))
 (test (c9_0_13 x3 x4 x5 x6 x7 x9)
 (test (lim IntKind.i64 (x2 + (1 : Int)))
 (Kst (hd Try.f9 0) ([PV.loose (PA.mk (0) (2) al (0)) nl,
 PV.int IntKind.i64 ((1 : Int) + Int.tmod c0 (10 : Int)),
 PV.int IntKind.i64 (Int.tmod c1 (11 : Int)),
 PV.ptr (PA.mk (2) (0) (0) (0)), PV.int IntKind.i64 x0,
 PV.own (5) (3) (List.length x10), PV.own (3) (4) (List.length x8),
 PV.int IntKind.i64 x1, PV.int IntKind.i64 (x2 + (1 : Int))]) ([[(1, false, Blk.cols mw [Col.int IntKind.u8 tw, Col.int IntKind.u8 vw]),
 (0, false, Blk.cols ml [Col.int IntKind.u8 tl, Col.int IntKind.u8 vl]),
 (3, true,
 Blk.cols (List.length x8)
 [Col.int IntKind.i64 fun j => (S.at' x8 j).1,
 Col.int IntKind.i64 fun j => (S.at' x8 j).2.1,
 Col.int IntKind.i64 fun j => (S.at' x8 j).2.2.1,
 Col.bool fun j => (S.at' x8 j).2.2.2]),
 (5, true,
 Blk.cols (List.length x10)
 [Col.int IntKind.i64 fun j => (S.at' x10 j).1,
 Col.int IntKind.i64 fun j => (S.at' x10 j).2.1,
 Col.bool fun j => (S.at' x10 j).2.2]),
 (2, true,
 Blk.cells
 [PV.int IntKind.i64 x3, PV.int IntKind.i64 x4,
 PV.own (4) (3) (List.length x9), PV.int IntKind.i64 x5,
 PV.int IntKind.i64 x6, PV.bool x7]),
 (4, true,
 Blk.cols (List.length x9)
 [Col.int IntKind.i64 fun j => (S.at' x9 j).1,
 Col.int IntKind.i64 fun j => (S.at' x9 j).2.1,
 Col.bool fun j => (S.at' x9 j).2.2])]]) (14))
 (False))
 (Kret (PV.tf false) ([[(1, false, Blk.cols mw [Col.int IntKind.u8 tw, Col.int IntKind.u8 vw]),
 (0, false, Blk.cols ml [Col.int IntKind.u8 tl, Col.int IntKind.u8 vl])]]) (14)))
 (False)))
 (False))
 (Kret (PV.tf false) ([[(1, false, Blk.cols mw [Col.int IntKind.u8 tw, Col.int IntKind.u8 vw]),
 (0, false, Blk.cols ml [Col.int IntKind.u8 tl, Col.int IntKind.u8 vl])]]) (10))))
 (test (x0 != (0 : Int))
 (Kret (PV.tf false) ([[(1, false, Blk.cols mw [Col.int IntKind.u8 tw, Col.int IntKind.u8 vw]),
 (0, false, Blk.cols ml [Col.int IntKind.u8 tl, Col.int IntKind.u8 vl])]]) (10))
 (test (Prod.fst
 (Prod.snd
 (Prod.snd
 (Prod.snd
 (Prod.snd
 (Prod.snd
 (c9_0_7 x2 x3 x4 x5 x6 x7 x8 x9)))))) !=
 (0 : Int))
 (Kret (PV.tf false) ([[(1, false, Blk.cols mw [Col.int IntKind.u8 tw, Col.int IntKind.u8 vw]),
 (0, false, Blk.cols ml [Col.int IntKind.u8 tl, Col.int IntKind.u8 vl])]]) (10))
 (test (decide (List.length x10 + 1 ≤ 1000000))
 (test (decide (List.length x10 ≤ List.length x10))
 (test (true)
 (test (lim IntKind.i64 (x2 + (1 : Int)))
 (Kst (hd Try.f9 0) ([PV.loose (PA.mk (0) (2) al (0)) nl,
 PV.int IntKind.i64 ((1 : Int) + Int.tmod c0 (10 : Int)),
 PV.int IntKind.i64 (Int.tmod c1 (11 : Int)),
 PV.ptr (PA.mk (2) (0) (0) (0)), PV.int IntKind.i64 x0,
 PV.own (11) (3) (List.length x10 + 1),
 PV.own (3) (4) (List.length x8), PV.int IntKind.i64 x1,
 PV.int IntKind.i64 (x2 + (1 : Int))]) ([[(1, false, Blk.cols mw [Col.int IntKind.u8 tw, Col.int IntKind.u8 vw]),
 (0, false, Blk.cols ml [Col.int IntKind.u8 tl, Col.int IntKind.u8 vl]),
 (3, true,
 Blk.cols (List.length x8)
 [Col.int IntKind.i64 fun j => (S.at' x8 j).1,
 Col.int IntKind.i64 fun j => (S.at' x8 j).2.1,
 Col.int IntKind.i64 fun j => (S.at' x8 j).2.2.1,
 Col.bool fun j => (S.at' x8 j).2.2.2]),
 (11, true,
 Blk.cols (List.length x10 + 1)
 [Col.int IntKind.i64 fun j =>
 bif Nat.blt j (List.length x10) then (S.at' x10 j).1
 else (S.at' x8 (Int.toNat x2)).2.1,
 Col.int IntKind.i64 fun j =>
 bif Nat.blt j (List.length x10) then (S.at' x10 j).2.1
 else (S.at' x8 (Int.toNat x2)).2.2.1,
 Col.bool fun j =>
 bif Nat.blt j (List.length x10) then (S.at' x10 j).2.2
 else (S.at' x8 (Int.toNat x2)).2.2.2]),
 (2, true,
 Blk.cells
 [PV.int IntKind.i64
 (Prod.fst
 (c9_0_7 x2 x3 x4 x5 x6 x7 x8 x9)),
 PV.int IntKind.i64
 (Prod.fst
 (Prod.snd
 (c9_0_7 x2 x3 x4 x5 x6 x7 x8 x9))),
 PV.own (8) (3)
 (List.length
 (Prod.snd
 (Prod.snd
 (Prod.snd
 (Prod.snd
 (Prod.snd
 (Prod.snd
 (c9_0_7 x2 x3 x4 x5 x6 x7 x8 x9)))))))),
 PV.int IntKind.i64
 (Prod.fst
 (Prod.snd
 (Prod.snd
 (c9_0_7 x2 x3 x4 x5 x6 x7 x8 x9)))),
 PV.int IntKind.i64
 (Prod.fst
 (Prod.snd
 (Prod.snd
 (Prod.snd
 (c9_0_7 x2 x3 x4 x5 x6 x7 x8 x9))))),
 PV.bool
 (Prod.fst
 (Prod.snd
 (Prod.snd
 (Prod.snd
 (Prod.snd
 (c9_0_7 x2 x3 x4 x5 x6 x7 x8 x9))))))]),
 (8, true,
 Blk.cols
 (List.length
 (Prod.snd
 (Prod.snd
 (Prod.snd
 (Prod.snd
 (Prod.snd
 (Prod.snd
 (c9_0_7 x2 x3 x4 x5 x6 x7 x8 x9))))))))
 [Col.int IntKind.i64 fun j =>
 Prod.fst
 (S.at'
 (Prod.snd
 (Prod.snd
 (Prod.snd
 (Prod.snd
 (Prod.snd
 (Prod.snd
 (c9_0_7 x2 x3 x4 x5 x6 x7 x8 x9)))))))
 j),
 Col.int IntKind.i64 fun j =>
 Prod.fst
 (Prod.snd
 (S.at'
 (Prod.snd
 (Prod.snd
 (Prod.snd
 (Prod.snd
 (Prod.snd
 (Prod.snd
 (c9_0_7 x2 x3 x4 x5 x6 x7 x8 x9)))))))
 j)),
 Col.bool fun j =>
 Prod.snd
 (Prod.snd
 (S.at'
 (Prod.snd
 (Prod.snd
 (Prod.snd
 (Prod.snd
 (Prod.snd
 (Prod.snd
 (c9_0_7 x2 x3 x4 x5 x6 x7 x8 x9)))))))
 j))])]]) (12))
 (False))
 (False))
 (False))
 (False)))))
 (False))
 (False)))
 (False))
 (False))
 (False))
 (False))
 (False))
 (test (decide (0 + List.length x9 ≤ List.length x9 ∧ List.length x9 ≤ 1000000))
 (test (Prod.fst
 (c9_0_2 x3 x4 x5 x6 x7 x9) ==
 (0 : Int))
 (test (lim IntKind.i64 ((↑(List.length x10) : Int) - ((1 : Int) + Int.tmod c0 (10 : Int))))
 (test (decide
 ((0 : Int) ≤ Max.max (0 : Int) ((↑(List.length x10) : Int) - ((1 : Int) + Int.tmod c0 (10 : Int))) ∧
 Max.max (0 : Int) ((↑(List.length x10) : Int) - ((1 : Int) + Int.tmod c0 (10 : Int))) ≤ (↑(List.length x10) : Int) ∧
 (↑(List.length x10) : Int) ≤ (↑(List.length x10) : Int)))
 (test (decide
 (0 +
 List.length
 (Prod.snd
 (c9_0_2 x3 x4 x5 x6 x7 x9)) ≤
 List.length
 (Prod.snd
 (c9_0_2 x3 x4 x5 x6 x7 x9)) ∧
 List.length
 (Prod.snd
 (c9_0_2 x3 x4 x5 x6 x7 x9)) ≤
 1000000 ∧
 Int.toNat (Max.max (0 : Int) ((↑(List.length x10) : Int) - ((1 : Int) + Int.tmod c0 (10 : Int)))) +
 (List.length x10 -
 Int.toNat (Max.max (0 : Int) ((↑(List.length x10) : Int) - ((1 : Int) + Int.tmod c0 (10 : Int))))) ≤
 List.length x10 ∧
 List.length x10 -
 Int.toNat (Max.max (0 : Int) ((↑(List.length x10) : Int) - ((1 : Int) + Int.tmod c0 (10 : Int)))) ≤
 1000000))
 (test (c9_0_15 c0 x3 x4 x5 x6 x7 x9 x10)
 (Kret (PV.tf true) ([[(1, false, Blk.cols mw [Col.int IntKind.u8 tw, Col.int IntKind.u8 vw]),
 (0, false, Blk.cols ml [Col.int IntKind.u8 tl, Col.int IntKind.u8 vl])]]) (9))
 (Kret (PV.tf false) ([[(1, false, Blk.cols mw [Col.int IntKind.u8 tw, Col.int IntKind.u8 vw]),
 (0, false, Blk.cols ml [Col.int IntKind.u8 tl, Col.int IntKind.u8 vl])]]) (9)))
 (False))
 (False))
 (False))
 (Kret (PV.tf false) ([[(1, false, Blk.cols mw [Col.int IntKind.u8 tw, Col.int IntKind.u8 vw]),
 (0, false, Blk.cols ml [Col.int IntKind.u8 tl, Col.int IntKind.u8 vl])]]) (8)))
 (False))
theorem t9_0 (test : Bool → Prop → Prop → Prop) (Kst : KS) (Kret : KR) (c0 : Int) (c1 : Int) (al nl ml : Nat) (tl : Nat → Int) (vl : Nat → Int) (aw nw mw : Nat) (tw : Nat → Int) (vw : Nat → Int) (x0 : Int) (x1 : Int) (x2 : Int) (x3 : Int) (x4 : Int) (x5 : Int) (x6 : Int) (x7 : Bool) (x8 : List (Int × Int × Int × Bool)) (x9 : List (Int × Int × Bool)) (x10 : List (Int × Int × Bool)) : run test Try.env true (xFz test) true 400 ⟨9, hd Try.f9 0, zipT [1, 7, 8, 9, 10, 11, 53, 54, 55] [PV.loose (PA.mk (0) (2) al (0)) nl,
 PV.int IntKind.i64 ((1 : Int) + Int.tmod c0 (10 : Int)),
 PV.int IntKind.i64 (Int.tmod c1 (11 : Int)),
 PV.ptr (PA.mk (2) (0) (0) (0)), PV.int IntKind.i64 x0,
 PV.own (5) (3) (List.length x10), PV.own (3) (4) (List.length x8),
 PV.int IntKind.i64 x1, PV.int IntKind.i64 x2], [[(2, (true, Blk.cells
 [PV.int IntKind.i64 x3, PV.int IntKind.i64 x4,
 PV.own (4) (3) (List.length x9), PV.int IntKind.i64 x5,
 PV.int IntKind.i64 x6, PV.bool x7])), (3, (true, Blk.cols (List.length x8)
 [Col.int IntKind.i64 fun j => (S.at' x8 j).1,
 Col.int IntKind.i64 fun j => (S.at' x8 j).2.1,
 Col.int IntKind.i64 fun j => (S.at' x8 j).2.2.1,
 Col.bool fun j => (S.at' x8 j).2.2.2])), (4, (true, Blk.cols (List.length x9)
 [Col.int IntKind.i64 fun j => (S.at' x9 j).1,
 Col.int IntKind.i64 fun j => (S.at' x9 j).2.1,
 Col.bool fun j => (S.at' x9 j).2.2])), (5, (true, Blk.cols (List.length x10)
 [Col.int IntKind.i64 fun j => (S.at' x10 j).1,
 Col.int IntKind.i64 fun j => (S.at' x10 j).2.1,
 Col.bool fun j => (S.at' x10 j).2.2]))], [(0, (false, .cols ml [.int .u8 tl, .int .u8 vl])), (1, (false, .cols mw [.int .u8 tw, .int .u8 vw]))]], 6⟩ (proj 2 [1, 7, 8, 9, 10, 11, 53, 54, 55] Kst Kret) =
  T9_0 test Kst Kret c0 c1 al nl ml tl vl aw nw mw tw vw x0 x1 x2 x3 x4 x5 x6 x7 x8 x9 x10 := by kernel_rfl
theorem be9 (c0 : Int) (c1 : Int) (al nl ml : Nat) (tl : Nat → Int) (vl : Nat → Int) (aw nw mw : Nat) (tw : Nat → Int) (vw : Nat → Int) (Kst : KS) (Kret : KR) (x : St9 ⊕ Rt9) (hS : HS 2 400 ((I9 c0 c1 al nl ml tl vl aw nw mw tw vw)) Kst x) (hR : HR 2 400 ((V9 c0 c1 al nl ml tl vl aw nw mw tw vw)) (fun r => [newL (2 + 1) ((N9 c0 c1 al nl ml tl vl aw nw mw tw vw) r) ++ [(0, (false, .cols ml [.int .u8 tl, .int .u8 vl])), (1, (false, .cols mw [.int .u8 tw, .int .u8 vw]))]]) Kret x) (h : (bif (decide ((↑nl : Int) > (60 : Int)))
 then (some (.inr (true)))
 else (bif (decide ((↑nw : Int) > (60 : Int)))
 then (some (.inr (true)))
 else (bif (lim IntKind.i64 (Int.tmod c0 (10 : Int)))
 then (bif (lim IntKind.i64 ((1 : Int) + Int.tmod c0 (10 : Int)))
 then (bif (lim IntKind.i64 (Int.tmod c1 (11 : Int)))
 then (bif (lim IntKind.i64 ((0 : Int) + (↑nl : Int)))
 then (bif (decide ((0 : Int) + (↑nl : Int) < (0 : Int)))
 then (none)
 else (bif (lim IntKind.i64 ((0 : Int) + (↑nl : Int) + (↑nw : Int)))
 then (bif (decide ((0 : Int) + (↑nl : Int) + (↑nw : Int) < (0 : Int)))
 then (none)
 else (bif (lim IntKind.i64 ((0 : Int) + (↑nl : Int) + (↑nw : Int) - (0 : Int)))
 then (bif (decide ((0 : Int) + (↑nl : Int) + (↑nw : Int) - (0 : Int) > (0 : Int)))
 then (bif (decide
 ((0 : Int) ≤ (0 : Int) + (↑nl : Int) + (↑nw : Int) - (0 : Int) ∧
 (0 : Int) + (↑nl : Int) + (↑nw : Int) - (0 : Int) ≤ (1000000 : Int)))
 then (bif (decide
 ((0 : Int) ≤ (0 : Int) ∧ (0 : Int) ≤ (↑(Int.toNat ((0 : Int) + (↑nl : Int) + (↑nw : Int) - (0 : Int))) : Int)))
 then (bif (decide (0 + nl ≤ 1000000))
 then (bif (decide (0 ≤ Int.toNat ((0 : Int) + (↑nl : Int) + (↑nw : Int) - (0 : Int))))
 then (bif (decide (al + nl ≤ ml))
 then (bif (decide (0 + nl + nw ≤ 1000000))
 then (bif (decide (0 + nl ≤ 0 + nl))
 then (bif (decide (aw + nw ≤ mw))
 then (bif (c9_e_2 al nl tl vl aw nw tw vw)
 then (some (.inl (.h0 ((S.newS ((1 : Int) + Int.tmod c0 (10 : Int)) (Int.tmod c1 (11 : Int))).2.2.2) ((↑(List.length
 (c9_e_0 al nl tl vl aw nw tw vw)) :
 Int)) ((0 : Int)) ((S.newS ((1 : Int) + Int.tmod c0 (10 : Int)) (Int.tmod c1 (11 : Int))).1) ((S.newS ((1 : Int) + Int.tmod c0 (10 : Int)) (Int.tmod c1 (11 : Int))).2.1) ((0 : Int)) ((S.newS ((1 : Int) + Int.tmod c0 (10 : Int)) (Int.tmod c1 (11 : Int))).2.2.1) (false) (c9_e_0 al nl tl vl aw nw tw vw) ([]) ([]))))
 else (none))
 else (none))
 else (none))
 else (none))
 else (none))
 else (none))
 else (none))
 else (none))
 else (none))
 else (bif (decide (0 + nl ≤ 1000000))
 then (bif (decide (al + nl ≤ ml))
 then (bif (decide (0 + nl + nw ≤ 1000000))
 then (bif (decide (0 + nl ≤ 0 + nl))
 then (bif (decide (aw + nw ≤ mw))
 then (bif (c9_e_3 al nl tl vl aw nw tw vw)
 then (some (.inl (.h0 ((S.newS ((1 : Int) + Int.tmod c0 (10 : Int)) (Int.tmod c1 (11 : Int))).2.2.2) ((↑(List.length
 (c9_e_1 al nl tl vl aw nw tw vw)) :
 Int)) ((0 : Int)) ((S.newS ((1 : Int) + Int.tmod c0 (10 : Int)) (Int.tmod c1 (11 : Int))).1) ((S.newS ((1 : Int) + Int.tmod c0 (10 : Int)) (Int.tmod c1 (11 : Int))).2.1) ((0 : Int)) ((S.newS ((1 : Int) + Int.tmod c0 (10 : Int)) (Int.tmod c1 (11 : Int))).2.2.1) (false) (c9_e_1 al nl tl vl aw nw tw vw) ([]) ([]))))
 else (none))
 else (none))
 else (none))
 else (none))
 else (none))
 else (none)))
 else (none)))
 else (none)))
 else (none))
 else (none))
 else (none))
 else (none))) : Option (St9 ⊕ Rt9)) = some x) : Te9 cond Kst Kret c0 c1 al nl ml tl vl aw nw mw tw vw := by
  unfold Te9
  exact cond_yes rfl (cond_yes rfl (bif_split h
   (fun c0 h => cond_yes rfl (cond_yes rfl (ret_at hR _ h (fun n => n) rfl rfl rfl (rn_bool_tf rfl) rfl (entl_bor (use_lo rfl) rfl rfl (entl_bor (use_lo rfl) rfl rfl entl_nil)))))
   (fun c0 h => bif_split h
   (fun c1 h => cond_yes rfl (cond_yes rfl (ret_at hR _ h (fun n => n) rfl rfl rfl (rn_bool_tf rfl) rfl (entl_bor (use_lo rfl) rfl rfl (entl_bor (use_lo rfl) rfl rfl entl_nil)))))
   (fun c1 h => cond_yes rfl (cond_no rfl (bif_split h
   (fun c2 h => bif_split h
   (fun c3 h => cond_yes rfl (cond_no rfl (bif_split h
   (fun c4 h => cond_yes rfl (cond_yes rfl (cond_yes rfl (bif_split h
   (fun c5 h => bif_split h
   (fun c6 h => no_some h)
   (fun c6 h => cond_yes rfl (cond_yes rfl (cond_yes rfl (bif_split h
   (fun c7 h => bif_split h
   (fun c8 h => no_some h)
   (fun c8 h => cond_yes rfl (cond_no rfl (cond_no c8 (cond_yes rfl (bif_split h
   (fun c9 h => bif_split h
   (fun c10 h => cond_yes rfl (bif_split h
   (fun c11 h => bif_split h
   (fun c12 h => cond_yes rfl (cond_yes rfl (bif_split h
   (fun c13 h => bif_split h
   (fun c14 h => bif_split h
   (fun c15 h => cond_yes rfl (cond_yes rfl (cond_yes rfl (bif_split h
   (fun c16 h => bif_split h
   (fun c17 h => bif_split h
   (fun c18 h => cond_yes rfl (cond_no rfl (bif_split h
   (fun c19 h => stop_at hS _ h (fun n => bif Nat.beq n 2 then 5 else bif Nat.beq n 3 then 11 else bif Nat.beq n 4 then 399 else bif Nat.beq n 5 then 398 else n) rfl rfl rfl ⟨(rn_loose (use_lo rfl) rfl rfl rfl), ⟨(rn_int rfl), ⟨(rn_int rfl), ⟨(rn_ptr (use_own rfl) rfl rfl), ⟨(rn_int rfl), ⟨(rn_own_nils rfl), ⟨(rn_own (use_own rfl) rfl rfl), ⟨(rn_int rfl), ⟨(rn_int rfl), trivial⟩⟩⟩⟩⟩⟩⟩⟩⟩ rfl (entl_b (use_own rfl) rfl (by simp) (rb_cells ⟨(rn_int rfl), (rn_int rfl), (rn_own_nils rfl), (rn_int rfl), (rn_int rfl), (rn_bool_tf rfl), trivial⟩) (entl_new (use_own rfl) rfl (Nat.le_of_eq rfl) (rcs_int (fun _ _ => rfl) (rcs_int (fun _ _ => rfl) (rcs_int (fun _ _ => rfl) (rcs_bool (fun _ _ => rfl) rcs_nil)))) (entl_fresh (use_own rfl) (fresh_ok rfl) (entl_fresh (use_own rfl) (fresh_ok rfl) (entl_bor (use_lo rfl) rfl rfl (entl_bor (use_lo rfl) rfl rfl entl_nil)))))))
   (fun c19 h => no_some h))))
   (fun c18 h => no_some h))
   (fun c17 h => no_some h))
   (fun c16 h => no_some h)))))
   (fun c15 h => no_some h))
   (fun c14 h => no_some h))
   (fun c13 h => no_some h))))
   (fun c12 h => no_some h))
   (fun c11 h => no_some h)))
   (fun c10 h => cond_yes rfl (cond_yes rfl (bif_split h
   (fun c11 h => cond_yes rfl (bif_split h
   (fun c12 h => cond_yes rfl (cond_yes rfl (cond_yes rfl (bif_split h
   (fun c13 h => bif_split h
   (fun c14 h => bif_split h
   (fun c15 h => cond_yes rfl (cond_no rfl (bif_split h
   (fun c16 h => stop_at hS _ h (fun n => bif Nat.beq n 2 then 5 else bif Nat.beq n 3 then 10 else bif Nat.beq n 4 then 399 else bif Nat.beq n 5 then 398 else n) rfl rfl rfl ⟨(rn_loose (use_lo rfl) rfl rfl rfl), ⟨(rn_int rfl), ⟨(rn_int rfl), ⟨(rn_ptr (use_own rfl) rfl rfl), ⟨(rn_int rfl), ⟨(rn_own_nils rfl), ⟨(rn_own (use_own rfl) rfl rfl), ⟨(rn_int rfl), ⟨(rn_int rfl), trivial⟩⟩⟩⟩⟩⟩⟩⟩⟩ rfl (entl_b (use_own rfl) rfl (by simp) (rb_cells ⟨(rn_int rfl), (rn_int rfl), (rn_own_nils rfl), (rn_int rfl), (rn_int rfl), (rn_bool_tf rfl), trivial⟩) (entl_new (use_own rfl) rfl (Nat.le_of_eq rfl) (rcs_int (fun _ _ => rfl) (rcs_int (fun _ _ => rfl) (rcs_int (fun _ _ => rfl) (rcs_bool (fun _ _ => rfl) rcs_nil)))) (entl_fresh (use_own rfl) (fresh_ok rfl) (entl_fresh (use_own rfl) (fresh_ok rfl) (entl_bor (use_lo rfl) rfl rfl (entl_bor (use_lo rfl) rfl rfl entl_nil)))))))
   (fun c16 h => no_some h))))
   (fun c15 h => no_some h))
   (fun c14 h => no_some h))
   (fun c13 h => no_some h)))))
   (fun c12 h => no_some h)))
   (fun c11 h => no_some h)))))
   (fun c9 h => no_some h)))))))
   (fun c7 h => no_some h))))))
   (fun c5 h => no_some h)))))
   (fun c4 h => no_some h))))
   (fun c3 h => no_some h))
   (fun c2 h => no_some h)))))))
theorem b9_0 (c0 : Int) (c1 : Int) (al nl ml : Nat) (tl : Nat → Int) (vl : Nat → Int) (aw nw mw : Nat) (tw : Nat → Int) (vw : Nat → Int) (Kst : KS) (Kret : KR) (x : St9 ⊕ Rt9) (hS : HS 2 400 ((I9 c0 c1 al nl ml tl vl aw nw mw tw vw)) Kst x) (hR : HR 2 400 ((V9 c0 c1 al nl ml tl vl aw nw mw tw vw)) (fun r => [newL (2 + 1) ((N9 c0 c1 al nl ml tl vl aw nw mw tw vw) r) ++ [(0, (false, .cols ml [.int .u8 tl, .int .u8 vl])), (1, (false, .cols mw [.int .u8 tw, .int .u8 vw]))]]) Kret x) (x0 : Int) (x1 : Int) (x2 : Int) (x3 : Int) (x4 : Int) (x5 : Int) (x6 : Int) (x7 : Bool) (x8 : List (Int × Int × Int × Bool)) (x9 : List (Int × Int × Bool)) (x10 : List (Int × Int × Bool)) (h : (bif (decide (x2 < x1))
 then (bif (decide ((0 : Int) ≤ x2 ∧ x2 < (↑(List.length x8) : Int)))
 then (bif (decide (Int.toNat x2 < List.length x8))
 then (bif (x2 == (↑nl : Int))
 then (bif (decide (0 + List.length x9 ≤ List.length x9 ∧ List.length x9 ≤ 1000000))
 then (bif (Prod.fst
 (Prod.snd
 (Prod.snd
 (Prod.snd
 (Prod.snd
 (Prod.snd
 (c9_0_0 x3 x4 x5 x6 x7 x9)))))) !=
 (0 : Int))
 then (some (.inr (false)))
 else (bif (decide
 (0 +
 List.length
 (c9_0_9 x3 x4 x5 x6 x7 x9) ≤
 List.length
 (c9_0_9 x3 x4 x5 x6 x7 x9) ∧
 List.length
 (c9_0_9 x3 x4 x5 x6 x7 x9) ≤
 1000000))
 then (bif (lim IntKind.i64 ((↑nl : Int) + Int.tmod c1 (11 : Int)))
 then (bif (decide (x2 ≥ (↑nl : Int) + Int.tmod c1 (11 : Int)))
 then (bif (Prod.fst
 (Prod.snd
 (Prod.snd
 (Prod.snd
 (Prod.snd
 (Prod.snd
 (c9_0_4 x2 x3 x4 x5 x6 x7 x8 x9)))))) !=
 (8 : Int))
 then (some (.inr (false)))
 else (bif (Prod.fst
 (Prod.snd
 (Prod.snd
 (Prod.snd
 (Prod.snd
 (c9_0_0 x3 x4 x5 x6 x7 x9))))))
 then (bif (c9_0_16 x3 x4 x5 x6 x7 x9)
 then (some (.inr (false)))
 else (bif (c9_0_14 x3 x4 x5 x6 x7 x9)
 then (bif (c9_0_11 x3 x4 x5 x6 x7 x9)
 then (bif (lim IntKind.i64 (x2 + (1 : Int)))
 then (some (.inl (.h0 (Prod.fst
 (Prod.snd
 (Prod.snd
 (Prod.snd
 (Prod.snd
 (Prod.snd
 (c9_0_0 x3 x4 x5 x6 x7 x9))))))) (x1) (x2 + (1 : Int)) (Prod.fst
 (S.frzS x3 x4 (List.length x9) (fun j => (S.at' x9 j).1)
 (fun j => (S.at' x9 j).2.1) (fun j => (S.at' x9 j).2.2)
 x5 x6 x7 (0 : Int))) (Prod.fst
 (Prod.snd
 (c9_0_0 x3 x4 x5 x6 x7 x9))) (Prod.fst
 (Prod.snd
 (Prod.snd
 (c9_0_0 x3 x4 x5 x6 x7 x9)))) (Prod.fst
 (Prod.snd
 (Prod.snd
 (Prod.snd
 (c9_0_0 x3 x4 x5 x6 x7 x9))))) (Prod.fst
 (Prod.snd
 (Prod.snd
 (Prod.snd
 (Prod.snd
 (c9_0_0 x3 x4 x5 x6 x7 x9)))))) (x8) (c9_0_9 x3 x4 x5 x6 x7 x9) (x10))))
 else (none))
 else (some (.inr (false))))
 else (none)))
 else (some (.inr (false)))))
 else (bif (Prod.fst
 (Prod.snd
 (Prod.snd
 (Prod.snd
 (Prod.snd
 (Prod.snd
 (c9_0_4 x2 x3 x4 x5 x6 x7 x8 x9)))))) !=
 (0 : Int))
 then (some (.inr (false)))
 else (bif (decide (List.length x10 + 1 ≤ 1000000))
 then (bif (decide (List.length x10 ≤ List.length x10))
 then (bif (lim IntKind.i64 (x2 + (1 : Int)))
 then (some (.inl (.h0 (Prod.fst
 (Prod.snd
 (Prod.snd
 (Prod.snd
 (Prod.snd
 (Prod.snd
 (c9_0_0 x3 x4 x5 x6 x7 x9))))))) (x1) (x2 + (1 : Int)) (Prod.fst
 (c9_0_5 x2 x3 x4 x5 x6 x7 x8 x9)) (Prod.fst
 (Prod.snd
 (c9_0_5 x2 x3 x4 x5 x6 x7 x8 x9))) (Prod.fst
 (Prod.snd
 (Prod.snd
 (c9_0_5 x2 x3 x4 x5 x6 x7 x8 x9)))) (Prod.fst
 (Prod.snd
 (Prod.snd
 (Prod.snd
 (c9_0_5 x2 x3 x4 x5 x6 x7 x8 x9))))) (Prod.fst
 (Prod.snd
 (Prod.snd
 (Prod.snd
 (Prod.snd
 (c9_0_5 x2 x3 x4 x5 x6 x7 x8 x9)))))) (x8) (Prod.snd
 (Prod.snd
 (Prod.snd
 (Prod.snd
 (Prod.snd
 (Prod.snd
 (c9_0_5 x2 x3 x4 x5 x6 x7 x8 x9))))))) (S.snoc x10
 ((S.at' x8 (Int.toNat x2)).2.1, (S.at' x8 (Int.toNat x2)).2.2.1,
 (S.at' x8 (Int.toNat x2)).2.2.2)))))
 else (none))
 else (none))
 else (none))))
 else (none))
 else (none)))
 else (none))
 else (bif (decide (0 + List.length x9 ≤ List.length x9 ∧ List.length x9 ≤ 1000000))
 then (bif (lim IntKind.i64 ((↑nl : Int) + Int.tmod c1 (11 : Int)))
 then (bif (decide (x2 ≥ (↑nl : Int) + Int.tmod c1 (11 : Int)))
 then (bif (Prod.fst
 (Prod.snd
 (Prod.snd
 (Prod.snd
 (Prod.snd
 (Prod.snd
 (c9_0_7 x2 x3 x4 x5 x6 x7 x8 x9)))))) !=
 (8 : Int))
 then (some (.inr (false)))
 else (bif (x7)
 then (bif (Prod.fst
 (Prod.snd
 (Prod.snd
 (Prod.snd
 (Prod.snd
 (Prod.snd
 (c9_0_12 x3 x4 x5 x6 x7 x9)))))) !=
 (0 : Int))
 then (some (.inr (false)))
 else (bif (decide
 (0 +
 List.length
 (Prod.snd
 (Prod.snd
 (Prod.snd
 (Prod.snd
 (Prod.snd
 (Prod.snd
 (c9_0_12 x3 x4 x5 x6 x7 x9))))))) ≤
 List.length
 (Prod.snd
 (Prod.snd
 (Prod.snd
 (Prod.snd
 (Prod.snd
 (Prod.snd
 (c9_0_12 x3 x4 x5 x6 x7 x9))))))) ∧
 List.length
 (Prod.snd
 (Prod.snd
 (Prod.snd
 (Prod.snd
 (Prod.snd
 (Prod.snd
 (c9_0_12 x3 x4 x5 x6 x7 x9))))))) ≤
 1000000 ∧
 0 + List.length x9 ≤ List.length x9 ∧ List.length x9 ≤ 1000000))
 then (bif (c9_0_13 x3 x4 x5 x6 x7 x9)
 then (bif (lim IntKind.i64 (x2 + (1 : Int)))
 then (some (.inl (.h0 (x0) (x1) (x2 + (1 : Int)) (x3) (x4) (x5) (x6) (x7) (x8) (x9) (x10))))
 else (none))
 else (some (.inr (false))))
 else (none)))
 else (some (.inr (false)))))
 else (bif (x0 != (0 : Int))
 then (some (.inr (false)))
 else (bif (Prod.fst
 (Prod.snd
 (Prod.snd
 (Prod.snd
 (Prod.snd
 (Prod.snd
 (c9_0_7 x2 x3 x4 x5 x6 x7 x8 x9)))))) !=
 (0 : Int))
 then (some (.inr (false)))
 else (bif (decide (List.length x10 + 1 ≤ 1000000))
 then (bif (decide (List.length x10 ≤ List.length x10))
 then (bif (lim IntKind.i64 (x2 + (1 : Int)))
 then (some (.inl (.h0 (x0) (x1) (x2 + (1 : Int)) (Prod.fst
 (S.putS x3 x4 (List.length x9) (fun j => (S.at' x9 j).1)
 (fun j => (S.at' x9 j).2.1) (fun j => (S.at' x9 j).2.2)
 x5 x6 x7 ((S.at' x8 (Int.toNat x2)).2.1)
 ((S.at' x8 (Int.toNat x2)).2.2.1)
 ((S.at' x8 (Int.toNat x2)).2.2.2))) (Prod.fst
 (Prod.snd
 (c9_0_7 x2 x3 x4 x5 x6 x7 x8 x9))) (Prod.fst
 (Prod.snd
 (Prod.snd
 (c9_0_7 x2 x3 x4 x5 x6 x7 x8 x9)))) (Prod.fst
 (Prod.snd
 (Prod.snd
 (Prod.snd
 (c9_0_7 x2 x3 x4 x5 x6 x7 x8 x9))))) (Prod.fst
 (Prod.snd
 (Prod.snd
 (Prod.snd
 (Prod.snd
 (c9_0_7 x2 x3 x4 x5 x6 x7 x8 x9)))))) (x8) (Prod.snd
 (Prod.snd
 (Prod.snd
 (Prod.snd
 (Prod.snd
 (Prod.snd
 (c9_0_7 x2 x3 x4 x5 x6 x7 x8 x9))))))) (S.snoc x10
 ((S.at' x8 (Int.toNat x2)).2.1, (S.at' x8 (Int.toNat x2)).2.2.1,
 (S.at' x8 (Int.toNat x2)).2.2.2)))))
 else (none))
 else (none))
 else (none)))))
 else (none))
 else (none)))
 else (none))
 else (none))
 else (bif (decide (0 + List.length x9 ≤ List.length x9 ∧ List.length x9 ≤ 1000000))
 then (bif (Prod.fst
 (c9_0_2 x3 x4 x5 x6 x7 x9) ==
 (0 : Int))
 then (bif (lim IntKind.i64 ((↑(List.length x10) : Int) - ((1 : Int) + Int.tmod c0 (10 : Int))))
 then (bif (decide
 ((0 : Int) ≤ Max.max (0 : Int) ((↑(List.length x10) : Int) - ((1 : Int) + Int.tmod c0 (10 : Int))) ∧
 Max.max (0 : Int) ((↑(List.length x10) : Int) - ((1 : Int) + Int.tmod c0 (10 : Int))) ≤ (↑(List.length x10) : Int) ∧
 (↑(List.length x10) : Int) ≤ (↑(List.length x10) : Int)))
 then (bif (decide
 (0 +
 List.length
 (Prod.snd
 (c9_0_2 x3 x4 x5 x6 x7 x9)) ≤
 List.length
 (Prod.snd
 (c9_0_2 x3 x4 x5 x6 x7 x9)) ∧
 List.length
 (Prod.snd
 (c9_0_2 x3 x4 x5 x6 x7 x9)) ≤
 1000000 ∧
 Int.toNat (Max.max (0 : Int) ((↑(List.length x10) : Int) - ((1 : Int) + Int.tmod c0 (10 : Int)))) +
 (List.length x10 -
 Int.toNat (Max.max (0 : Int) ((↑(List.length x10) : Int) - ((1 : Int) + Int.tmod c0 (10 : Int))))) ≤
 List.length x10 ∧
 List.length x10 -
 Int.toNat (Max.max (0 : Int) ((↑(List.length x10) : Int) - ((1 : Int) + Int.tmod c0 (10 : Int)))) ≤
 1000000))
 then (bif (c9_0_15 c0 x3 x4 x5 x6 x7 x9 x10)
 then (some (.inr (true)))
 else (some (.inr (false))))
 else (none))
 else (none))
 else (none))
 else (some (.inr (false))))
 else (none)) : Option (St9 ⊕ Rt9)) = some x) : T9_0 cond Kst Kret c0 c1 al nl ml tl vl aw nw mw tw vw x0 x1 x2 x3 x4 x5 x6 x7 x8 x9 x10 := by
  unfold T9_0
  refine bif_split h
   (fun c0 h => bif_split h
   (fun c1 h => bif_split h
   (fun c2 h => cond_yes c2 (cond_yes c2 (cond_yes c2 (bif_split h
   (fun c3 h => bif_split h
   (fun c4 h => bif_split h
   (fun c5 h => ?_)
   (fun c5 h => bif_split h
   (fun c6 h => bif_split h
   (fun c7 h => bif_split h
   (fun c8 h => bif_split h
   (fun c9 h => ?_)
   (fun c9 h => bif_split h
   (fun c10 h => cond_yes c6 (bif_split h
   (fun c11 h => ?_)
   (fun c11 h => bif_split h
   (fun c12 h => bif_split h
   (fun c13 h => bif_split h
   (fun c14 h => stop_at hS _ h (fun n => bif Nat.beq n 2 then 2 else bif Nat.beq n 3 then 3 else bif Nat.beq n 4 then 8 else bif Nat.beq n 5 then 5 else n) rfl rfl rfl ⟨(rn_loose (use_lo rfl) rfl rfl rfl), ⟨(rn_int rfl), ⟨(rn_int rfl), ⟨(rn_ptr (use_own rfl) rfl rfl), ⟨(rn_int rfl), ⟨(rn_own (use_own rfl) rfl rfl), ⟨(rn_own (use_own rfl) rfl rfl), ⟨(rn_int rfl), ⟨(rn_int rfl), trivial⟩⟩⟩⟩⟩⟩⟩⟩⟩ rfl (entl_b (use_own rfl) rfl (by simp) (rb_cells ⟨(rn_int rfl), (rn_int rfl), (rn_own (use_own rfl) rfl rfl), (rn_int rfl), (rn_int rfl), (rn_bool rfl), trivial⟩) (entl_new (use_own rfl) rfl (Nat.le_of_eq rfl) (rcs_int (fun _ _ => rfl) (rcs_int (fun _ _ => rfl) (rcs_int (fun _ _ => rfl) (rcs_bool (fun _ _ => rfl) rcs_nil)))) (entl_new (use_own rfl) rfl (Nat.le_of_eq rfl) (rcs_int (fun _ _ => rfl) (rcs_int (fun _ _ => rfl) (rcs_bool (fun _ _ => rfl) rcs_nil))) (entl_new (use_own rfl) rfl (Nat.le_of_eq rfl) (rcs_int (fun _ _ => rfl) (rcs_int (fun _ _ => rfl) (rcs_bool (fun _ _ => rfl) rcs_nil))) (entl_bor (use_lo rfl) rfl rfl (entl_bor (use_lo rfl) rfl rfl entl_nil)))))))
   (fun c14 h => ?_))
   (fun c13 h => ?_))
   (fun c12 h => ?_))))
   (fun c10 h => ?_)))
   (fun c8 h => cond_no c5 (bif_split h
   (fun c9 h => ?_)
   (fun c9 h => bif_split h
   (fun c10 h => bif_split h
   (fun c11 h => cond_yes rfl (bif_split h
   (fun c12 h => stop_at hS _ h (fun n => bif Nat.beq n 2 then 2 else bif Nat.beq n 3 then 3 else bif Nat.beq n 4 then 10 else bif Nat.beq n 5 then 13 else n) rfl rfl rfl ⟨(rn_loose (use_lo rfl) rfl rfl rfl), ⟨(rn_int rfl), ⟨(rn_int rfl), ⟨(rn_ptr (use_own rfl) rfl rfl), ⟨(rn_int rfl), ⟨(rn_own (use_own rfl) rfl (snoc_len' rfl)), ⟨(rn_own (use_own rfl) rfl rfl), ⟨(rn_int rfl), ⟨(rn_int rfl), trivial⟩⟩⟩⟩⟩⟩⟩⟩⟩ rfl (entl_b (use_own rfl) rfl (by simp) (rb_cells ⟨(rn_int rfl), (rn_int rfl), (rn_own (use_own rfl) rfl rfl), (rn_int rfl), (rn_int rfl), (rn_bool rfl), trivial⟩) (entl_new (use_own rfl) rfl (Nat.le_of_eq rfl) (rcs_int (fun _ _ => rfl) (rcs_int (fun _ _ => rfl) (rcs_int (fun _ _ => rfl) (rcs_bool (fun _ _ => rfl) rcs_nil)))) (entl_new (use_own rfl) rfl (Nat.le_of_eq rfl) (rcs_int (fun _ _ => rfl) (rcs_int (fun _ _ => rfl) (rcs_bool (fun _ _ => rfl) rcs_nil))) (entl_new (use_own rfl) rfl (Nat.le_of_eq (snoc_len' rfl)) (rcs_int (col_snoc' (fun (t : Int × Int × Bool) => t.1) rfl (fun _ _ => rfl)) (rcs_int (col_snoc' (fun (t : Int × Int × Bool) => t.2.1) rfl (fun _ _ => rfl)) (rcs_bool (col_snoc' (fun (t : Int × Int × Bool) => t.2.2) rfl (fun _ _ => rfl)) rcs_nil))) (entl_bor (use_lo rfl) rfl rfl (entl_bor (use_lo rfl) rfl rfl entl_nil)))))))
   (fun c12 h => ?_)))
   (fun c11 h => ?_))
   (fun c10 h => ?_)))))
   (fun c7 h => ?_))
   (fun c6 h => ?_)))
   (fun c4 h => ?_))
   (fun c3 h => bif_split h
   (fun c4 h => bif_split h
   (fun c5 h => bif_split h
   (fun c6 h => bif_split h
   (fun c7 h => ?_)
   (fun c7 h => bif_split h
   (fun c8 h => cond_yes c4 (bif_split h
   (fun c9 h => ?_)
   (fun c9 h => bif_split h
   (fun c10 h => bif_split h
   (fun c11 h => bif_split h
   (fun c12 h => stop_at hS _ h (fun n => bif Nat.beq n 2 then 2 else bif Nat.beq n 3 then 3 else bif Nat.beq n 4 then 4 else bif Nat.beq n 5 then 5 else n) rfl rfl rfl ⟨(rn_loose (use_lo rfl) rfl rfl rfl), ⟨(rn_int rfl), ⟨(rn_int rfl), ⟨(rn_ptr (use_own rfl) rfl rfl), ⟨(rn_int rfl), ⟨(rn_own (use_own rfl) rfl rfl), ⟨(rn_own (use_own rfl) rfl rfl), ⟨(rn_int rfl), ⟨(rn_int rfl), trivial⟩⟩⟩⟩⟩⟩⟩⟩⟩ rfl (entl_b (use_own rfl) rfl (by simp) (rb_cells ⟨(rn_int rfl), (rn_int rfl), (rn_own (use_own rfl) rfl rfl), (rn_int rfl), (rn_int rfl), (rn_bool rfl), trivial⟩) (entl_new (use_own rfl) rfl (Nat.le_of_eq rfl) (rcs_int (fun _ _ => rfl) (rcs_int (fun _ _ => rfl) (rcs_int (fun _ _ => rfl) (rcs_bool (fun _ _ => rfl) rcs_nil)))) (entl_new (use_own rfl) rfl (Nat.le_of_eq rfl) (rcs_int (fun _ _ => rfl) (rcs_int (fun _ _ => rfl) (rcs_bool (fun _ _ => rfl) rcs_nil))) (entl_new (use_own rfl) rfl (Nat.le_of_eq rfl) (rcs_int (fun _ _ => rfl) (rcs_int (fun _ _ => rfl) (rcs_bool (fun _ _ => rfl) rcs_nil))) (entl_bor (use_lo rfl) rfl rfl (entl_bor (use_lo rfl) rfl rfl entl_nil)))))))
   (fun c12 h => ?_))
   (fun c11 h => ?_))
   (fun c10 h => ?_))))
   (fun c8 h => ?_)))
   (fun c6 h => bif_split h
   (fun c7 h => ?_)
   (fun c7 h => bif_split h
   (fun c8 h => ?_)
   (fun c8 h => bif_split h
   (fun c9 h => bif_split h
   (fun c10 h => cond_yes rfl (bif_split h
   (fun c11 h => stop_at hS _ h (fun n => bif Nat.beq n 2 then 2 else bif Nat.beq n 3 then 3 else bif Nat.beq n 4 then 8 else bif Nat.beq n 5 then 11 else n) rfl rfl rfl ⟨(rn_loose (use_lo rfl) rfl rfl rfl), ⟨(rn_int rfl), ⟨(rn_int rfl), ⟨(rn_ptr (use_own rfl) rfl rfl), ⟨(rn_int rfl), ⟨(rn_own (use_own rfl) rfl (snoc_len' rfl)), ⟨(rn_own (use_own rfl) rfl rfl), ⟨(rn_int rfl), ⟨(rn_int rfl), trivial⟩⟩⟩⟩⟩⟩⟩⟩⟩ rfl (entl_b (use_own rfl) rfl (by simp) (rb_cells ⟨(rn_int rfl), (rn_int rfl), (rn_own (use_own rfl) rfl rfl), (rn_int rfl), (rn_int rfl), (rn_bool rfl), trivial⟩) (entl_new (use_own rfl) rfl (Nat.le_of_eq rfl) (rcs_int (fun _ _ => rfl) (rcs_int (fun _ _ => rfl) (rcs_int (fun _ _ => rfl) (rcs_bool (fun _ _ => rfl) rcs_nil)))) (entl_new (use_own rfl) rfl (Nat.le_of_eq rfl) (rcs_int (fun _ _ => rfl) (rcs_int (fun _ _ => rfl) (rcs_bool (fun _ _ => rfl) rcs_nil))) (entl_new (use_own rfl) rfl (Nat.le_of_eq (snoc_len' rfl)) (rcs_int (col_snoc' (fun (t : Int × Int × Bool) => t.1) rfl (fun _ _ => rfl)) (rcs_int (col_snoc' (fun (t : Int × Int × Bool) => t.2.1) rfl (fun _ _ => rfl)) (rcs_bool (col_snoc' (fun (t : Int × Int × Bool) => t.2.2) rfl (fun _ _ => rfl)) rcs_nil))) (entl_bor (use_lo rfl) rfl rfl (entl_bor (use_lo rfl) rfl rfl entl_nil)))))))
   (fun c11 h => ?_)))
   (fun c10 h => ?_))
   (fun c9 h => ?_)))))
   (fun c5 h => ?_))
   (fun c4 h => ?_))))))
   (fun c2 h => ?_))
   (fun c1 h => ?_))
   (fun c0 h => bif_split h
   (fun c1 h => bif_split h
   (fun c2 h => bif_split h
   (fun c3 h => bif_split h
   (fun c4 h => bif_split h
   (fun c5 h => bif_split h
   (fun c6 h => ?_)
   (fun c6 h => ?_))
   (fun c5 h => ?_))
   (fun c4 h => ?_))
   (fun c3 h => ?_))
   (fun c2 h => ?_))
   (fun c1 h => ?_))
  all_goals first
    | exact no_some h
    | exact ret_at hR _ h (fun n => n) rfl rfl rfl (rn_bool_tf rfl) rfl (entl_bor (use_lo rfl) rfl rfl (entl_bor (use_lo rfl) rfl rfl entl_nil))
theorem a9 (c0 : Int) (c1 : Int) (al nl ml : Nat) (tl : Nat → Int) (vl : Nat → Int) (aw nw mw : Nat) (tw : Nat → Int) (vw : Nat → Int) {r : Rt9} (h : Goes ((q9 c0 c1 al nl ml tl vl aw nw mw tw vw)) ((p9 c0 c1 al nl ml tl vl aw nw mw tw vw)) r) : CallR Try.prog 9 [.agg [.int .u8 c0, .int .u8 c1], .loose ⟨0, 2, al, 0⟩ nl, .loose ⟨1, 2, aw, 0⟩ nw] [[(0, (false, .cols ml [.int .u8 tl, .int .u8 vl])), (1, (false, .cols mw [.int .u8 tw, .int .u8 vw]))]] 2 ((V9 c0 c1 al nl ml tl vl aw nw mw tw vw) r) ((fun r => [newL (2 + 1) ((N9 c0 c1 al nl ml tl vl aw nw mw tw vw) r) ++ [(0, (false, .cols ml [.int .u8 tl, .int .u8 vl])), (1, (false, .cols mw [.int .u8 tw, .int .u8 vw]))]]) r) 400 ∧ ∃ F, Try.prog.funcs[9]? = some F ∧ F.body.isSome = true ∧ (F.name == "runtime.NumGoroutine") = false := by
  refine dec_calls (f := 9) (lo := 2) (hi := 400) (H := [[(0, (false, .cols ml [.int .u8 tl, .int .u8 vl])), (1, (false, .cols mw [.int .u8 tw, .int .u8 vw]))]]) (args := [.agg [.int .u8 c0, .int .u8 c1], .loose ⟨0, 2, al, 0⟩ nl, .loose ⟨1, 2, aw, 0⟩ nw]) Try.envOk Try.mixed xFz_ok ((I9 c0 c1 al nl ml tl vl aw nw mw tw vw)) ((V9 c0 c1 al nl ml tl vl aw nw mw tw vw)) (fun r => [newL (2 + 1) ((N9 c0 c1 al nl ml tl vl aw nw mw tw vw) r) ++ [(0, (false, .cols ml [.int .u8 tl, .int .u8 vl])), (1, (false, .cols mw [.int .u8 tw, .int .u8 vw]))]]) (fn := mkFn Try.f9) (ts := [1, 7, 8, 9, 10, 11, 53, 54, 55]) (n := 400) rfl (by decide) (by simp) (names_of rfl) ?_ ?_ ?_ h
  · intro s; cases s <;> exact ⟨hd_ok _ _, by simp [I9], names_of rfl, Nat.le_of_ble_eq_true rfl⟩
  · intro Kst Kret x hS hR h
    exact Holds.eq (te9 cond Kst Kret c0 c1 al nl ml tl vl aw nw mw tw vw) (be9 c0 c1 al nl ml tl vl aw nw mw tw vw Kst Kret x hS hR h)
  · intro Kst Kret x hS hR s h
    cases s with
    | h0 x0 x1 x2 x3 x4 x5 x6 x7 x8 x9 x10 => exact Holds.eq (t9_0 cond Kst Kret c0 c1 al nl ml tl vl aw nw mw tw vw x0 x1 x2 x3 x4 x5 x6 x7 x8 x9 x10) (b9_0 c0 c1 al nl ml tl vl aw nw mw tw vw Kst Kret x hS hR x0 x1 x2 x3 x4 x5 x6 x7 x8 x9 x10 h)
noncomputable def k9 : Con := ⟨9, [.agg [.plain (.int .u8), .plain (.int .u8)], .one (.list [.int .u8, .int .u8]), .one (.list [.int .u8, .int .u8])], fun (x : (Int × Int × Unit) × (Nat × Nat × Nat × (Nat → Int) × (Nat → Int) × Unit) × (Nat × Nat × Nat × (Nat → Int) × (Nat → Int) × Unit) × Unit) => (fun (c0 : Int) (c1 : Int) (al nl ml : Nat) (tl : Nat → Int) (vl : Nat → Int) (aw nw mw : Nat) (tw : Nat → Int) (vw : Nat → Int) => decide ((al + nl ≤ ml ∧ aw + nw ≤ mw) ∧ (S.byte c0 = true ∧ S.byte c1 = true) ∧ (S.bytes nl (fun j => tl (j + al)) = true ∧ S.bytes nl (fun j => vl (j + al)) = true) ∧ S.bytes nw (fun j => tw (j + aw)) = true ∧ S.bytes nw (fun j => vw (j + aw)) = true)) x.1.1 x.1.2.1 x.2.1.1 x.2.1.2.1 x.2.1.2.2.1 x.2.1.2.2.2.1 x.2.1.2.2.2.2.1 x.2.2.1.1 x.2.2.1.2.1 x.2.2.1.2.2.1 x.2.2.1.2.2.2.1 x.2.2.1.2.2.2.2.1, fun (x : (Int × Int × Unit) × (Nat × Nat × Nat × (Nat → Int) × (Nat → Int) × Unit) × (Nat × Nat × Nat × (Nat → Int) × (Nat → Int) × Unit) × Unit) => (fun (c0 : Int) (c1 : Int) (al nl ml : Nat) (tl : Nat → Int) (vl : Nat → Int) (aw nw mw : Nat) (tw : Nat → Int) (vw : Nat → Int) => (V9 c0 c1 al nl ml tl vl aw nw mw tw vw) (true)) x.1.1 x.1.2.1 x.2.1.1 x.2.1.2.1 x.2.1.2.2.1 x.2.1.2.2.2.1 x.2.1.2.2.2.2.1 x.2.2.1.1 x.2.2.1.2.1 x.2.2.1.2.2.1 x.2.2.1.2.2.2.1 x.2.2.1.2.2.2.2.1, fun (x : (Int × Int × Unit) × (Nat × Nat × Nat × (Nat → Int) × (Nat → Int) × Unit) × (Nat × Nat × Nat × (Nat → Int) × (Nat → Int) × Unit) × Unit) => (fun (c0 : Int) (c1 : Int) (al nl ml : Nat) (tl : Nat → Int) (vl : Nat → Int) (aw nw mw : Nat) (tw : Nat → Int) (vw : Nat → Int) => (N9 c0 c1 al nl ml tl vl aw nw mw tw vw) (true)) x.1.1 x.1.2.1 x.2.1.1 x.2.1.2.1 x.2.1.2.2.1 x.2.1.2.2.2.1 x.2.1.2.2.2.2.1 x.2.2.1.1 x.2.2.1.2.1 x.2.2.1.2.2.1 x.2.2.1.2.2.2.1 x.2.2.1.2.2.2.2.1, fun _ _ => .dead⟩
theorem s9' (c0 : Int) (c1 : Int) (al nl ml : Nat) (tl : Nat → Int) (vl : Nat → Int) (aw nw mw : Nat) (tw : Nat → Int) (vw : Nat → Int) (nn af : Nat) (hc0 : 1 + Int.tmod c0 10 = (nn : Int)) (hc1 : Int.tmod c1 11 = (af : Int)) (h1 : 1 ≤ nn ∧ nn ≤ 10) (ha : af ≤ 10) (hnl : nl ≤ 60) (hnw : nw ≤ 60) (LL : List (Int × Int × Int × Bool)) (row : Nat → Row) (hl : LL.length = nl + nw) (hrow : ∀ i, i < nl + nw → (S.at' LL i).2 = row i) (hr : ∀ j, j < nl + nw → S.okS (row j).1 (row j).2.1 = true ∧ (0 < j → (row (j - 1)).1 ≤ (row j).1)) : ∀ k i : Nat, i + k = nl + nw → Comes (q9 c0 c1 al nl ml tl vl aw nw mw tw vw) (.h0 0 ((nl + nw : Nat) : Int) ((i : Nat) : Int) (nn : Int) (af : Int) (S.ovN nn (min i (nl + af))) (S.reF nl af i) (S.fzF nl af i) LL (S.lastN row nn (min i (nl + af))) (S.mkl (min i (nl + af)) row)) true := by
  have ha2 : (0 : Int) ≤ (af : Int) ∧ (af : Int) ≤ 200 := by omega
  intro k
  induction k with
  | zero =>
    intro i hi
    have hm : min i (nl + af) ≤ i := Nat.min_le_left _ _
    have hv := vb_gen (nn := nn) (row := row) (i := min i (nl + af)) (af := (af : Int)) (re := S.reF nl af i) (fz := S.fzF nl af i) h1.1 (by omega) (by omega) ha2 (by unfold S.reF; split <;> omega) (fun h => by
      have := of_decide_eq_true h
      unfold S.reF; rw [if_neg (by omega)]; omega) (fun h => by
      unfold S.reF at h
      refine decide_eq_true ?_
      split at h <;> omega) (fun j hj => hr j (by omega))
    generalize S.reF nl af i = re at *
    generalize S.fzF nl af i = fz at *
    generalize min i (nl + af) = m at *
    have hA : (S.mkl m row).length = m := mkl_len
    have hM : max (0 : Int) ((m : Int) - (nn : Int)) = S.ovN nn m := by unfold S.ovN; split <;> omega
    have hO : 0 ≤ S.ovN nn m ∧ S.ovN nn m ≤ m := by rw [← hM]; omega
    have hL : (S.lastN row nn m).length = m - (S.ovN nn m).toNat := by unfold S.lastN; rw [mkl_len]; unfold S.ovN; split <;> omega
    have hQ : S.lastN row nn m = S.mkl (m - (S.ovN nn m).toNat) fun j => row (j + (S.ovN nn m).toNat) := by
      unfold S.lastN
      refine mkl_inj.2 ⟨?_, fun j hj => ?_⟩
      · unfold S.ovN; split <;> omega
      · rw [show m - min m nn = (S.ovN nn m).toNat by unfold S.ovN; split <;> omega]
    have hQ2 : decide ((S.mkl (S.lastN row nn m).length fun j => ((S.at' (S.lastN row nn m) j).1, (S.at' (S.lastN row nn m) j).2.1, (S.at' (S.lastN row nn m) j).2.2)) = S.mkl (m - (S.ovN nn m).toNat) fun j => ((S.at' (S.mkl m row) (j + (S.ovN nn m).toNat)).1, (S.at' (S.mkl m row) (j + (S.ovN nn m).toNat)).2.1, (S.at' (S.mkl m row) (j + (S.ovN nn m).toNat)).2.2)) = true := decide_eq_true (by
      rw [mkl3_at]
      refine hQ.trans (mkl_congr fun j hj => ?_)
      rw [at_mkl (by omega)])
    have hl1 : lim .i64 ((m : Int) - (nn : Int)) = true := decide_eq_true (show (-9223372036854775808 : Int) ≤ (m : Int) - (nn : Int) ∧ (m : Int) - (nn : Int) ≤ 9223372036854775807 by omega)
    have hlt : decide (((i : Nat) : Int) < ((nl + nw : Nat) : Int)) = false := decide_eq_false (by omega)
    have hk : (S.lastN row nn m).length ≤ 1000000 := by omega
    apply Comes.of
    show Goes _ _ _
    rw [q9]
    simp only [c9_0_0, c9_0_1, c9_0_2, c9_0_3, c9_0_4, c9_0_5, c9_0_6, c9_0_7, c9_0_8, c9_0_9, c9_0_10, c9_0_11, c9_0_12, c9_0_13, c9_0_14, c9_0_15, c9_0_16, hlt, hc0, hv, if_true, hA, hM, mkl3_at, hl1]
    simp only [mkl3_at] at hQ2
    simp only [hQ2]
    generalize S.lastN row nn m = B at *
    clear hQ hQ2 hrow hr hv
    show Goes _ _ _
    repeat' first
      | with_reducible exact goes_inr.mpr rfl
      | with_reducible refine goes_if (fun h => ?_) (fun h => ?_) <;> (try simp only [lim64, imp_false, decide_eq_true_eq, decide_eq_false_iff_not, Int.toNat_natCast, toNat_pred, toNat_succ, Option.getD_some, Option.getD_none, Bool.not_eq_true', Bool.not_eq_false', Bool.and_eq_true, Bool.or_eq_true, Bool.and_eq_false_iff, Bool.or_eq_false_iff, bne_iff_ne, beq_iff_eq, bne_eq_false_iff_eq, beq_eq_false_iff_ne, ne_eq, not_and, Int.not_le, Int.not_lt, ge_iff_le, gt_iff_lt, Nat.not_lt, Nat.not_le, Bool.not_eq_true, Bool.not_eq_false, Bool.true_eq_false, Bool.false_eq_true, not_false_eq_true, not_true_eq_false] at h)
      | exact goes_none.mpr (by omega)
      | fail
    all_goals first | (exfalso; omega) | exact goes_inr.mpr rfl | (exfalso; simp_all; done)
  | succ k ih =>
    intro i hi
    have ih := ih (i + 1) (by omega)
    have hc : ((i + 1 : Nat) : Int) = (i : Int) + 1 := by omega
    rw [hc] at ih
    have hrw := hrow i (by omega)
    have hri := fun j (hj : j ≤ i) => hr j (by omega)
    have hl1 : lim .i64 ((i : Int) + 1) = true := decide_eq_true (show (-9223372036854775808 : Int) ≤ (i : Int) + 1 ∧ (i : Int) + 1 ≤ 9223372036854775807 by omega)
    have hl2 : lim .i64 ((nl : Int) + (af : Int)) = true := decide_eq_true (show (-9223372036854775808 : Int) ≤ (nl : Int) + (af : Int) ∧ (nl : Int) + (af : Int) ≤ 9223372036854775807 by omega)
    have hlb : ∀ m, (S.lastN row nn m).length ≤ nn := fun m => by unfold S.lastN; rw [mkl_len]; omega
    rcases Nat.lt_trichotomy i nl with hlt | heq | hgt
    · have e1 : S.reF nl af i = -1 := if_pos (by omega)
      have e2 : S.reF nl af (i + 1) = -1 := if_pos (by omega)
      have e3 : S.fzF nl af i = false := decide_eq_false (by omega)
      have e4 : S.fzF nl af (i + 1) = false := decide_eq_false (by omega)
      have e5 : min i (nl + af) = i := by omega
      have e6 : min (i + 1) (nl + af) = i + 1 := by omega
      rw [e2, e4, e6, mkl_succ] at ih
      rw [e1, e3, e5]
      have hP := put_gen (nn := nn) (row := row) (i := i) (af := (af : Int)) (re := -1) h1.1 (by omega) (by omega) ha2 (by omega) (by omega) hri
      rw [if_neg (show ¬ (0 : Int) < -1 by decide), if_neg (show ¬ (-1 : Int) = 1 by decide)] at hP
      have hA : (S.mkl i row).length = i := mkl_len
      have hb := hlb i
      generalize S.mkl i row = A at *
      generalize S.lastN row nn i = B at *
      clear hr hrow hlb hri e1 e2 e3 e4 e5 e6
      apply Comes.of
      show Goes _ _ _
      rw [q9]
      simp only [c9_0_0, c9_0_1, c9_0_2, c9_0_3, c9_0_4, c9_0_5, c9_0_6, c9_0_7, c9_0_8, c9_0_9, c9_0_10, c9_0_11, c9_0_12, c9_0_13, c9_0_14, c9_0_15, c9_0_16, Int.toNat_natCast, hrw, hl, hP, hA, hc1, hl1, hl2, eq_self, true_and, and_true, decide_true, and_self, cond_true]
      show Goes _ _ _
      repeat' first
        | with_reducible exact goes_inr.mpr rfl
        | with_reducible refine goes_if (fun h => ?_) (fun h => ?_) <;> (try simp only [lim64, imp_false, decide_eq_true_eq, decide_eq_false_iff_not, Int.toNat_natCast, toNat_pred, toNat_succ, Option.getD_some, Option.getD_none, Bool.not_eq_true', Bool.not_eq_false', Bool.and_eq_true, Bool.or_eq_true, Bool.and_eq_false_iff, Bool.or_eq_false_iff, bne_iff_ne, beq_iff_eq, bne_eq_false_iff_eq, beq_eq_false_iff_ne, ne_eq, not_and, Int.not_le, Int.not_lt, ge_iff_le, gt_iff_lt, Nat.not_lt, Nat.not_le, Bool.not_eq_true, Bool.not_eq_false, Bool.true_eq_false, Bool.false_eq_true, not_false_eq_true, not_true_eq_false] at h)
        | exact goes_none.mpr (by omega)
        | fail
      all_goals first | (exfalso; omega) | exact goes_inl.mpr ih | (clear ih; exfalso; simp_all; done)
    · subst heq
      have e1 : S.reF i af i = -1 := if_pos (Nat.le_refl _)
      have e3 : S.fzF i af i = false := decide_eq_false (by omega)
      have e5 : min i (i + af) = i := by omega
      rw [e1, e3, e5]
      have hF := frz_gen (nn := nn) (row := row) (i := i) (af := (af : Int)) (re := -1) (fz := false) (x := 0) h1.1 (by omega) (by omega) ha2 (by omega) (fun h => by cases h) (fun h => by omega) (by omega) (fun j hj => hr j (by omega))
      rw [if_pos rfl, if_pos rfl] at hF
      have hA : (S.mkl i row).length = i := mkl_len
      have hb := hlb i
      by_cases hz : af = 0
      · subst hz
        have e2 : S.reF i 0 (i + 1) = 0 := by unfold S.reF; rw [if_neg (by omega)]; omega
        have e4 : S.fzF i 0 (i + 1) = true := decide_eq_true (by omega)
        have e6 : min (i + 1) (i + 0) = i := by omega
        rw [e2, e4, e6] at ih
        rw [if_pos (show ((0 : Nat) : Int) = 0 from rfl)] at hF
        have hQ := put_fz (nn := nn) (row := row) (i := i) (af := ((0 : Nat) : Int)) (a := (row i).1) (b := (row i).2.1) (c := (row i).2.2) h1.1 (by omega) (by omega) ha2 (fun j hj => hr j (by omega))
        have hG := frz_gen (nn := nn) (row := row) (i := i) (af := ((0 : Nat) : Int)) (re := 0) (fz := true) (x := 1) h1.1 (by omega) (by omega) ha2 (by omega) (fun _ => rfl) (fun _ => rfl) (by omega) (fun j hj => hr j (by omega))
        rw [if_neg (show ¬ (0 : Int) = -1 by decide), if_neg (show ¬ (0 : Int) = -1 by decide)] at hG
        simp only [show ((0 : Nat) : Int) = 0 from rfl] at hF hQ hG ih hc1 hl2 ⊢
        generalize S.mkl i row = A at *
        generalize S.lastN row nn i = B at *
        clear hr hrow hlb hri e1 e2 e3 e4 e5 e6
        apply Comes.of
        show Goes _ _ _
        rw [q9]
        simp only [c9_0_0, c9_0_1, c9_0_2, c9_0_3, c9_0_4, c9_0_5, c9_0_6, c9_0_7, c9_0_8, c9_0_9, c9_0_10, c9_0_11, c9_0_12, c9_0_13, c9_0_14, c9_0_15, c9_0_16, Int.toNat_natCast, hrw, hl, hF, hQ, hG, S.noB, hA, hc1, hl1, hl2, eq_self, true_and, and_true, decide_true, and_self, cond_true]
        show Goes _ _ _
        repeat' first
          | with_reducible exact goes_inr.mpr rfl
          | with_reducible refine goes_if (fun h => ?_) (fun h => ?_) <;> (try simp only [lim64, imp_false, decide_eq_true_eq, decide_eq_false_iff_not, Int.toNat_natCast, toNat_pred, toNat_succ, Option.getD_some, Option.getD_none, Bool.not_eq_true', Bool.not_eq_false', Bool.and_eq_true, Bool.or_eq_true, Bool.and_eq_false_iff, Bool.or_eq_false_iff, bne_iff_ne, beq_iff_eq, bne_eq_false_iff_eq, beq_eq_false_iff_ne, ne_eq, not_and, Int.not_le, Int.not_lt, ge_iff_le, gt_iff_lt, Nat.not_lt, Nat.not_le, Bool.not_eq_true, Bool.not_eq_false, Bool.true_eq_false, Bool.false_eq_true, not_false_eq_true, not_true_eq_false] at h)
          | exact goes_none.mpr (by omega)
          | fail
        all_goals first | (exfalso; omega) | exact goes_inl.mpr ih | (clear ih; exfalso; simp_all; done)
      · have e2 : S.reF i af (i + 1) = (af : Int) - 1 := by unfold S.reF; rw [if_neg (by omega)]; omega
        have e4 : S.fzF i af (i + 1) = (if (af : Int) = 1 then true else false) := by
          unfold S.fzF
          by_cases h : (af : Int) = 1
          · rw [if_pos h]; exact decide_eq_true (by omega)
          · rw [if_neg h]; exact decide_eq_false (by omega)
        have e6 : min (i + 1) (i + af) = i + 1 := by omega
        rw [e2, e4, e6, mkl_succ] at ih
        rw [if_neg (show ¬ (af : Int) = 0 by omega)] at hF
        have hP := put_gen (nn := nn) (row := row) (i := i) (af := (af : Int)) (re := (af : Int)) h1.1 (by omega) (by omega) ha2 (by omega) (by omega) hri
        rw [if_pos (show (0 : Int) < (af : Int) by omega)] at hP
        generalize (if (af : Int) = 1 then true else false) = fz at *
        generalize S.mkl i row = A at *
        generalize S.lastN row nn i = B at *
        clear hr hrow hlb hri e1 e2 e3 e4 e5 e6
        apply Comes.of
        show Goes _ _ _
        rw [q9]
        simp only [c9_0_0, c9_0_1, c9_0_2, c9_0_3, c9_0_4, c9_0_5, c9_0_6, c9_0_7, c9_0_8, c9_0_9, c9_0_10, c9_0_11, c9_0_12, c9_0_13, c9_0_14, c9_0_15, c9_0_16, Int.toNat_natCast, hrw, hl, hF, hP, hA, hc1, hl1, hl2, eq_self, true_and, and_true, decide_true, and_self, cond_true]
        show Goes _ _ _
        repeat' first
          | with_reducible exact goes_inr.mpr rfl
          | with_reducible refine goes_if (fun h => ?_) (fun h => ?_) <;> (try simp only [lim64, imp_false, decide_eq_true_eq, decide_eq_false_iff_not, Int.toNat_natCast, toNat_pred, toNat_succ, Option.getD_some, Option.getD_none, Bool.not_eq_true', Bool.not_eq_false', Bool.and_eq_true, Bool.or_eq_true, Bool.and_eq_false_iff, Bool.or_eq_false_iff, bne_iff_ne, beq_iff_eq, bne_eq_false_iff_eq, beq_eq_false_iff_ne, ne_eq, not_and, Int.not_le, Int.not_lt, ge_iff_le, gt_iff_lt, Nat.not_lt, Nat.not_le, Bool.not_eq_true, Bool.not_eq_false, Bool.true_eq_false, Bool.false_eq_true, not_false_eq_true, not_true_eq_false] at h)
          | exact goes_none.mpr (by omega)
          | fail
        all_goals first | (exfalso; omega) | exact goes_inl.mpr ih | (clear ih; exfalso; simp_all; done)
    · by_cases hz : i < nl + af
      · have e5 : min i (nl + af) = i := by omega
        have e6 : min (i + 1) (nl + af) = i + 1 := by omega
        have e1 : S.reF nl af i = ((nl + af : Nat) : Int) - (i : Int) := by unfold S.reF; rw [if_neg (by omega), e5]
        have e2 : S.reF nl af (i + 1) = ((nl + af : Nat) : Int) - (i : Int) - 1 := by unfold S.reF; rw [if_neg (by omega), e6]; omega
        have e3 : S.fzF nl af i = false := decide_eq_false (by omega)
        have e4 : S.fzF nl af (i + 1) = (if ((nl + af : Nat) : Int) - (i : Int) = 1 then true else false) := by
          unfold S.fzF
          by_cases h : ((nl + af : Nat) : Int) - (i : Int) = 1
          · rw [if_pos h]; exact decide_eq_true (by omega)
          · rw [if_neg h]; exact decide_eq_false (by omega)
        rw [e2, e4, e6, mkl_succ] at ih
        rw [e1, e3, e5]
        have hP := put_gen (nn := nn) (row := row) (i := i) (af := (af : Int)) (re := ((nl + af : Nat) : Int) - (i : Int)) h1.1 (by omega) (by omega) ha2 (by omega) (by omega) hri
        rw [if_pos (show (0 : Int) < ((nl + af : Nat) : Int) - (i : Int) by omega)] at hP
        have hA : (S.mkl i row).length = i := mkl_len
        have hb := hlb i
        generalize (if ((nl + af : Nat) : Int) - (i : Int) = 1 then true else false) = fz at *
        generalize S.mkl i row = A at *
        generalize S.lastN row nn i = B at *
        clear hr hrow hlb hri e1 e2 e3 e4 e5 e6
        apply Comes.of
        show Goes _ _ _
        rw [q9]
        simp only [c9_0_0, c9_0_1, c9_0_2, c9_0_3, c9_0_4, c9_0_5, c9_0_6, c9_0_7, c9_0_8, c9_0_9, c9_0_10, c9_0_11, c9_0_12, c9_0_13, c9_0_14, c9_0_15, c9_0_16, Int.toNat_natCast, hrw, hl, hP, hA, hc1, hl1, hl2, eq_self, true_and, and_true, decide_true, and_self, cond_true]
        show Goes _ _ _
        repeat' first
          | with_reducible exact goes_inr.mpr rfl
          | with_reducible refine goes_if (fun h => ?_) (fun h => ?_) <;> (try simp only [lim64, imp_false, decide_eq_true_eq, decide_eq_false_iff_not, Int.toNat_natCast, toNat_pred, toNat_succ, Option.getD_some, Option.getD_none, Bool.not_eq_true', Bool.not_eq_false', Bool.and_eq_true, Bool.or_eq_true, Bool.and_eq_false_iff, Bool.or_eq_false_iff, bne_iff_ne, beq_iff_eq, bne_eq_false_iff_eq, beq_eq_false_iff_ne, ne_eq, not_and, Int.not_le, Int.not_lt, ge_iff_le, gt_iff_lt, Nat.not_lt, Nat.not_le, Bool.not_eq_true, Bool.not_eq_false, Bool.true_eq_false, Bool.false_eq_true, not_false_eq_true, not_true_eq_false] at h)
          | exact goes_none.mpr (by omega)
          | fail
        all_goals first | (exfalso; omega) | exact goes_inl.mpr ih | (clear ih; exfalso; simp_all; done)
      · have e5 : min i (nl + af) = nl + af := by omega
        have e6 : min (i + 1) (nl + af) = nl + af := by omega
        have e1 : S.reF nl af i = 0 := by unfold S.reF; rw [if_neg (by omega), e5]; omega
        have e2 : S.reF nl af (i + 1) = 0 := by unfold S.reF; rw [if_neg (by omega), e6]; omega
        have e3 : S.fzF nl af i = true := decide_eq_true (by omega)
        have e4 : S.fzF nl af (i + 1) = true := decide_eq_true (by omega)
        rw [e2, e4, e6] at ih
        rw [e1, e3, e5]
        have hQ := put_fz (nn := nn) (row := row) (i := nl + af) (af := (af : Int)) (a := (row i).1) (b := (row i).2.1) (c := (row i).2.2) h1.1 (by omega) (by omega) ha2 (fun j hj => hr j (by omega))
        have hG := frz_gen (nn := nn) (row := row) (i := nl + af) (af := (af : Int)) (re := 0) (fz := true) (x := 1) h1.1 (by omega) (by omega) ha2 (by omega) (fun _ => rfl) (fun _ => rfl) (by omega) (fun j hj => hr j (by omega))
        rw [if_neg (show ¬ (0 : Int) = -1 by decide), if_neg (show ¬ (0 : Int) = -1 by decide)] at hG
        have hA : (S.mkl (nl + af) row).length = nl + af := mkl_len
        have hb := hlb (nl + af)
        generalize S.mkl (nl + af) row = A at *
        generalize S.lastN row nn (nl + af) = B at *
        clear hr hrow hlb hri e1 e2 e3 e4 e5 e6
        apply Comes.of
        show Goes _ _ _
        rw [q9]
        simp only [c9_0_0, c9_0_1, c9_0_2, c9_0_3, c9_0_4, c9_0_5, c9_0_6, c9_0_7, c9_0_8, c9_0_9, c9_0_10, c9_0_11, c9_0_12, c9_0_13, c9_0_14, c9_0_15, c9_0_16, Int.toNat_natCast, hrw, hl, hQ, hG, S.noB, hA, hc1, hl1, hl2, eq_self, true_and, and_true, decide_true, and_self, cond_true]
        show Goes _ _ _
        repeat' first
          | with_reducible exact goes_inr.mpr rfl
          | with_reducible refine goes_if (fun h => ?_) (fun h => ?_) <;> (try simp only [lim64, imp_false, decide_eq_true_eq, decide_eq_false_iff_not, Int.toNat_natCast, toNat_pred, toNat_succ, Option.getD_some, Option.getD_none, Bool.not_eq_true', Bool.not_eq_false', Bool.and_eq_true, Bool.or_eq_true, Bool.and_eq_false_iff, Bool.or_eq_false_iff, bne_iff_ne, beq_iff_eq, bne_eq_false_iff_eq, beq_eq_false_iff_ne, ne_eq, not_and, Int.not_le, Int.not_lt, ge_iff_le, gt_iff_lt, Nat.not_lt, Nat.not_le, Bool.not_eq_true, Bool.not_eq_false, Bool.true_eq_false, Bool.false_eq_true, not_false_eq_true, not_true_eq_false] at h)
          | exact goes_none.mpr (by omega)
          | fail
        all_goals first | (exfalso; omega) | exact goes_inl.mpr ih | (clear ih; exfalso; simp_all; done)
theorem stT_len {n : Nat} {t v : Nat → Int} : (S.stepsT n t v).length = n := mkl_len
theorem cat_b {n m a c : Nat} {t u : Nat → Int} (h1 : S.bytes n (fun j => t (j + a)) = true) (h2 : S.bytes m (fun j => u (j + c)) = true) : S.bytes (n + m) (fun j => bif Nat.blt j n then t (j + a) else u (j - n + c)) = true := decide_eq_true fun j hj => by
  have h1 := of_decide_eq_true h1; have h2 := of_decide_eq_true h2
  dsimp only at h1 h2
  show 0 ≤ (bif Nat.blt j n then t (j + a) else u (j - n + c)) ∧ (bif Nat.blt j n then t (j + a) else u (j - n + c)) ≤ 255
  by_cases h : j < n
  · rw [show Nat.blt j n = true by rw [Nat.blt_eq]; exact h]; exact h1 j h
  · rw [show Nat.blt j n = false by rw [← Bool.not_eq_true, Nat.blt_eq]; exact h]; exact h2 (j - n) (by omega)
theorem cat_b0 {n m a c : Nat} {t u : Nat → Int} (h1 : S.bytes n (fun j => t (j + a)) = true) (h2 : S.bytes m (fun j => u (j + c)) = true) : S.bytes (n + m) (fun j => bif Nat.blt j n then bif Nat.blt j 0 then 0 else t (j + a) else u (j - n + c)) = true := by
  have := cat_b h1 h2
  have e : (fun j => bif Nat.blt j n then bif Nat.blt j 0 then 0 else t (j + a) else u (j - n + c)) = (fun j => bif Nat.blt j n then t (j + a) else u (j - n + c)) := by
    funext j
    rw [show Nat.blt j 0 = false by rw [← Bool.not_eq_true, Nat.blt_eq]; omega]; rfl
  rw [e]; exact this
theorem s9s (c0 : Int) (c1 : Int) (al nl ml : Nat) (tl : Nat → Int) (vl : Nat → Int) (aw nw mw : Nat) (tw : Nat → Int) (vw : Nat → Int) (nn af : Nat) (hc0 : 1 + Int.tmod c0 10 = (nn : Int)) (hc1 : Int.tmod c1 11 = (af : Int)) (h1 : 1 ≤ nn ∧ nn ≤ 10) (ha : af ≤ 10) (hnl : nl ≤ 60) (hnw : nw ≤ 60) (t v : Nat → Int) (ht : S.bytes (nl + nw) t = true) (hv : S.bytes (nl + nw) v = true) : Comes (q9 c0 c1 al nl ml tl vl aw nw mw tw vw) (.h0 0 ((nl + nw : Nat) : Int) 0 (nn : Int) (af : Int) 0 (-1) false (S.stepsT (nl + nw) t v) [] []) true := by
  have hb := And.intro (of_decide_eq_true ht) (of_decide_eq_true hv)
  have hs := steps_rows hb (by omega)
  have h := s9' c0 c1 al nl ml tl vl aw nw mw tw vw nn af hc0 hc1 h1 ha hnl hnw (S.stepsT (nl + nw) t v) (fun j => (S.sumT t (j + 1), (v j).tmod 32 - 16, decide (32 ≤ v j))) stT_len (fun i hi => by unfold S.stepsT; rw [at_mkl hi]) (fun j hj => ⟨(hs j hj).1, fun h0 => by
    show S.sumT _ (j - 1 + 1) ≤ S.sumT _ (j + 1)
    rw [show j - 1 + 1 = j by omega]
    exact (hs j hj).2 h0⟩) (nl + nw) 0 (Nat.zero_add _)
  rw [Nat.zero_min] at h
  have e1 : S.ovN nn 0 = 0 := if_pos (Nat.zero_le _)
  have e2 : S.reF nl af 0 = -1 := if_pos (Nat.zero_le _)
  have e3 : S.fzF nl af 0 = false := decide_eq_false (by omega)
  have e4 : ∀ row : Nat → Row, S.lastN row nn 0 = [] := fun row => by unfold S.lastN; rw [Nat.zero_min]; rfl
  rw [e1, e2, e3, e4] at h
  exact h
theorem s9 (c0 : Int) (c1 : Int) (al nl ml : Nat) (tl : Nat → Int) (vl : Nat → Int) (aw nw mw : Nat) (tw : Nat → Int) (vw : Nat → Int) (hp : (al + nl ≤ ml ∧ aw + nw ≤ mw) ∧ (S.byte c0 = true ∧ S.byte c1 = true) ∧ (S.bytes nl (fun j => tl (j + al)) = true ∧ S.bytes nl (fun j => vl (j + al)) = true) ∧ S.bytes nw (fun j => tw (j + aw)) = true ∧ S.bytes nw (fun j => vw (j + aw)) = true) : Goes ((q9 c0 c1 al nl ml tl vl aw nw mw tw vw)) ((p9 c0 c1 al nl ml tl vl aw nw mw tw vw)) (true) := by
  obtain ⟨⟨hp1, hp2⟩, ⟨hy0, hy1⟩, ⟨hb1, hb2⟩, hb3, hb4⟩ := hp
  have hy0 := byte_facts (of_decide_eq_true hy0)
  have hy1 := byte_facts (of_decide_eq_true hy1)
  have x1 := cat_b0 hb1 hb3
  have x2 := cat_b0 hb2 hb4
  have x3 := cat_b hb1 hb3
  have x4 := cat_b hb2 hb4
  obtain ⟨nn, hnn⟩ : ∃ nn : Nat, 1 + Int.tmod c0 10 = (nn : Int) := ⟨(1 + Int.tmod c0 10).toNat, by omega⟩
  obtain ⟨af, haf⟩ : ∃ af : Nat, Int.tmod c1 11 = (af : Int) := ⟨(Int.tmod c1 11).toNat, by omega⟩
  by_cases h60 : nl ≤ 60
  case neg =>
    unfold p9
    rw [decide_eq_true (show (nl : Int) > 60 by omega)]
    exact goes_inr.mpr rfl
  by_cases g60 : nw ≤ 60
  case neg =>
    unfold p9
    rw [decide_eq_false (show ¬ (nl : Int) > 60 by omega), decide_eq_true (show (nw : Int) > 60 by omega)]
    exact goes_inr.mpr rfl
  have m1 := s9s c0 c1 al nl ml tl vl aw nw mw tw vw nn af hnn haf (by omega) (by omega) h60 g60 _ _ x1 x2
  have m2 := s9s c0 c1 al nl ml tl vl aw nw mw tw vw nn af hnn haf (by omega) (by omega) h60 g60 _ _ x3 x4
  have hn : S.newS (nn : Int) (af : Int) = ((nn : Int), (af : Int), -1, 0) := by unfold S.newS; rw [if_pos (by omega)]
  have hl0 : lim .i64 (Int.tmod c0 10) = true := decide_eq_true (show (-9223372036854775808 : Int) ≤ Int.tmod c0 10 ∧ Int.tmod c0 10 ≤ 9223372036854775807 by omega)
  unfold p9
  simp only [c9_e_0, c9_e_1, c9_e_2, c9_e_3, hl0, Nat.zero_add, Int.zero_add, Int.sub_zero, hnn, haf, hn, stT_len, x1, x2, x3, x4, eq_self, true_and, and_true]
  generalize S.stepsT (nl + nw) (fun j => bif Nat.blt j nl then bif Nat.blt j 0 then 0 else tl (j + al) else tw (j - nl + aw)) (fun j => bif Nat.blt j nl then bif Nat.blt j 0 then 0 else vl (j + al) else vw (j - nl + aw)) = L1 at *
  generalize S.stepsT (nl + nw) (fun j => bif Nat.blt j nl then tl (j + al) else tw (j - nl + aw)) (fun j => bif Nat.blt j nl then vl (j + al) else vw (j - nl + aw)) = L2 at *
  clear x1 x2 x3 x4 hb1 hb2 hb3 hb4 hn
  show Goes _ _ _
  repeat' first
    | with_reducible exact goes_inr.mpr rfl
    | with_reducible refine goes_if (fun h => ?_) (fun h => ?_) <;> (try simp only [lim64, imp_false, decide_eq_true_eq, decide_eq_false_iff_not, Int.toNat_natCast, toNat_pred, toNat_succ, Option.getD_some, Option.getD_none, Bool.not_eq_true', Bool.not_eq_false', Bool.and_eq_true, Bool.or_eq_true, Bool.and_eq_false_iff, Bool.or_eq_false_iff, bne_iff_ne, beq_iff_eq, bne_eq_false_iff_eq, beq_eq_false_iff_ne, ne_eq, not_and, Int.not_le, Int.not_lt, ge_iff_le, gt_iff_lt, Nat.not_lt, Nat.not_le, Bool.not_eq_true, Bool.not_eq_false, Bool.true_eq_false, Bool.false_eq_true, not_false_eq_true, not_true_eq_false] at h)
    | exact goes_none.mpr (by omega)
    | fail
  all_goals first | (exfalso; omega) | exact goes_inl.mpr m1 | exact goes_inl.mpr m2 | (clear m1 m2; exfalso; simp_all; done)
theorem k9_ok : k9.ok Try.prog := by
  intro x hx
  obtain ⟨⟨c0, c1, _⟩, ⟨al, nl, ml, tl, vl, _⟩, ⟨aw, nw, mw, tw, vw, _⟩, _⟩ := x
  obtain ⟨h1, h2⟩ := a9 c0 c1 al nl ml tl vl aw nw mw tw vw (s9 c0 c1 al nl ml tl vl aw nw mw tw vw (of_dec hx rfl))
  exact ⟨⟨400, (by decide : 2 + 1 + 0 ≤ 400), h1⟩, h2⟩
theorem pre9 {x : SsI k9.ss} (hx : ssFits k9.ss x) : k9.pre (ssj k9.ss x) = true := by
  obtain ⟨⟨c0, c1, u0⟩, ⟨n, t, v, u'⟩, ⟨n2, t2, v2, u2⟩, u''⟩ := x
  obtain ⟨⟨h0, h1, -⟩, ⟨hn, ht, hv, -⟩, ⟨hn2, ht2, hv2, -⟩, -⟩ := hx
  exact decide_eq_true ⟨⟨Nat.le_of_eq (Nat.zero_add _), Nat.le_of_eq (Nat.zero_add _)⟩, ⟨byte_mk h0, byte_mk h1⟩, ⟨bytes_mk ht, bytes_mk hv⟩, bytes_mk ht2, bytes_mk hv2⟩
end Go.Ev
