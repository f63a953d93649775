/-
  The parts that the statement needs, 2 of 4.
-/
import Derived.Test.YtndklmcnndilgaaV1061
namespace Go.Ev
open Go.Proofs
open Go.IntWalk
set_option linter.unusedVariables false
set_option linter.unusedSimpArgs false
set_option maxRecDepth 100000
theorem t155_0 (test : Bool → Prop → Prop → Prop) (Kst : KS) (Kret : KR) (al nl ml : Nat) (tl : Nat → Int) (ct : Int) (x0 : Int) (x1 : List Int) : run test Try.env true noX true 400 ⟨55, hd Try.f55 0, zipT [7, 8] [PV.own (1) (1) (List.length x1), PV.int IntKind.i64 x0], [[(1, (true, Blk.cols (List.length x1) [Col.int IntKind.i64 fun j => S.at' x1 j]))], [(0, (false, .cols ml [.int .i64 tl]))]], 2⟩ (proj 1 [7, 8] Kst Kret) =
  T155_0 test Kst Kret al nl ml tl ct x0 x1 := by kernel_rfl
theorem be155 (al nl ml : Nat) (tl : Nat → Int) (ct : Int) (Kst : KS) (Kret : KR) (x : St155 ⊕ Rt155) (hS : HS 1 400 ((I155 al nl ml tl ct)) Kst x) (hR : HR 1 400 ((V155 al nl ml tl ct)) (fun r => [newL (1 + 1) ((N155 al nl ml tl ct) r) ++ [(0, (false, .cols ml [.int .i64 tl]))]]) Kret x) (h : (bif (decide (ct < (0 : Int)))
 then (none)
 else (bif (lim IntKind.u64
 (S.andB IntKind.u64 (IntKind.wrap IntKind.u64 (↑nl : Int)) (4294967295 : Int) *
 S.andB IntKind.u64 (IntKind.wrap IntKind.u64 ct) (4294967295 : Int)))
 then (bif (lim IntKind.u64
 (S.shrB IntKind.u64 (IntKind.wrap IntKind.u64 (↑nl : Int)) (32 : Int) *
 S.andB IntKind.u64 (IntKind.wrap IntKind.u64 ct) (4294967295 : Int)))
 then (bif (lim IntKind.u64
 (S.shrB IntKind.u64 (IntKind.wrap IntKind.u64 (↑nl : Int)) (32 : Int) *
 S.andB IntKind.u64 (IntKind.wrap IntKind.u64 ct) (4294967295 : Int) +
 S.shrB IntKind.u64
 (S.andB IntKind.u64 (IntKind.wrap IntKind.u64 (↑nl : Int)) (4294967295 : Int) *
 S.andB IntKind.u64 (IntKind.wrap IntKind.u64 ct) (4294967295 : Int))
 (32 : Int)))
 then (bif (lim IntKind.u64
 (S.andB IntKind.u64 (IntKind.wrap IntKind.u64 (↑nl : Int)) (4294967295 : Int) *
 S.shrB IntKind.u64 (IntKind.wrap IntKind.u64 ct) (32 : Int)))
 then (bif (lim IntKind.u64
 (S.andB IntKind.u64
 (S.shrB IntKind.u64 (IntKind.wrap IntKind.u64 (↑nl : Int)) (32 : Int) *
 S.andB IntKind.u64 (IntKind.wrap IntKind.u64 ct) (4294967295 : Int) +
 S.shrB IntKind.u64
 (S.andB IntKind.u64 (IntKind.wrap IntKind.u64 (↑nl : Int)) (4294967295 : Int) *
 S.andB IntKind.u64 (IntKind.wrap IntKind.u64 ct) (4294967295 : Int))
 (32 : Int))
 (4294967295 : Int) +
 S.andB IntKind.u64 (IntKind.wrap IntKind.u64 (↑nl : Int)) (4294967295 : Int) *
 S.shrB IntKind.u64 (IntKind.wrap IntKind.u64 ct) (32 : Int)))
 then (bif (lim IntKind.u64
 (S.shrB IntKind.u64 (IntKind.wrap IntKind.u64 (↑nl : Int)) (32 : Int) *
 S.shrB IntKind.u64 (IntKind.wrap IntKind.u64 ct) (32 : Int)))
 then (bif (lim IntKind.u64
 (S.shrB IntKind.u64 (IntKind.wrap IntKind.u64 (↑nl : Int)) (32 : Int) *
 S.shrB IntKind.u64 (IntKind.wrap IntKind.u64 ct) (32 : Int) +
 S.shrB IntKind.u64
 (S.shrB IntKind.u64 (IntKind.wrap IntKind.u64 (↑nl : Int)) (32 : Int) *
 S.andB IntKind.u64 (IntKind.wrap IntKind.u64 ct) (4294967295 : Int) +
 S.shrB IntKind.u64
 (S.andB IntKind.u64 (IntKind.wrap IntKind.u64 (↑nl : Int)) (4294967295 : Int) *
 S.andB IntKind.u64 (IntKind.wrap IntKind.u64 ct) (4294967295 : Int))
 (32 : Int))
 (32 : Int)))
 then (bif (lim IntKind.u64
 (S.shrB IntKind.u64 (IntKind.wrap IntKind.u64 (↑nl : Int)) (32 : Int) *
 S.shrB IntKind.u64 (IntKind.wrap IntKind.u64 ct) (32 : Int) +
 S.shrB IntKind.u64
 (S.shrB IntKind.u64 (IntKind.wrap IntKind.u64 (↑nl : Int)) (32 : Int) *
 S.andB IntKind.u64 (IntKind.wrap IntKind.u64 ct) (4294967295 : Int) +
 S.shrB IntKind.u64
 (S.andB IntKind.u64 (IntKind.wrap IntKind.u64 (↑nl : Int)) (4294967295 : Int) *
 S.andB IntKind.u64 (IntKind.wrap IntKind.u64 ct) (4294967295 : Int))
 (32 : Int))
 (32 : Int) +
 S.shrB IntKind.u64
 (S.andB IntKind.u64
 (S.shrB IntKind.u64 (IntKind.wrap IntKind.u64 (↑nl : Int)) (32 : Int) *
 S.andB IntKind.u64 (IntKind.wrap IntKind.u64 ct) (4294967295 : Int) +
 S.shrB IntKind.u64
 (S.andB IntKind.u64 (IntKind.wrap IntKind.u64 (↑nl : Int)) (4294967295 : Int) *
 S.andB IntKind.u64 (IntKind.wrap IntKind.u64 ct) (4294967295 : Int))
 (32 : Int))
 (4294967295 : Int) +
 S.andB IntKind.u64 (IntKind.wrap IntKind.u64 (↑nl : Int)) (4294967295 : Int) *
 S.shrB IntKind.u64 (IntKind.wrap IntKind.u64 ct) (32 : Int))
 (32 : Int)))
 then (bif (lim IntKind.u64 (IntKind.wrap IntKind.u64 (↑nl : Int) * IntKind.wrap IntKind.u64 ct))
 then (bif (decide
 (S.shrB IntKind.u64 (IntKind.wrap IntKind.u64 (↑nl : Int)) (32 : Int) *
 S.shrB IntKind.u64 (IntKind.wrap IntKind.u64 ct) (32 : Int) +
 S.shrB IntKind.u64
 (S.shrB IntKind.u64 (IntKind.wrap IntKind.u64 (↑nl : Int)) (32 : Int) *
 S.andB IntKind.u64 (IntKind.wrap IntKind.u64 ct) (4294967295 : Int) +
 S.shrB IntKind.u64
 (S.andB IntKind.u64 (IntKind.wrap IntKind.u64 (↑nl : Int)) (4294967295 : Int) *
 S.andB IntKind.u64 (IntKind.wrap IntKind.u64 ct) (4294967295 : Int))
 (32 : Int))
 (32 : Int) +
 S.shrB IntKind.u64
 (S.andB IntKind.u64
 (S.shrB IntKind.u64 (IntKind.wrap IntKind.u64 (↑nl : Int)) (32 : Int) *
 S.andB IntKind.u64 (IntKind.wrap IntKind.u64 ct) (4294967295 : Int) +
 S.shrB IntKind.u64
 (S.andB IntKind.u64 (IntKind.wrap IntKind.u64 (↑nl : Int)) (4294967295 : Int) *
 S.andB IntKind.u64 (IntKind.wrap IntKind.u64 ct) (4294967295 : Int))
 (32 : Int))
 (4294967295 : Int) +
 S.andB IntKind.u64 (IntKind.wrap IntKind.u64 (↑nl : Int)) (4294967295 : Int) *
 S.shrB IntKind.u64 (IntKind.wrap IntKind.u64 ct) (32 : Int))
 (32 : Int) >
 (0 : Int)))
 then (none)
 else (bif (decide
 (IntKind.wrap IntKind.u64 (↑nl : Int) * IntKind.wrap IntKind.u64 ct > (9223372036854775807 : Int)))
 then (none)
 else (bif (decide
 ((0 : Int) ≤
 IntKind.wrap IntKind.i64 (IntKind.wrap IntKind.u64 (↑nl : Int) * IntKind.wrap IntKind.u64 ct) ∧
 IntKind.wrap IntKind.i64 (IntKind.wrap IntKind.u64 (↑nl : Int) * IntKind.wrap IntKind.u64 ct) ≤
 IntKind.wrap IntKind.i64
 (IntKind.wrap IntKind.u64 (↑nl : Int) * IntKind.wrap IntKind.u64 ct) ∧
 IntKind.wrap IntKind.i64 (IntKind.wrap IntKind.u64 (↑nl : Int) * IntKind.wrap IntKind.u64 ct) ≤
 (1000000 : Int)))
 then (bif (decide
 (0 +
 Min.min
 (Int.toNat
 (IntKind.wrap IntKind.i64
 (IntKind.wrap IntKind.u64 (↑nl : Int) * IntKind.wrap IntKind.u64 ct)))
 nl ≤
 Int.toNat
 (IntKind.wrap IntKind.i64 (IntKind.wrap IntKind.u64 (↑nl : Int) * IntKind.wrap IntKind.u64 ct))))
 then (bif (decide (al + nl ≤ ml))
 then (some (.inl (.h0 ((↑(Min.min
 (Int.toNat
 (IntKind.wrap IntKind.i64
 (IntKind.wrap IntKind.u64 (↑nl : Int) * IntKind.wrap IntKind.u64 ct)))
 nl) :
 Int)) (S.mkl
 (Int.toNat
 (IntKind.wrap IntKind.i64 (IntKind.wrap IntKind.u64 (↑nl : Int) * IntKind.wrap IntKind.u64 ct)))
 fun j =>
 bif Nat.ble (0) j then
 bif
 Nat.blt j
 (0 +
 Min.min
 (Int.toNat
 (IntKind.wrap IntKind.i64
 (IntKind.wrap IntKind.u64 (↑nl : Int) * IntKind.wrap IntKind.u64 ct)))
 nl) then
 tl (j + al)
 else (0 : Int)
 else (0 : Int)))))
 else (none))
 else (none))
 else (none))))
 else (none))
 else (none))
 else (none))
 else (none))
 else (none))
 else (none))
 else (none))
 else (none))
 else (none)) : Option (St155 ⊕ Rt155)) = some x) : Te155 cond Kst Kret al nl ml tl ct := by
  unfold Te155
  exact bif_split h
   (fun c0 h => no_some h)
   (fun c0 h => cond_no rfl (cond_no rfl (bif_split h
   (fun c1 h => bif_split h
   (fun c2 h => cond_no rfl (bif_split h
   (fun c3 h => cond_no rfl (bif_split h
   (fun c4 h => bif_split h
   (fun c5 h => bif_split h
   (fun c6 h => bif_split h
   (fun c7 h => cond_no rfl (bif_split h
   (fun c8 h => bif_split h
   (fun c9 h => bif_split h
   (fun c10 h => no_some h)
   (fun c10 h => bif_split h
   (fun c11 h => no_some h)
   (fun c11 h => bif_split h
   (fun c12 h => bif_split h
   (fun c13 h => bif_split h
   (fun c14 h => stop_at hS _ h (fun n => bif Nat.beq n 1 then 1 else n) rfl rfl rfl ⟨(rn_own (use_own rfl) rfl mkl_len), ⟨(rn_int rfl), trivial⟩⟩ rfl (entl_new (use_own rfl) rfl (Nat.le_of_eq mkl_len) (rcs_int (fun _ hj => col_mkl (fun (t : Int) => t) hj) rcs_nil) (entl_bor (use_lo rfl) rfl rfl entl_nil)))
   (fun c14 h => no_some h))
   (fun c13 h => no_some h))
   (fun c12 h => no_some h))))
   (fun c9 h => no_some h))
   (fun c8 h => no_some h)))
   (fun c7 h => no_some h))
   (fun c6 h => no_some h))
   (fun c5 h => no_some h))
   (fun c4 h => no_some h)))
   (fun c3 h => no_some h)))
   (fun c2 h => no_some h))
   (fun c1 h => no_some h))))
theorem b155_0 (al nl ml : Nat) (tl : Nat → Int) (ct : Int) (Kst : KS) (Kret : KR) (x : St155 ⊕ Rt155) (hS : HS 1 400 ((I155 al nl ml tl ct)) Kst x) (hR : HR 1 400 ((V155 al nl ml tl ct)) (fun r => [newL (1 + 1) ((N155 al nl ml tl ct) r) ++ [(0, (false, .cols ml [.int .i64 tl]))]]) Kret x) (x0 : Int) (x1 : List Int) (h : (bif (decide (x0 < (↑(List.length x1) : Int)))
 then (bif (decide
 ((0 : Int) ≤ x0 ∧ x0 ≤ (↑(List.length x1) : Int) ∧ (↑(List.length x1) : Int) ≤ (↑(List.length x1) : Int)))
 then (bif (decide ((0 : Int) ≤ x0 ∧ x0 ≤ (↑(List.length x1) : Int)))
 then (bif (decide (Int.toNat x0 + Min.min (List.length x1 - Int.toNat x0) (Int.toNat x0) ≤ List.length x1))
 then (bif (decide (0 + Int.toNat x0 ≤ List.length x1))
 then (bif (lim IntKind.i64 (x0 + (↑(Min.min (List.length x1 - Int.toNat x0) (Int.toNat x0)) : Int)))
 then (some (.inl (.h0 (x0 + (↑(Min.min (List.length x1 - Int.toNat x0) (Int.toNat x0)) : Int)) (S.mkl (List.length x1) fun j =>
 bif Nat.ble (Int.toNat x0) j then
 bif Nat.blt j (Int.toNat x0 + Min.min (List.length x1 - Int.toNat x0) (Int.toNat x0)) then
 S.at' x1 (j - Int.toNat x0)
 else S.at' x1 j
 else S.at' x1 j))))
 else (none))
 else (none))
 else (none))
 else (none))
 else (none))
 else (some (.inr (x1))) : Option (St155 ⊕ Rt155)) = some x) : T155_0 cond Kst Kret al nl ml tl ct x0 x1 := by
  unfold T155_0
  exact bif_split h
   (fun c0 h => bif_split h
   (fun c1 h => bif_split h
   (fun c2 h => bif_split h
   (fun c3 h => bif_split h
   (fun c4 h => bif_split h
   (fun c5 h => stop_at hS _ h (fun n => bif Nat.beq n 1 then 1 else n) rfl rfl rfl ⟨(rn_own (use_own rfl) rfl mkl_len), ⟨(rn_int rfl), trivial⟩⟩ rfl (entl_new (use_own rfl) rfl (Nat.le_of_eq mkl_len) (rcs_int (fun _ hj => col_mkl (fun (t : Int) => t) hj) rcs_nil) (entl_bor (use_lo rfl) rfl rfl entl_nil)))
   (fun c5 h => no_some h))
   (fun c4 h => no_some h))
   (fun c3 h => no_some h))
   (fun c2 h => no_some h))
   (fun c1 h => no_some h))
   (fun c0 h => ret_at hR _ h (fun n => bif Nat.beq n 2 then 1 else n) rfl rfl rfl (rn_own (use_own rfl) rfl rfl) rfl (entl_new (use_own rfl) rfl (Nat.le_of_eq rfl) (rcs_int (fun _ _ => rfl) rcs_nil) (entl_bor (use_lo rfl) rfl rfl entl_nil)))
theorem a155 (al nl ml : Nat) (tl : Nat → Int) (ct : Int) {r : Rt155} (h : Goes ((q155 al nl ml tl ct)) ((p155 al nl ml tl ct)) r) : CallR Try.prog 55 [.loose ⟨0, 1, al, 0⟩ nl, .int .i64 ct] [[(0, (false, .cols ml [.int .i64 tl]))]] 1 ((V155 al nl ml tl ct) r) ((fun r => [newL (1 + 1) ((N155 al nl ml tl ct) r) ++ [(0, (false, .cols ml [.int .i64 tl]))]]) r) 400 ∧ ∃ F, Try.prog.funcs[55]? = some F ∧ F.body.isSome = true ∧ (F.name == "runtime.NumGoroutine") = false := by
  refine dec_calls (f := 55) (lo := 1) (hi := 400) (H := [[(0, (false, .cols ml [.int .i64 tl]))]]) (args := [.loose ⟨0, 1, al, 0⟩ nl, .int .i64 ct]) Try.envOk Try.mixed noX_ok ((I155 al nl ml tl ct)) ((V155 al nl ml tl ct)) (fun r => [newL (1 + 1) ((N155 al nl ml tl ct) r) ++ [(0, (false, .cols ml [.int .i64 tl]))]]) (fn := mkFn Try.f55) (ts := [7, 8]) (n := 400) rfl (by decide) (by simp) (names_of rfl) ?_ ?_ ?_ h
  · intro s; cases s <;> exact ⟨hd_ok _ _, by simp [I155], names_of rfl, Nat.le_of_ble_eq_true rfl⟩
  · intro Kst Kret x hS hR h
    exact Holds.eq (te155 cond Kst Kret al nl ml tl ct) (be155 al nl ml tl ct Kst Kret x hS hR h)
  · intro Kst Kret x hS hR s h
    cases s with
    | h0 x0 x1 => exact Holds.eq (t155_0 cond Kst Kret al nl ml tl ct x0 x1) (b155_0 al nl ml tl ct Kst Kret x hS hR x0 x1 h)
noncomputable def k155 : Con := ⟨55, [.one (.list [.int .i64]), .one (.plain (.int .i64))], fun (x : (Nat × Nat × Nat × (Nat → Int) × Unit) × Int × Unit) => (fun (al nl ml : Nat) (tl : Nat → Int) (ct : Int) => decide ((al + nl ≤ ml ∧ nl ≤ 1000) ∧ 0 ≤ ct ∧ ct ≤ 1000)) x.1.1 x.1.2.1 x.1.2.2.1 x.1.2.2.2.1 x.2.1, fun (x : (Nat × Nat × Nat × (Nat → Int) × Unit) × Int × Unit) => (fun (al nl ml : Nat) (tl : Nat → Int) (ct : Int) => (V155 al nl ml tl ct) (S.mkl (nl * ct.toNat) fun j => tl ((j % nl) + al))) x.1.1 x.1.2.1 x.1.2.2.1 x.1.2.2.2.1 x.2.1, fun (x : (Nat × Nat × Nat × (Nat → Int) × Unit) × Int × Unit) => (fun (al nl ml : Nat) (tl : Nat → Int) (ct : Int) => (N155 al nl ml tl ct) (S.mkl (nl * ct.toNat) fun j => tl ((j % nl) + al))) x.1.1 x.1.2.1 x.1.2.2.1 x.1.2.2.2.1 x.2.1, fun _ _ => .dead⟩
theorem s155' (al nl ml : Nat) (tl : Nat → Int) (ct : Int) (c : Nat) (hT : nl * c ≤ 1000000) (h0 : 0 < nl) : ∀ (k d : Nat) (L : List Int), d + k = nl * c → 0 < d → (d % nl = 0 ∨ d = nl * c) → Holds (L = S.mkl (nl * c) (fun j => if j < d then tl ((j % nl) + al) else 0)) → Comes (q155 al nl ml tl ct) (.h0 (d : Int) L) (S.mkl (nl * c) fun j => tl ((j % nl) + al)) := by
  intro k
  induction k using Nat.strongRecOn with
  | ind k ih =>
    intro d L hk hd hm eL
    have hL : L.length = nl * c := by rw [eL.get, mkl_len]
    by_cases hz : k = 0
    · subst hz
      have e : L = S.mkl (nl * c) fun j => tl ((j % nl) + al) := by
        rw [eL.get]; exact mkl_congr fun j hj => if_pos (by omega)
      apply Comes.of
      show Goes _ _ _
      (first | rw [q155] | unfold q155)
      repeat' first
        | with_reducible refine goes_if (fun h => ?_) (fun h => ?_) <;> (try simp only [lim64, imp_false, decide_eq_true_eq, decide_eq_false_iff_not, Int.toNat_natCast, toNat_pred, toNat_succ, Option.getD_some, Option.getD_none, Bool.not_eq_true', Bool.not_eq_false', Bool.and_eq_true, Bool.or_eq_true, Bool.and_eq_false_iff, Bool.or_eq_false_iff, bne_iff_ne, beq_iff_eq, bne_eq_false_iff_eq, beq_eq_false_iff_ne, ne_eq, not_and, Int.not_le, Int.not_lt, ge_iff_le, gt_iff_lt, Nat.not_lt, Nat.not_le, Bool.not_eq_true, Bool.not_eq_false, Bool.true_eq_false, Bool.false_eq_true, not_false_eq_true, not_true_eq_false] at h)
        | exact goes_none.mpr (by omega)
      all_goals first | (exfalso; omega) | exact goes_inr.mpr e
    · have hm : d % nl = 0 := by omega
      have hn : min (L.length - d) d ≤ L.length - d ∧ min (L.length - d) d ≤ d ∧ 0 < min (L.length - d) d := by omega
      have ih := ih (k - min (L.length - d) d) (by omega) (d + min (L.length - d) d) (S.mkl L.length fun j => bif Nat.ble d j then bif Nat.blt j (d + min (L.length - d) d) then S.at' L (j - d) else S.at' L j else S.at' L j) (by omega) (by omega) (by
          rcases Nat.le_total (L.length - d) d with h1 | h1
          · right; omega
          · left; rw [Nat.min_eq_right h1, Nat.add_mod, hm]; simp) ⟨by
          rw [hL]
          refine mkl_congr fun j hj => ?_
          have ea : ∀ j, j < nl * c → S.at' L j = if j < d then tl ((j % nl) + al) else 0 := fun j hj => by rw [eL.get, at_mkl hj]
          by_cases h1 : d ≤ j
          · rw [show Nat.ble d j = true by rw [Nat.ble_eq]; exact h1, cond_true]
            by_cases h2 : j < d + min (nl * c - d) d
            · rw [show Nat.blt j (d + min (nl * c - d) d) = true by rw [Nat.blt_eq]; exact h2, cond_true, if_pos h2, ea (j - d) (by omega), if_pos (by omega)]
              have e : (j - d) % nl = j % nl := by
                obtain ⟨w, hw⟩ := Nat.dvd_of_mod_eq_zero hm
                have : j = (j - d) + nl * w := by omega
                rw [this, Nat.add_mul_mod_self_left]
                congr 1; omega
              rw [e]
            · rw [show Nat.blt j (d + min (nl * c - d) d) = false by cases hb : Nat.blt j (d + min (nl * c - d) d); rfl; exact absurd (lt_ok hb) h2, cond_false, if_neg h2, ea j hj, if_neg (by omega)]
          · rw [show Nat.ble d j = false by cases hb : Nat.ble d j; rfl; exact absurd (le_ok hb) h1, cond_false, ea j hj, if_pos (by omega), if_pos (by omega)]⟩
      have e1 : ((d : Int) + ((min (L.length - d) d : Nat) : Int)) = ((d + min (L.length - d) d : Nat) : Int) := by omega
      apply Comes.of
      show Goes _ _ _
      (first | rw [q155] | unfold q155)
      try simp only [Int.toNat_natCast, e1]
      try show Goes _ _ _
      repeat' first
        | with_reducible refine goes_if (fun h => ?_) (fun h => ?_) <;> (try simp only [lim64, imp_false, decide_eq_true_eq, decide_eq_false_iff_not, Int.toNat_natCast, toNat_pred, toNat_succ, Option.getD_some, Option.getD_none, Bool.not_eq_true', Bool.not_eq_false', Bool.and_eq_true, Bool.or_eq_true, Bool.and_eq_false_iff, Bool.or_eq_false_iff, bne_iff_ne, beq_iff_eq, bne_eq_false_iff_eq, beq_eq_false_iff_ne, ne_eq, not_and, Int.not_le, Int.not_lt, ge_iff_le, gt_iff_lt, Nat.not_lt, Nat.not_le, Bool.not_eq_true, Bool.not_eq_false, Bool.true_eq_false, Bool.false_eq_true, not_false_eq_true, not_true_eq_false] at h)
        | exact goes_none.mpr (by omega)
      all_goals first | (exfalso; omega) | exact ih
theorem s155 (al nl ml : Nat) (tl : Nat → Int) (ct : Int) (hp : (al + nl ≤ ml ∧ nl ≤ 1000) ∧ 0 ≤ ct ∧ ct ≤ 1000) : Goes ((q155 al nl ml tl ct)) ((p155 al nl ml tl ct)) (S.mkl (nl * ct.toNat) fun j => tl ((j % nl) + al)) := by
  obtain ⟨⟨hp1, hp2⟩, hp3, hp4⟩ := hp
  obtain ⟨c, rfl⟩ := Int.eq_ofNat_of_zero_le hp3
  have hc : c ≤ 1000 := by omega
  have hT0 : nl * c ≤ 1000 * 1000 := Nat.mul_le_mul hp2 hc
  have hT : nl * c ≤ 1000000 := hT0
  have hmul : (nl : Int) * (c : Int) = ((nl * c : Nat) : Int) := (Int.natCast_mul nl c).symm
  have w1 : IntKind.wrap .u64 (nl : Int) = nl := u64_in _ (by omega)
  have w2 : IntKind.wrap .u64 (c : Int) = c := u64_in _ (by omega)
  have w3 : IntKind.wrap .i64 ((nl * c : Nat) : Int) = ((nl * c : Nat) : Int) := i64_in _ (by omega)
  have a1 : S.andB .u64 (nl : Int) 4294967295 = nl := and32 (by omega)
  have a2 : S.andB .u64 (c : Int) 4294967295 = c := and32 (by omega)
  have a0 : S.andB .u64 0 4294967295 = 0 := and32 (by decide)
  have h1 : S.shrB .u64 (nl : Int) 32 = 0 := shr32 (by omega)
  have h2 : S.shrB .u64 (c : Int) 32 = 0 := shr32 (by omega)
  have h3 : S.shrB .u64 ((nl * c : Nat) : Int) 32 = 0 := shr32 (by omega)
  have h0 : S.shrB .u64 0 32 = 0 := shr32 (by decide)
  have hl0 : lim .u64 0 = true := rfl
  have hl1 : lim .u64 ((nl * c : Nat) : Int) = true := by rw [limu64]; exact decide_eq_true (by omega)
  rw [Int.toNat_natCast]
  unfold p155
  simp only [w1, w2, a1, a2, h1, h2, hmul, w3, h3, a0, h0, Int.zero_mul, Int.mul_zero, Int.add_zero, Int.zero_add, hl0, hl1, cond_true, Int.toNat_natCast]
  have hm : 0 < nl → 0 < c → Comes (q155 al nl ml tl (c : Int)) (.h0 (((min (nl * c) nl : Nat)) : Int) (S.mkl (nl * c) fun j => bif Nat.ble 0 j then bif Nat.blt j (0 + min (nl * c) nl) then tl (j + al) else 0 else 0)) (S.mkl (nl * c) fun j => tl ((j % nl) + al)) := fun q1 q2 => by
    have e : min (nl * c) nl = nl := Nat.min_eq_right (Nat.le_mul_of_pos_right nl q2)
    rw [e]
    refine s155' al nl ml tl (c : Int) c hT q1 (nl * c - nl) nl _ (by have := Nat.le_mul_of_pos_right nl q2; omega) q1 (.inl (Nat.mod_self nl)) ⟨mkl_congr fun j hj => ?_⟩
    rw [show Nat.ble 0 j = true by rw [Nat.ble_eq]; omega, cond_true, Nat.zero_add]
    by_cases h : j < nl
    · rw [show Nat.blt j nl = true by rw [Nat.blt_eq]; exact h, cond_true, if_pos h, Nat.mod_eq_of_lt h]
    · rw [show Nat.blt j nl = false by cases hb : Nat.blt j nl; rfl; exact absurd (lt_ok hb) h, cond_false, if_neg h]
  have hz : nl = 0 ∨ c = 0 → nl * c = 0 := fun h => by rcases h with h | h <;> rw [h] <;> simp
  have hz2 : ∀ (f g : Nat → Int), nl * c = 0 → S.mkl (nl * c) f = S.mkl (nl * c) g := fun f g h => by rw [h]; rfl
  show Goes _ _ _
  by_cases hn : nl = 0 ∨ c = 0
  · have hz := hz hn
    repeat' first
      | with_reducible refine goes_if (fun h => ?_) (fun h => ?_) <;> (try simp only [lim64, imp_false, decide_eq_true_eq, decide_eq_false_iff_not, Int.toNat_natCast, toNat_pred, toNat_succ, Option.getD_some, Option.getD_none, Bool.not_eq_true', Bool.not_eq_false', Bool.and_eq_true, Bool.or_eq_true, Bool.and_eq_false_iff, Bool.or_eq_false_iff, bne_iff_ne, beq_iff_eq, bne_eq_false_iff_eq, beq_eq_false_iff_ne, ne_eq, not_and, Int.not_le, Int.not_lt, ge_iff_le, gt_iff_lt, Nat.not_lt, Nat.not_le, Bool.not_eq_true, Bool.not_eq_false, Bool.true_eq_false, Bool.false_eq_true, not_false_eq_true, not_true_eq_false] at h)
      | exact goes_none.mpr (by omega)
    all_goals first
      | (exfalso; omega)
      | (apply Comes.of
         show Goes _ _ _
         (first | rw [q155] | unfold q155)
         repeat' first
           | with_reducible refine goes_if (fun h => ?_) (fun h => ?_) <;> (try simp only [lim64, imp_false, decide_eq_true_eq, decide_eq_false_iff_not, Int.toNat_natCast, toNat_pred, toNat_succ, Option.getD_some, Option.getD_none, Bool.not_eq_true', Bool.not_eq_false', Bool.and_eq_true, Bool.or_eq_true, Bool.and_eq_false_iff, Bool.or_eq_false_iff, bne_iff_ne, beq_iff_eq, bne_eq_false_iff_eq, beq_eq_false_iff_ne, ne_eq, not_and, Int.not_le, Int.not_lt, ge_iff_le, gt_iff_lt, Nat.not_lt, Nat.not_le, Bool.not_eq_true, Bool.not_eq_false, Bool.true_eq_false, Bool.false_eq_true, not_false_eq_true, not_true_eq_false, mkl_len] at h)
           | exact goes_none.mpr (by omega)
         all_goals first | (exfalso; omega) | (exfalso; simp_all; done) | exact goes_inr.mpr (hz2 _ _ hz))
  · have hm := hm (by omega) (by omega)
    repeat' first
      | with_reducible refine goes_if (fun h => ?_) (fun h => ?_) <;> (try simp only [lim64, imp_false, decide_eq_true_eq, decide_eq_false_iff_not, Int.toNat_natCast, toNat_pred, toNat_succ, Option.getD_some, Option.getD_none, Bool.not_eq_true', Bool.not_eq_false', Bool.and_eq_true, Bool.or_eq_true, Bool.and_eq_false_iff, Bool.or_eq_false_iff, bne_iff_ne, beq_iff_eq, bne_eq_false_iff_eq, beq_eq_false_iff_ne, ne_eq, not_and, Int.not_le, Int.not_lt, ge_iff_le, gt_iff_lt, Nat.not_lt, Nat.not_le, Bool.not_eq_true, Bool.not_eq_false, Bool.true_eq_false, Bool.false_eq_true, not_false_eq_true, not_true_eq_false] at h)
      | exact goes_none.mpr (by omega)
    all_goals first | (exfalso; omega) | exact hm
theorem k155_ok : k155.ok Try.prog := by
  intro x hx
  obtain ⟨⟨al, nl, ml, tl, _⟩, ct, _⟩ := x
  obtain ⟨h1, h2⟩ := a155 al nl ml tl ct (s155 al nl ml tl ct (of_dec hx rfl))
  exact ⟨⟨400, (by decide : 1 + 1 + 1 ≤ 400), h1⟩, h2⟩
noncomputable def xR (test : Bool → Prop → Prop → Prop) : Ext := consX test [k155]
theorem xR_ok : ExtOk Try.prog (xR cond) := consX_ok ⟨k155_ok, trivial⟩
inductive St116 where
  | h0 (x0 : Int)
abbrev Rt116 := Int
noncomputable def V116 (cn : ByteArray) (aq nq mq : Nat) (tq : Nat → Int) (rp : Int) (fl : Int) (r : Rt116) : PV := PV.int IntKind.i64 r
noncomputable def N116 (cn : ByteArray) (aq nq mq : Nat) (tq : Nat → Int) (rp : Int) (fl : Int) (r : Rt116) : List Blk := []
noncomputable def I116 (cn : ByteArray) (aq nq mq : Nat) (tq : Nat → Int) (rp : Int) (fl : Int) : St116 → Hd
  | .h0 x0 => ⟨hd Try.f16 0, [PV.ptr (PA.mk (1) (0) (0) (0)),
 PV.loose (PA.mk (0) (1) aq (0)) nq, PV.int IntKind.i64 (↑nq : Int),
 PV.int IntKind.i64 x0], [[(1, (true, Blk.cells
 [PV.str cn, PV.loose (PA.mk (0) (1) aq (0)) nq,
 PV.int IntKind.i64 rp, PV.int IntKind.i64 fl]))], [(0, (false, .cols mq [.int .i64 tq]))]], 2⟩
noncomputable def q116 (cn : ByteArray) (aq nq mq : Nat) (tq : Nat → Int) (rp : Int) (fl : Int) : St116 → Option (St116 ⊕ Rt116)
  | .h0 x0 => bif (decide (x0 < (↑nq : Int)))
 then (bif (decide ((0 : Int) ≤ x0 ∧ x0 < (↑nq : Int)))
 then (bif (decide (Int.toNat x0 + aq < mq))
 then (bif (decide (tq (Int.toNat x0 + aq) ≥ (-1099511627776 : Int)))
 then (bif (decide (tq (Int.toNat x0 + aq) ≤ (1099511627776 : Int)))
 then (bif (decide (x0 > (0 : Int)))
 then (bif (lim IntKind.i64 (x0 - (1 : Int)))
 then (bif (decide ((0 : Int) ≤ x0 - (1 : Int) ∧ x0 - (1 : Int) < (↑nq : Int)))
 then (bif (decide (Int.toNat (x0 - (1 : Int)) + aq < mq))
 then (bif (tq (Int.toNat x0 + aq) == tq (Int.toNat (x0 - (1 : Int)) + aq))
 then (some (.inr ((12 : Int))))
 else (bif (lim IntKind.i64 (x0 + (1 : Int)))
 then (some (.inl (.h0 (x0 + (1 : Int)))))
 else (none)))
 else (none))
 else (none))
 else (none))
 else (bif (lim IntKind.i64 (x0 + (1 : Int)))
 then (some (.inl (.h0 (x0 + (1 : Int)))))
 else (none)))
 else (some (.inr ((6 : Int)))))
 else (some (.inr ((6 : Int)))))
 else (none))
 else (none))
 else (bif (decide (rp < (1 : Int)))
 then (some (.inr ((6 : Int))))
 else (bif (decide (rp > (9 : Int)))
 then (some (.inr ((6 : Int))))
 else (bif (decide (fl ≥ (-1099511627776 : Int)))
 then (bif (decide (fl ≤ (1099511627776 : Int)))
 then (bif (lim IntKind.i64 ((↑nq : Int) - (1 : Int)))
 then (bif (decide ((0 : Int) ≤ (↑nq : Int) - (1 : Int) ∧ (↑nq : Int) - (1 : Int) < (↑nq : Int)))
 then (bif (decide (Int.toNat ((↑nq : Int) - (1 : Int)) + aq < mq))
 then (bif (fl == tq (Int.toNat ((↑nq : Int) - (1 : Int)) + aq))
 then (some (.inr ((12 : Int))))
 else (some (.inr ((0 : Int)))))
 else (none))
 else (none))
 else (none))
 else (some (.inr ((6 : Int)))))
 else (some (.inr ((6 : Int)))))))
noncomputable def p116 (cn : ByteArray) (aq nq mq : Nat) (tq : Nat → Int) (rp : Int) (fl : Int) : Option (St116 ⊕ Rt116) := bif (S.isNam cn)
 then (bif (decide ((↑nq : Int) < (2 : Int)))
 then (some (.inr ((7 : Int))))
 else (bif (decide ((↑nq : Int) > (20 : Int)))
 then (some (.inr ((3 : Int))))
 else (some (.inl (.h0 ((0 : Int)))))))
 else (some (.inr ((2 : Int))))
noncomputable def Te116 (test : Bool → Prop → Prop → Prop) (Kst : KS) (Kret : KR) (cn : ByteArray) (aq nq mq : Nat) (tq : Nat → Int) (rp : Int) (fl : Int) : Prop :=
  test (true)
 (test (S.isNam cn)
 (test (decide ((↑nq : Int) < (2 : Int)))
 (Kret (PV.int IntKind.i64 (7 : Int)) ([[(0, false, Blk.cols mq [Col.int IntKind.i64 tq])]]) (3))
 (test (decide ((↑nq : Int) > (20 : Int)))
 (Kret (PV.int IntKind.i64 (3 : Int)) ([[(0, false, Blk.cols mq [Col.int IntKind.i64 tq])]]) (3))
 (Kst (hd Try.f16 0) ([PV.ptr (PA.mk (1) (0) (0) (0)),
 PV.loose (PA.mk (0) (1) aq (0)) nq, PV.int IntKind.i64 (↑nq : Int),
 PV.int IntKind.i64 (0 : Int)]) ([[(0, false, Blk.cols mq [Col.int IntKind.i64 tq]),
 (1, true,
 Blk.cells
 [PV.str cn, PV.loose (PA.mk (0) (1) aq (0)) nq,
 PV.int IntKind.i64 rp, PV.int IntKind.i64 fl])]]) (3))))
 (Kret (PV.int IntKind.i64 (2 : Int)) ([[(0, false, Blk.cols mq [Col.int IntKind.i64 tq])]]) (3)))
 (False)
theorem te116 (test : Bool → Prop → Prop → Prop) (Kst : KS) (Kret : KR) (cn : ByteArray) (aq nq mq : Nat) (tq : Nat → Int) (rp : Int) (fl : Int) : run test Try.env true (xN test) true 400 ⟨16, [.cd (mkFn Try.f16).body], argT 0 [.agg [.str cn, .loose ⟨0, 1, aq, 0⟩ nq, .int .i64 rp, .int .i64 fl]], [[], [(0, (false, .cols mq [.int .i64 tq]))]], 1⟩ (proj 1 [1, 18, 19, 20] Kst Kret) =
  Te116 test Kst Kret cn aq nq mq tq rp fl := by kernel_rfl
noncomputable def T116_0 (test : Bool → Prop → Prop → Prop) (Kst : KS) (Kret : KR) (cn : ByteArray) (aq nq mq : Nat) (tq : Nat → Int) (rp : Int) (fl : Int) (x0 : Int) : Prop :=
  test (decide (x0 < (↑nq : Int)))
 (test (decide ((0 : Int) ≤ x0 ∧ x0 < (↑nq : Int)))
 (test (decide (Int.toNat x0 + aq < mq))
 (test (decide (tq (Int.toNat x0 + aq) ≥ (-1099511627776 : Int)))
 (test (decide (tq (Int.toNat x0 + aq) ≤ (1099511627776 : Int)))
 (test (decide (x0 > (0 : Int)))
 (test (lim IntKind.i64 (x0 - (1 : Int)))
 (test (decide ((0 : Int) ≤ x0 - (1 : Int) ∧ x0 - (1 : Int) < (↑nq : Int)))
 (test (decide (Int.toNat (x0 - (1 : Int)) + aq < mq))
 (test (tq (Int.toNat x0 + aq) == tq (Int.toNat (x0 - (1 : Int)) + aq))
 (Kret (PV.int IntKind.i64 (12 : Int)) ([[(0, false, Blk.cols mq [Col.int IntKind.i64 tq])]]) (2))
 (test (lim IntKind.i64 (x0 + (1 : Int)))
 (Kst (hd Try.f16 0) ([PV.ptr (PA.mk (1) (0) (0) (0)),
 PV.loose (PA.mk (0) (1) aq (0)) nq, PV.int IntKind.i64 (↑nq : Int),
 PV.int IntKind.i64 (x0 + (1 : Int))]) ([[(0, false, Blk.cols mq [Col.int IntKind.i64 tq]),
 (1, true,
 Blk.cells
 [PV.str cn, PV.loose (PA.mk (0) (1) aq (0)) nq,
 PV.int IntKind.i64 rp, PV.int IntKind.i64 fl])]]) (2))
 (False)))
 (False))
 (False))
 (False))
 (test (lim IntKind.i64 (x0 + (1 : Int)))
 (Kst (hd Try.f16 0) ([PV.ptr (PA.mk (1) (0) (0) (0)),
 PV.loose (PA.mk (0) (1) aq (0)) nq, PV.int IntKind.i64 (↑nq : Int),
 PV.int IntKind.i64 (x0 + (1 : Int))]) ([[(0, false, Blk.cols mq [Col.int IntKind.i64 tq]),
 (1, true,
 Blk.cells
 [PV.str cn, PV.loose (PA.mk (0) (1) aq (0)) nq,
 PV.int IntKind.i64 rp, PV.int IntKind.i64 fl])]]) (2))
 (False)))
 (Kret (PV.int IntKind.i64 (6 : Int)) ([[(0, false, Blk.cols mq [Col.int IntKind.i64 tq])]]) (2)))
 (Kret (PV.int IntKind.i64 (6 : Int)) ([[(0, false, Blk.cols mq [Col.int IntKind.i64 tq])]]) (2)))
 (False))
 (False))
 (test (decide (rp < (1 : Int)))
 (Kret (PV.int IntKind.i64 (6 : Int)) ([[(0, false, Blk.cols mq [Col.int IntKind.i64 tq])]]) (2))
 (test (decide (rp > (9 : Int)))
 (Kret (PV.int IntKind.i64 (6 : Int)) ([[(0, false, Blk.cols mq [Col.int IntKind.i64 tq])]]) (2))
 (test (decide (fl ≥ (-1099511627776 : Int)))
 (test (decide (fl ≤ (1099511627776 : Int)))
 (test (lim IntKind.i64 ((↑nq : Int) - (1 : Int)))
 (test (decide ((0 : Int) ≤ (↑nq : Int) - (1 : Int) ∧ (↑nq : Int) - (1 : Int) < (↑nq : Int)))
 (test (decide (Int.toNat ((↑nq : Int) - (1 : Int)) + aq < mq))
 (test (fl == tq (Int.toNat ((↑nq : Int) - (1 : Int)) + aq))
 (Kret (PV.int IntKind.i64 (12 : Int)) ([[(0, false, Blk.cols mq [Col.int IntKind.i64 tq])]]) (3))
 (Kret (PV.int IntKind.i64 (0 : Int)) ([[(0, false, Blk.cols mq [Col.int IntKind.i64 tq])]]) (3)))
 (False))
 (False))
 (False))
 (Kret (PV.int IntKind.i64 (6 : Int)) ([[(0, false, Blk.cols mq [Col.int IntKind.i64 tq])]]) (2)))
 (Kret (PV.int IntKind.i64 (6 : Int)) ([[(0, false, Blk.cols mq [Col.int IntKind.i64 tq])]]) (2)))))
theorem t116_0 (test : Bool → Prop → Prop → Prop) (Kst : KS) (Kret : KR) (cn : ByteArray) (aq nq mq : Nat) (tq : Nat → Int) (rp : Int) (fl : Int) (x0 : Int) : run test Try.env true (xN test) true 400 ⟨16, hd Try.f16 0, zipT [1, 18, 19, 20] [PV.ptr (PA.mk (1) (0) (0) (0)),
 PV.loose (PA.mk (0) (1) aq (0)) nq, PV.int IntKind.i64 (↑nq : Int),
 PV.int IntKind.i64 x0], [[(1, (true, Blk.cells
 [PV.str cn, PV.loose (PA.mk (0) (1) aq (0)) nq,
 PV.int IntKind.i64 rp, PV.int IntKind.i64 fl]))], [(0, (false, .cols mq [.int .i64 tq]))]], 2⟩ (proj 1 [1, 18, 19, 20] Kst Kret) =
  T116_0 test Kst Kret cn aq nq mq tq rp fl x0 := by kernel_rfl
theorem be116 (cn : ByteArray) (aq nq mq : Nat) (tq : Nat → Int) (rp : Int) (fl : Int) (Kst : KS) (Kret : KR) (x : St116 ⊕ Rt116) (hS : HS 1 400 ((I116 cn aq nq mq tq rp fl)) Kst x) (hR : HR 1 400 ((V116 cn aq nq mq tq rp fl)) (fun r => [newL (1 + 1) ((N116 cn aq nq mq tq rp fl) r) ++ [(0, (false, .cols mq [.int .i64 tq]))]]) Kret x) (h : (bif (S.isNam cn)
 then (bif (decide ((↑nq : Int) < (2 : Int)))
 then (some (.inr ((7 : Int))))
 else (bif (decide ((↑nq : Int) > (20 : Int)))
 then (some (.inr ((3 : Int))))
 else (some (.inl (.h0 ((0 : Int)))))))
 else (some (.inr ((2 : Int)))) : Option (St116 ⊕ Rt116)) = some x) : Te116 cond Kst Kret cn aq nq mq tq rp fl := by
  unfold Te116
  exact cond_yes rfl (bif_split h
   (fun c0 h => bif_split h
   (fun c1 h => ret_at hR _ h (fun n => n) rfl rfl rfl (rn_int rfl) rfl (entl_bor (use_lo rfl) rfl rfl entl_nil))
   (fun c1 h => bif_split h
   (fun c2 h => ret_at hR _ h (fun n => n) rfl rfl rfl (rn_int rfl) rfl (entl_bor (use_lo rfl) rfl rfl entl_nil))
   (fun c2 h => stop_at hS _ h (fun n => bif Nat.beq n 1 then 1 else n) rfl rfl rfl ⟨(rn_ptr (use_own rfl) rfl rfl), ⟨(rn_loose (use_lo rfl) rfl rfl rfl), ⟨(rn_int rfl), ⟨(rn_int rfl), trivial⟩⟩⟩⟩ rfl (entl_b (use_own rfl) rfl (by simp) (rb_cells ⟨(rn_str rfl), (rn_loose (use_lo rfl) rfl rfl rfl), (rn_int rfl), (rn_int rfl), trivial⟩) (entl_bor (use_lo rfl) rfl rfl entl_nil)))))
   (fun c0 h => ret_at hR _ h (fun n => n) rfl rfl rfl (rn_int rfl) rfl (entl_bor (use_lo rfl) rfl rfl entl_nil)))
theorem b116_0 (cn : ByteArray) (aq nq mq : Nat) (tq : Nat → Int) (rp : Int) (fl : Int) (Kst : KS) (Kret : KR) (x : St116 ⊕ Rt116) (hS : HS 1 400 ((I116 cn aq nq mq tq rp fl)) Kst x) (hR : HR 1 400 ((V116 cn aq nq mq tq rp fl)) (fun r => [newL (1 + 1) ((N116 cn aq nq mq tq rp fl) r) ++ [(0, (false, .cols mq [.int .i64 tq]))]]) Kret x) (x0 : Int) (h : (bif (decide (x0 < (↑nq : Int)))
 then (bif (decide ((0 : Int) ≤ x0 ∧ x0 < (↑nq : Int)))
 then (bif (decide (Int.toNat x0 + aq < mq))
 then (bif (decide (tq (Int.toNat x0 + aq) ≥ (-1099511627776 : Int)))
 then (bif (decide (tq (Int.toNat x0 + aq) ≤ (1099511627776 : Int)))
 then (bif (decide (x0 > (0 : Int)))
 then (bif (lim IntKind.i64 (x0 - (1 : Int)))
 then (bif (decide ((0 : Int) ≤ x0 - (1 : Int) ∧ x0 - (1 : Int) < (↑nq : Int)))
 then (bif (decide (Int.toNat (x0 - (1 : Int)) + aq < mq))
 then (bif (tq (Int.toNat x0 + aq) == tq (Int.toNat (x0 - (1 : Int)) + aq))
 then (some (.inr ((12 : Int))))
 else (bif (lim IntKind.i64 (x0 + (1 : Int)))
 then (some (.inl (.h0 (x0 + (1 : Int)))))
 else (none)))
 else (none))
 else (none))
 else (none))
 else (bif (lim IntKind.i64 (x0 + (1 : Int)))
 then (some (.inl (.h0 (x0 + (1 : Int)))))
 else (none)))
 else (some (.inr ((6 : Int)))))
 else (some (.inr ((6 : Int)))))
 else (none))
 else (none))
 else (bif (decide (rp < (1 : Int)))
 then (some (.inr ((6 : Int))))
 else (bif (decide (rp > (9 : Int)))
 then (some (.inr ((6 : Int))))
 else (bif (decide (fl ≥ (-1099511627776 : Int)))
 then (bif (decide (fl ≤ (1099511627776 : Int)))
 then (bif (lim IntKind.i64 ((↑nq : Int) - (1 : Int)))
 then (bif (decide ((0 : Int) ≤ (↑nq : Int) - (1 : Int) ∧ (↑nq : Int) - (1 : Int) < (↑nq : Int)))
 then (bif (decide (Int.toNat ((↑nq : Int) - (1 : Int)) + aq < mq))
 then (bif (fl == tq (Int.toNat ((↑nq : Int) - (1 : Int)) + aq))
 then (some (.inr ((12 : Int))))
 else (some (.inr ((0 : Int)))))
 else (none))
 else (none))
 else (none))
 else (some (.inr ((6 : Int)))))
 else (some (.inr ((6 : Int))))))) : Option (St116 ⊕ Rt116)) = some x) : T116_0 cond Kst Kret cn aq nq mq tq rp fl x0 := by
  unfold T116_0
  exact bif_split h
   (fun c0 h => bif_split h
   (fun c1 h => bif_split h
   (fun c2 h => bif_split h
   (fun c3 h => bif_split h
   (fun c4 h => bif_split h
   (fun c5 h => bif_split h
   (fun c6 h => bif_split h
   (fun c7 h => bif_split h
   (fun c8 h => bif_split h
   (fun c9 h => ret_at hR _ h (fun n => n) rfl rfl rfl (rn_int rfl) rfl (entl_bor (use_lo rfl) rfl rfl entl_nil))
   (fun c9 h => bif_split h
   (fun c10 h => stop_at hS _ h (fun n => bif Nat.beq n 1 then 1 else n) rfl rfl rfl ⟨(rn_ptr (use_own rfl) rfl rfl), ⟨(rn_loose (use_lo rfl) rfl rfl rfl), ⟨(rn_int rfl), ⟨(rn_int rfl), trivial⟩⟩⟩⟩ rfl (entl_b (use_own rfl) rfl (by simp) (rb_cells ⟨(rn_str rfl), (rn_loose (use_lo rfl) rfl rfl rfl), (rn_int rfl), (rn_int rfl), trivial⟩) (entl_bor (use_lo rfl) rfl rfl entl_nil)))
   (fun c10 h => no_some h)))
   (fun c8 h => no_some h))
   (fun c7 h => no_some h))
   (fun c6 h => no_some h))
   (fun c5 h => bif_split h
   (fun c6 h => stop_at hS _ h (fun n => bif Nat.beq n 1 then 1 else n) rfl rfl rfl ⟨(rn_ptr (use_own rfl) rfl rfl), ⟨(rn_loose (use_lo rfl) rfl rfl rfl), ⟨(rn_int rfl), ⟨(rn_int rfl), trivial⟩⟩⟩⟩ rfl (entl_b (use_own rfl) rfl (by simp) (rb_cells ⟨(rn_str rfl), (rn_loose (use_lo rfl) rfl rfl rfl), (rn_int rfl), (rn_int rfl), trivial⟩) (entl_bor (use_lo rfl) rfl rfl entl_nil)))
   (fun c6 h => no_some h)))
   (fun c4 h => ret_at hR _ h (fun n => n) rfl rfl rfl (rn_int rfl) rfl (entl_bor (use_lo rfl) rfl rfl entl_nil)))
   (fun c3 h => ret_at hR _ h (fun n => n) rfl rfl rfl (rn_int rfl) rfl (entl_bor (use_lo rfl) rfl rfl entl_nil)))
   (fun c2 h => no_some h))
   (fun c1 h => no_some h))
   (fun c0 h => bif_split h
   (fun c1 h => ret_at hR _ h (fun n => n) rfl rfl rfl (rn_int rfl) rfl (entl_bor (use_lo rfl) rfl rfl entl_nil))
   (fun c1 h => bif_split h
   (fun c2 h => ret_at hR _ h (fun n => n) rfl rfl rfl (rn_int rfl) rfl (entl_bor (use_lo rfl) rfl rfl entl_nil))
   (fun c2 h => bif_split h
   (fun c3 h => bif_split h
   (fun c4 h => bif_split h
   (fun c5 h => bif_split h
   (fun c6 h => bif_split h
   (fun c7 h => bif_split h
   (fun c8 h => ret_at hR _ h (fun n => n) rfl rfl rfl (rn_int rfl) rfl (entl_bor (use_lo rfl) rfl rfl entl_nil))
   (fun c8 h => ret_at hR _ h (fun n => n) rfl rfl rfl (rn_int rfl) rfl (entl_bor (use_lo rfl) rfl rfl entl_nil)))
   (fun c7 h => no_some h))
   (fun c6 h => no_some h))
   (fun c5 h => no_some h))
   (fun c4 h => ret_at hR _ h (fun n => n) rfl rfl rfl (rn_int rfl) rfl (entl_bor (use_lo rfl) rfl rfl entl_nil)))
   (fun c3 h => ret_at hR _ h (fun n => n) rfl rfl rfl (rn_int rfl) rfl (entl_bor (use_lo rfl) rfl rfl entl_nil)))))
theorem a116 (cn : ByteArray) (aq nq mq : Nat) (tq : Nat → Int) (rp : Int) (fl : Int) {r : Rt116} (h : Goes ((q116 cn aq nq mq tq rp fl)) ((p116 cn aq nq mq tq rp fl)) r) : CallR Try.prog 16 [.agg [.str cn, .loose ⟨0, 1, aq, 0⟩ nq, .int .i64 rp, .int .i64 fl]] [[(0, (false, .cols mq [.int .i64 tq]))]] 1 ((V116 cn aq nq mq tq rp fl) r) ((fun r => [newL (1 + 1) ((N116 cn aq nq mq tq rp fl) r) ++ [(0, (false, .cols mq [.int .i64 tq]))]]) r) 400 ∧ ∃ F, Try.prog.funcs[16]? = some F ∧ F.body.isSome = true ∧ (F.name == "runtime.NumGoroutine") = false := by
  refine dec_calls (f := 16) (lo := 1) (hi := 400) (H := [[(0, (false, .cols mq [.int .i64 tq]))]]) (args := [.agg [.str cn, .loose ⟨0, 1, aq, 0⟩ nq, .int .i64 rp, .int .i64 fl]]) Try.envOk Try.mixed xN_ok ((I116 cn aq nq mq tq rp fl)) ((V116 cn aq nq mq tq rp fl)) (fun r => [newL (1 + 1) ((N116 cn aq nq mq tq rp fl) r) ++ [(0, (false, .cols mq [.int .i64 tq]))]]) (fn := mkFn Try.f16) (ts := [1, 18, 19, 20]) (n := 400) rfl (by decide) (by simp) (names_of rfl) ?_ ?_ ?_ h
  · intro s; cases s <;> exact ⟨hd_ok _ _, by simp [I116], names_of rfl, Nat.le_of_ble_eq_true rfl⟩
  · intro Kst Kret x hS hR h
    exact Holds.eq (te116 cond Kst Kret cn aq nq mq tq rp fl) (be116 cn aq nq mq tq rp fl Kst Kret x hS hR h)
  · intro Kst Kret x hS hR s h
    cases s with
    | h0 x0 => exact Holds.eq (t116_0 cond Kst Kret cn aq nq mq tq rp fl x0) (b116_0 cn aq nq mq tq rp fl Kst Kret x hS hR x0 h)
noncomputable def k116 : Con := ⟨16, [.agg [.plain (.str), .list [.int .i64], .plain (.int .i64), .plain (.int .i64)]], fun (x : (ByteArray × (Nat × Nat × Nat × (Nat → Int) × Unit) × Int × Int × Unit) × Unit) => (fun (cn : ByteArray) (aq nq mq : Nat) (tq : Nat → Int) (rp : Int) (fl : Int) => decide (aq + nq ≤ mq ∧ nq ≤ 1000000)) x.1.1 x.1.2.1.1 x.1.2.1.2.1 x.1.2.1.2.2.1 x.1.2.1.2.2.2.1 x.1.2.2.1 x.1.2.2.2.1, fun (x : (ByteArray × (Nat × Nat × Nat × (Nat → Int) × Unit) × Int × Int × Unit) × Unit) => (fun (cn : ByteArray) (aq nq mq : Nat) (tq : Nat → Int) (rp : Int) (fl : Int) => (V116 cn aq nq mq tq rp fl) ((S.cyE cn nq (fun j => tq (j + aq)) rp fl))) x.1.1 x.1.2.1.1 x.1.2.1.2.1 x.1.2.1.2.2.1 x.1.2.1.2.2.2.1 x.1.2.2.1 x.1.2.2.2.1, fun (x : (ByteArray × (Nat × Nat × Nat × (Nat → Int) × Unit) × Int × Int × Unit) × Unit) => (fun (cn : ByteArray) (aq nq mq : Nat) (tq : Nat → Int) (rp : Int) (fl : Int) => (N116 cn aq nq mq tq rp fl) ((S.cyE cn nq (fun j => tq (j + aq)) rp fl))) x.1.1 x.1.2.1.1 x.1.2.1.2.1 x.1.2.1.2.2.1 x.1.2.1.2.2.2.1 x.1.2.2.1 x.1.2.2.2.1, fun _ _ => .dead⟩
theorem s116' (cn : ByteArray) (aq nq mq : Nat) (tq : Nat → Int) (rp : Int) (fl : Int) (hp1 : aq + nq ≤ mq) (hn : 2 ≤ nq ∧ nq ≤ 20) : ∀ k i : Nat, i + k = nq → Comes (q116 cn aq nq mq tq rp fl) (.h0 (i : Int)) (S.curE (if (1 ≤ rp ∧ rp ≤ 9) ∧ -1099511627776 ≤ fl ∧ fl ≤ 1099511627776 then (if fl = tq (nq - 1 + aq) then 12 else 0) else 6) (fun j => tq (j + aq)) i k) := by
  intro k
  induction k with
  | zero =>
    intro i hi
    obtain rfl : nq = i := by omega
    simp only [S.curE]
    have e1 : ((nq : Int) - 1).toNat = nq - 1 := by omega
    apply Comes.of
    show Goes _ _ _
    (first | rw [q116] | unfold q116)
    try simp only [e1]
    try show Goes _ _ _
    repeat' first
      | with_reducible refine goes_if (fun h => ?_) (fun h => ?_) <;> (try simp only [lim64, imp_false, decide_eq_true_eq, decide_eq_false_iff_not, Int.toNat_natCast, toNat_pred, toNat_succ, Option.getD_some, Option.getD_none, Bool.not_eq_true', Bool.not_eq_false', Bool.and_eq_true, Bool.or_eq_true, Bool.and_eq_false_iff, Bool.or_eq_false_iff, bne_iff_ne, beq_iff_eq, bne_eq_false_iff_eq, beq_eq_false_iff_ne, ne_eq, not_and, Int.not_le, Int.not_lt, ge_iff_le, gt_iff_lt, Nat.not_lt, Nat.not_le, Bool.not_eq_true, Bool.not_eq_false, Bool.true_eq_false, Bool.false_eq_true, not_false_eq_true, not_true_eq_false] at h)
      | exact goes_none.mpr (by omega)
    all_goals first
      | (exfalso; omega)
      | (refine goes_inr.mpr ?_; first | (rw [if_neg (by omega)]; done) | (rw [if_pos (by omega), if_pos (by omega)]; done) | (rw [if_pos (by omega), if_neg (by omega)]; done))
  | succ k ih =>
    intro i hi
    have ih := ih (i + 1) (by omega)
    simp only [S.curE]
    have e1 : 0 < i → ((i : Int) - 1).toNat = i - 1 := fun _ => by omega
    by_cases h0 : 0 < i
    · have e1 := e1 h0
      apply Comes.of
      show Goes _ _ _
      (first | rw [q116] | unfold q116)
      try simp only [e1, Int.toNat_natCast]
      try show Goes _ _ _
      repeat' first
        | with_reducible refine goes_if (fun h => ?_) (fun h => ?_) <;> (try simp only [lim64, imp_false, decide_eq_true_eq, decide_eq_false_iff_not, Int.toNat_natCast, toNat_pred, toNat_succ, Option.getD_some, Option.getD_none, Bool.not_eq_true', Bool.not_eq_false', Bool.and_eq_true, Bool.or_eq_true, Bool.and_eq_false_iff, Bool.or_eq_false_iff, bne_iff_ne, beq_iff_eq, bne_eq_false_iff_eq, beq_eq_false_iff_ne, ne_eq, not_and, Int.not_le, Int.not_lt, ge_iff_le, gt_iff_lt, Nat.not_lt, Nat.not_le, Bool.not_eq_true, Bool.not_eq_false, Bool.true_eq_false, Bool.false_eq_true, not_false_eq_true, not_true_eq_false] at h)
        | exact goes_none.mpr (by omega)
      all_goals first
        | (exfalso; omega)
        | (rw [if_pos (by omega), if_neg (by omega)]; exact ih)
        | (refine goes_inr.mpr ?_; first | (rw [if_neg (by omega)]; done) | (rw [if_pos (by omega), if_pos (by omega)]; done))
    · apply Comes.of
      show Goes _ _ _
      (first | rw [q116] | unfold q116)
      try simp only [Int.toNat_natCast]
      try show Goes _ _ _
      repeat' first
        | with_reducible refine goes_if (fun h => ?_) (fun h => ?_) <;> (try simp only [lim64, imp_false, decide_eq_true_eq, decide_eq_false_iff_not, Int.toNat_natCast, toNat_pred, toNat_succ, Option.getD_some, Option.getD_none, Bool.not_eq_true', Bool.not_eq_false', Bool.and_eq_true, Bool.or_eq_true, Bool.and_eq_false_iff, Bool.or_eq_false_iff, bne_iff_ne, beq_iff_eq, bne_eq_false_iff_eq, beq_eq_false_iff_ne, ne_eq, not_and, Int.not_le, Int.not_lt, ge_iff_le, gt_iff_lt, Nat.not_lt, Nat.not_le, Bool.not_eq_true, Bool.not_eq_false, Bool.true_eq_false, Bool.false_eq_true, not_false_eq_true, not_true_eq_false] at h)
        | exact goes_none.mpr (by omega)
      all_goals first
        | (exfalso; omega)
        | (rw [if_pos (by omega), if_neg (by omega)]; exact ih)
        | (refine goes_inr.mpr ?_; first | (rw [if_neg (by omega)]; done) | (rw [if_pos (by omega), if_pos (by omega)]; done))
theorem s116 (cn : ByteArray) (aq nq mq : Nat) (tq : Nat → Int) (rp : Int) (fl : Int) (hp : aq + nq ≤ mq ∧ nq ≤ 1000000) : Goes ((q116 cn aq nq mq tq rp fl)) ((p116 cn aq nq mq tq rp fl)) ((S.cyE cn nq (fun j => tq (j + aq)) rp fl)) := by
  obtain ⟨hp1, hp2⟩ := hp
  unfold S.cyE
  have hm := fun (h : 2 ≤ nq ∧ nq ≤ 20) => s116' cn aq nq mq tq rp fl hp1 h nq 0 (Nat.zero_add _)
  unfold p116
  generalize S.isNam cn = A
  show Goes _ _ _
  cases A
  · exact goes_inr.mpr rfl
  · rw [if_pos rfl]
    repeat' first
      | with_reducible refine goes_if (fun h => ?_) (fun h => ?_) <;> (try simp only [lim64, imp_false, decide_eq_true_eq, decide_eq_false_iff_not, Int.toNat_natCast, toNat_pred, toNat_succ, Option.getD_some, Option.getD_none, Bool.not_eq_true', Bool.not_eq_false', Bool.and_eq_true, Bool.or_eq_true, Bool.and_eq_false_iff, Bool.or_eq_false_iff, bne_iff_ne, beq_iff_eq, bne_eq_false_iff_eq, beq_eq_false_iff_ne, ne_eq, not_and, Int.not_le, Int.not_lt, ge_iff_le, gt_iff_lt, Nat.not_lt, Nat.not_le, Bool.not_eq_true, Bool.not_eq_false, Bool.true_eq_false, Bool.false_eq_true, not_false_eq_true, not_true_eq_false] at h)
      | exact goes_none.mpr (by omega)
    all_goals first | (exfalso; omega) | (rw [if_neg (by omega), if_neg (by omega)]; exact hm (by omega)) | (refine goes_inr.mpr ?_; first | (rw [if_pos (by omega)]; done) | (rw [if_neg (by omega), if_pos (by omega)]; done)) | (exfalso; simp_all; done)
theorem k116_ok : k116.ok Try.prog := by
  intro x hx
  obtain ⟨⟨cn, ⟨aq, nq, mq, tq, _⟩, rp, fl, _⟩, _⟩ := x
  obtain ⟨h1, h2⟩ := a116 cn aq nq mq tq rp fl (s116 cn aq nq mq tq rp fl (of_dec hx rfl))
  exact ⟨⟨400, (by decide : 1 + 1 + 0 ≤ 400), h1⟩, h2⟩
inductive St117 where
  | h0 (x0 : Int)
abbrev Rt117 := Int
noncomputable def V117 (cn : ByteArray) (aq nq mq : Nat) (tq : Nat → Int) (rp : Int) (fl : Int) (r : Rt117) : PV := PV.int IntKind.i64 r
noncomputable def N117 (cn : ByteArray) (aq nq mq : Nat) (tq : Nat → Int) (rp : Int) (fl : Int) (r : Rt117) : List Blk := []
noncomputable def I117 (cn : ByteArray) (aq nq mq : Nat) (tq : Nat → Int) (rp : Int) (fl : Int) : St117 → Hd
  | .h0 x0 => ⟨hd Try.f17 0, [PV.ptr (PA.mk (1) (0) (0) (0)), PV.int IntKind.i64 (↑nq : Int),
 PV.int IntKind.i64 x0], [[(1, (true, Blk.cells
 [PV.str cn, PV.loose (PA.mk (0) (1) aq (0)) nq,
 PV.int IntKind.i64 rp, PV.int IntKind.i64 fl]))], [(0, (false, .cols mq [.int .i64 tq]))]], 2⟩
noncomputable def q117 (cn : ByteArray) (aq nq mq : Nat) (tq : Nat → Int) (rp : Int) (fl : Int) : St117 → Option (St117 ⊕ Rt117)
  | .h0 x0 => bif (decide (x0 < (↑nq : Int)))
 then (bif (decide ((0 : Int) ≤ x0 ∧ x0 < (↑nq : Int)))
 then (bif (decide (Int.toNat x0 + aq < mq))
 then (bif (decide (tq (Int.toNat x0 + aq) ≥ (-1099511627776 : Int)))
 then (bif (decide (tq (Int.toNat x0 + aq) ≤ (1099511627776 : Int)))
 then (bif (decide (x0 > (0 : Int)))
 then (bif (lim IntKind.i64 (x0 - (1 : Int)))
 then (bif (decide ((0 : Int) ≤ x0 - (1 : Int) ∧ x0 - (1 : Int) < (↑nq : Int)))
 then (bif (decide (Int.toNat (x0 - (1 : Int)) + aq < mq))
 then (bif (tq (Int.toNat x0 + aq) == tq (Int.toNat (x0 - (1 : Int)) + aq))
 then (some (.inr ((12 : Int))))
 else (bif (lim IntKind.i64 (x0 + (1 : Int)))
 then (some (.inl (.h0 (x0 + (1 : Int)))))
 else (none)))
 else (none))
 else (none))
 else (none))
 else (bif (lim IntKind.i64 (x0 + (1 : Int)))
 then (some (.inl (.h0 (x0 + (1 : Int)))))
 else (none)))
 else (some (.inr ((6 : Int)))))
 else (some (.inr ((6 : Int)))))
 else (none))
 else (none))
 else (bif (decide (rp < (1 : Int)))
 then (some (.inr ((6 : Int))))
 else (bif (decide (rp > (9 : Int)))
 then (some (.inr ((6 : Int))))
 else (bif (decide (fl ≥ (-1099511627776 : Int)))
 then (bif (decide (fl ≤ (1099511627776 : Int)))
 then (bif (lim IntKind.i64 ((↑nq : Int) - (1 : Int)))
 then (bif (decide ((0 : Int) ≤ (↑nq : Int) - (1 : Int) ∧ (↑nq : Int) - (1 : Int) < (↑nq : Int)))
 then (bif (decide (Int.toNat ((↑nq : Int) - (1 : Int)) + aq < mq))
 then (bif (fl == tq (Int.toNat ((↑nq : Int) - (1 : Int)) + aq))
 then (some (.inr ((12 : Int))))
 else (some (.inr ((0 : Int)))))
 else (none))
 else (none))
 else (none))
 else (some (.inr ((6 : Int)))))
 else (some (.inr ((6 : Int)))))))
noncomputable def p117 (cn : ByteArray) (aq nq mq : Nat) (tq : Nat → Int) (rp : Int) (fl : Int) : Option (St117 ⊕ Rt117) := bif (S.isNam cn)
 then (bif (decide ((↑nq : Int) < (2 : Int)))
 then (some (.inr ((7 : Int))))
 else (bif (decide ((↑nq : Int) > (20 : Int)))
 then (some (.inr ((3 : Int))))
 else (some (.inl (.h0 ((0 : Int)))))))
 else (some (.inr ((2 : Int))))
noncomputable def Te117 (test : Bool → Prop → Prop → Prop) (Kst : KS) (Kret : KR) (cn : ByteArray) (aq nq mq : Nat) (tq : Nat → Int) (rp : Int) (fl : Int) : Prop :=
  test (true)
 (test (S.isNam cn)
 (test (decide ((↑nq : Int) < (2 : Int)))
 (Kret (PV.int IntKind.i64 (7 : Int)) ([[(0, false, Blk.cols mq [Col.int IntKind.i64 tq])]]) (3))
 (test (decide ((↑nq : Int) > (20 : Int)))
 (Kret (PV.int IntKind.i64 (3 : Int)) ([[(0, false, Blk.cols mq [Col.int IntKind.i64 tq])]]) (3))
 (Kst (hd Try.f17 0) ([PV.ptr (PA.mk (1) (0) (0) (0)), PV.int IntKind.i64 (↑nq : Int),
 PV.int IntKind.i64 (0 : Int)]) ([[(0, false, Blk.cols mq [Col.int IntKind.i64 tq]),
 (1, true,
 Blk.cells
 [PV.str cn, PV.loose (PA.mk (0) (1) aq (0)) nq,
 PV.int IntKind.i64 rp, PV.int IntKind.i64 fl])]]) (3))))
 (Kret (PV.int IntKind.i64 (2 : Int)) ([[(0, false, Blk.cols mq [Col.int IntKind.i64 tq])]]) (3)))
 (False)
theorem te117 (test : Bool → Prop → Prop → Prop) (Kst : KS) (Kret : KR) (cn : ByteArray) (aq nq mq : Nat) (tq : Nat → Int) (rp : Int) (fl : Int) : run test Try.env true (xN test) true 400 ⟨17, [.cd (mkFn Try.f17).body], argT 0 [.agg [.str cn, .loose ⟨0, 1, aq, 0⟩ nq, .int .i64 rp, .int .i64 fl]], [[], [(0, (false, .cols mq [.int .i64 tq]))]], 1⟩ (proj 1 [1, 3, 4] Kst Kret) =
  Te117 test Kst Kret cn aq nq mq tq rp fl := by kernel_rfl
noncomputable def T117_0 (test : Bool → Prop → Prop → Prop) (Kst : KS) (Kret : KR) (cn : ByteArray) (aq nq mq : Nat) (tq : Nat → Int) (rp : Int) (fl : Int) (x0 : Int) : Prop :=
  test (decide (x0 < (↑nq : Int)))
 (test (decide ((0 : Int) ≤ x0 ∧ x0 < (↑nq : Int)))
 (test (decide (Int.toNat x0 + aq < mq))
 (test (decide (tq (Int.toNat x0 + aq) ≥ (-1099511627776 : Int)))
 (test (decide (tq (Int.toNat x0 + aq) ≤ (1099511627776 : Int)))
 (test (decide (x0 > (0 : Int)))
 (test (decide ((0 : Int) ≤ x0 ∧ x0 < (↑nq : Int)))
 (test (decide (Int.toNat x0 + aq < mq))
 (test (lim IntKind.i64 (x0 - (1 : Int)))
 (test (decide ((0 : Int) ≤ x0 - (1 : Int) ∧ x0 - (1 : Int) < (↑nq : Int)))
 (test (decide (Int.toNat (x0 - (1 : Int)) + aq < mq))
 (test (tq (Int.toNat x0 + aq) == tq (Int.toNat (x0 - (1 : Int)) + aq))
 (Kret (PV.int IntKind.i64 (12 : Int)) ([[(0, false, Blk.cols mq [Col.int IntKind.i64 tq])]]) (2))
 (test (lim IntKind.i64 (x0 + (1 : Int)))
 (Kst (hd Try.f17 0) ([PV.ptr (PA.mk (1) (0) (0) (0)), PV.int IntKind.i64 (↑nq : Int),
 PV.int IntKind.i64 (x0 + (1 : Int))]) ([[(0, false, Blk.cols mq [Col.int IntKind.i64 tq]),
 (1, true,
 Blk.cells
 [PV.str cn, PV.loose (PA.mk (0) (1) aq (0)) nq,
 PV.int IntKind.i64 rp, PV.int IntKind.i64 fl])]]) (2))
 (False)))
 (False))
 (False))
 (False))
 (False))
 (False))
 (test (lim IntKind.i64 (x0 + (1 : Int)))
 (Kst (hd Try.f17 0) ([PV.ptr (PA.mk (1) (0) (0) (0)), PV.int IntKind.i64 (↑nq : Int),
 PV.int IntKind.i64 (x0 + (1 : Int))]) ([[(0, false, Blk.cols mq [Col.int IntKind.i64 tq]),
 (1, true,
 Blk.cells
 [PV.str cn, PV.loose (PA.mk (0) (1) aq (0)) nq,
 PV.int IntKind.i64 rp, PV.int IntKind.i64 fl])]]) (2))
 (False)))
 (Kret (PV.int IntKind.i64 (6 : Int)) ([[(0, false, Blk.cols mq [Col.int IntKind.i64 tq])]]) (2)))
 (Kret (PV.int IntKind.i64 (6 : Int)) ([[(0, false, Blk.cols mq [Col.int IntKind.i64 tq])]]) (2)))
 (False))
 (False))
 (test (decide (rp < (1 : Int)))
 (Kret (PV.int IntKind.i64 (6 : Int)) ([[(0, false, Blk.cols mq [Col.int IntKind.i64 tq])]]) (2))
 (test (decide (rp > (9 : Int)))
 (Kret (PV.int IntKind.i64 (6 : Int)) ([[(0, false, Blk.cols mq [Col.int IntKind.i64 tq])]]) (2))
 (test (decide (fl ≥ (-1099511627776 : Int)))
 (test (decide (fl ≤ (1099511627776 : Int)))
 (test (lim IntKind.i64 ((↑nq : Int) - (1 : Int)))
 (test (decide ((0 : Int) ≤ (↑nq : Int) - (1 : Int) ∧ (↑nq : Int) - (1 : Int) < (↑nq : Int)))
 (test (decide (Int.toNat ((↑nq : Int) - (1 : Int)) + aq < mq))
 (test (fl == tq (Int.toNat ((↑nq : Int) - (1 : Int)) + aq))
 (Kret (PV.int IntKind.i64 (12 : Int)) ([[(0, false, Blk.cols mq [Col.int IntKind.i64 tq])]]) (2))
 (Kret (PV.int IntKind.i64 (0 : Int)) ([[(0, false, Blk.cols mq [Col.int IntKind.i64 tq])]]) (2)))
 (False))
 (False))
 (False))
 (Kret (PV.int IntKind.i64 (6 : Int)) ([[(0, false, Blk.cols mq [Col.int IntKind.i64 tq])]]) (2)))
 (Kret (PV.int IntKind.i64 (6 : Int)) ([[(0, false, Blk.cols mq [Col.int IntKind.i64 tq])]]) (2)))))
theorem t117_0 (test : Bool → Prop → Prop → Prop) (Kst : KS) (Kret : KR) (cn : ByteArray) (aq nq mq : Nat) (tq : Nat → Int) (rp : Int) (fl : Int) (x0 : Int) : run test Try.env true (xN test) true 400 ⟨17, hd Try.f17 0, zipT [1, 3, 4] [PV.ptr (PA.mk (1) (0) (0) (0)), PV.int IntKind.i64 (↑nq : Int),
 PV.int IntKind.i64 x0], [[(1, (true, Blk.cells
 [PV.str cn, PV.loose (PA.mk (0) (1) aq (0)) nq,
 PV.int IntKind.i64 rp, PV.int IntKind.i64 fl]))], [(0, (false, .cols mq [.int .i64 tq]))]], 2⟩ (proj 1 [1, 3, 4] Kst Kret) =
  T117_0 test Kst Kret cn aq nq mq tq rp fl x0 := by kernel_rfl
theorem be117 (cn : ByteArray) (aq nq mq : Nat) (tq : Nat → Int) (rp : Int) (fl : Int) (Kst : KS) (Kret : KR) (x : St117 ⊕ Rt117) (hS : HS 1 400 ((I117 cn aq nq mq tq rp fl)) Kst x) (hR : HR 1 400 ((V117 cn aq nq mq tq rp fl)) (fun r => [newL (1 + 1) ((N117 cn aq nq mq tq rp fl) r) ++ [(0, (false, .cols mq [.int .i64 tq]))]]) Kret x) (h : (bif (S.isNam cn)
 then (bif (decide ((↑nq : Int) < (2 : Int)))
 then (some (.inr ((7 : Int))))
 else (bif (decide ((↑nq : Int) > (20 : Int)))
 then (some (.inr ((3 : Int))))
 else (some (.inl (.h0 ((0 : Int)))))))
 else (some (.inr ((2 : Int)))) : Option (St117 ⊕ Rt117)) = some x) : Te117 cond Kst Kret cn aq nq mq tq rp fl := by
  unfold Te117
  exact cond_yes rfl (bif_split h
   (fun c0 h => bif_split h
   (fun c1 h => ret_at hR _ h (fun n => n) rfl rfl rfl (rn_int rfl) rfl (entl_bor (use_lo rfl) rfl rfl entl_nil))
   (fun c1 h => bif_split h
   (fun c2 h => ret_at hR _ h (fun n => n) rfl rfl rfl (rn_int rfl) rfl (entl_bor (use_lo rfl) rfl rfl entl_nil))
   (fun c2 h => stop_at hS _ h (fun n => bif Nat.beq n 1 then 1 else n) rfl rfl rfl ⟨(rn_ptr (use_own rfl) rfl rfl), ⟨(rn_int rfl), ⟨(rn_int rfl), trivial⟩⟩⟩ rfl (entl_b (use_own rfl) rfl (by simp) (rb_cells ⟨(rn_str rfl), (rn_loose (use_lo rfl) rfl rfl rfl), (rn_int rfl), (rn_int rfl), trivial⟩) (entl_bor (use_lo rfl) rfl rfl entl_nil)))))
   (fun c0 h => ret_at hR _ h (fun n => n) rfl rfl rfl (rn_int rfl) rfl (entl_bor (use_lo rfl) rfl rfl entl_nil)))
theorem b117_0 (cn : ByteArray) (aq nq mq : Nat) (tq : Nat → Int) (rp : Int) (fl : Int) (Kst : KS) (Kret : KR) (x : St117 ⊕ Rt117) (hS : HS 1 400 ((I117 cn aq nq mq tq rp fl)) Kst x) (hR : HR 1 400 ((V117 cn aq nq mq tq rp fl)) (fun r => [newL (1 + 1) ((N117 cn aq nq mq tq rp fl) r) ++ [(0, (false, .cols mq [.int .i64 tq]))]]) Kret x) (x0 : Int) (h : (bif (decide (x0 < (↑nq : Int)))
 then (bif (decide ((0 : Int) ≤ x0 ∧ x0 < (↑nq : Int)))
 then (bif (decide (Int.toNat x0 + aq < mq))
 then (bif (decide (tq (Int.toNat x0 + aq) ≥ (-1099511627776 : Int)))
 then (bif (decide (tq (Int.toNat x0 + aq) ≤ (1099511627776 : Int)))
 then (bif (decide (x0 > (0 : Int)))
 then (bif (lim IntKind.i64 (x0 - (1 : Int)))
 then (bif (decide ((0 : Int) ≤ x0 - (1 : Int) ∧ x0 - (1 : Int) < (↑nq : Int)))
 then (bif (decide (Int.toNat (x0 - (1 : Int)) + aq < mq))
 then (bif (tq (Int.toNat x0 + aq) == tq (Int.toNat (x0 - (1 : Int)) + aq))
 then (some (.inr ((12 : Int))))
 else (bif (lim IntKind.i64 (x0 + (1 : Int)))
 then (some (.inl (.h0 (x0 + (1 : Int)))))
 else (none)))
 else (none))
 else (none))
 else (none))
 else (bif (lim IntKind.i64 (x0 + (1 : Int)))
 then (some (.inl (.h0 (x0 + (1 : Int)))))
 else (none)))
 else (some (.inr ((6 : Int)))))
 else (some (.inr ((6 : Int)))))
 else (none))
 else (none))
 else (bif (decide (rp < (1 : Int)))
 then (some (.inr ((6 : Int))))
 else (bif (decide (rp > (9 : Int)))
 then (some (.inr ((6 : Int))))
 else (bif (decide (fl ≥ (-1099511627776 : Int)))
 then (bif (decide (fl ≤ (1099511627776 : Int)))
 then (bif (lim IntKind.i64 ((↑nq : Int) - (1 : Int)))
 then (bif (decide ((0 : Int) ≤ (↑nq : Int) - (1 : Int) ∧ (↑nq : Int) - (1 : Int) < (↑nq : Int)))
 then (bif (decide (Int.toNat ((↑nq : Int) - (1 : Int)) + aq < mq))
 then (bif (fl == tq (Int.toNat ((↑nq : Int) - (1 : Int)) + aq))
 then (some (.inr ((12 : Int))))
 else (some (.inr ((0 : Int)))))
 else (none))
 else (none))
 else (none))
 else (some (.inr ((6 : Int)))))
 else (some (.inr ((6 : Int))))))) : Option (St117 ⊕ Rt117)) = some x) : T117_0 cond Kst Kret cn aq nq mq tq rp fl x0 := by
  unfold T117_0
  exact bif_split h
   (fun c0 h => bif_split h
   (fun c1 h => bif_split h
   (fun c2 h => bif_split h
   (fun c3 h => bif_split h
   (fun c4 h => bif_split h
   (fun c5 h => cond_yes c1 (cond_yes c2 (bif_split h
   (fun c6 h => bif_split h
   (fun c7 h => bif_split h
   (fun c8 h => bif_split h
   (fun c9 h => ret_at hR _ h (fun n => n) rfl rfl rfl (rn_int rfl) rfl (entl_bor (use_lo rfl) rfl rfl entl_nil))
   (fun c9 h => bif_split h
   (fun c10 h => stop_at hS _ h (fun n => bif Nat.beq n 1 then 1 else n) rfl rfl rfl ⟨(rn_ptr (use_own rfl) rfl rfl), ⟨(rn_int rfl), ⟨(rn_int rfl), trivial⟩⟩⟩ rfl (entl_b (use_own rfl) rfl (by simp) (rb_cells ⟨(rn_str rfl), (rn_loose (use_lo rfl) rfl rfl rfl), (rn_int rfl), (rn_int rfl), trivial⟩) (entl_bor (use_lo rfl) rfl rfl entl_nil)))
   (fun c10 h => no_some h)))
   (fun c8 h => no_some h))
   (fun c7 h => no_some h))
   (fun c6 h => no_some h))))
   (fun c5 h => bif_split h
   (fun c6 h => stop_at hS _ h (fun n => bif Nat.beq n 1 then 1 else n) rfl rfl rfl ⟨(rn_ptr (use_own rfl) rfl rfl), ⟨(rn_int rfl), ⟨(rn_int rfl), trivial⟩⟩⟩ rfl (entl_b (use_own rfl) rfl (by simp) (rb_cells ⟨(rn_str rfl), (rn_loose (use_lo rfl) rfl rfl rfl), (rn_int rfl), (rn_int rfl), trivial⟩) (entl_bor (use_lo rfl) rfl rfl entl_nil)))
   (fun c6 h => no_some h)))
   (fun c4 h => ret_at hR _ h (fun n => n) rfl rfl rfl (rn_int rfl) rfl (entl_bor (use_lo rfl) rfl rfl entl_nil)))
   (fun c3 h => ret_at hR _ h (fun n => n) rfl rfl rfl (rn_int rfl) rfl (entl_bor (use_lo rfl) rfl rfl entl_nil)))
   (fun c2 h => no_some h))
   (fun c1 h => no_some h))
   (fun c0 h => bif_split h
   (fun c1 h => ret_at hR _ h (fun n => n) rfl rfl rfl (rn_int rfl) rfl (entl_bor (use_lo rfl) rfl rfl entl_nil))
   (fun c1 h => bif_split h
   (fun c2 h => ret_at hR _ h (fun n => n) rfl rfl rfl (rn_int rfl) rfl (entl_bor (use_lo rfl) rfl rfl entl_nil))
   (fun c2 h => bif_split h
   (fun c3 h => bif_split h
   (fun c4 h => bif_split h
   (fun c5 h => bif_split h
   (fun c6 h => bif_split h
   (fun c7 h => bif_split h
   (fun c8 h => ret_at hR _ h (fun n => n) rfl rfl rfl (rn_int rfl) rfl (entl_bor (use_lo rfl) rfl rfl entl_nil))
   (fun c8 h => ret_at hR _ h (fun n => n) rfl rfl rfl (rn_int rfl) rfl (entl_bor (use_lo rfl) rfl rfl entl_nil)))
   (fun c7 h => no_some h))
   (fun c6 h => no_some h))
   (fun c5 h => no_some h))
   (fun c4 h => ret_at hR _ h (fun n => n) rfl rfl rfl (rn_int rfl) rfl (entl_bor (use_lo rfl) rfl rfl entl_nil)))
   (fun c3 h => ret_at hR _ h (fun n => n) rfl rfl rfl (rn_int rfl) rfl (entl_bor (use_lo rfl) rfl rfl entl_nil)))))
theorem a117 (cn : ByteArray) (aq nq mq : Nat) (tq : Nat → Int) (rp : Int) (fl : Int) {r : Rt117} (h : Goes ((q117 cn aq nq mq tq rp fl)) ((p117 cn aq nq mq tq rp fl)) r) : CallR Try.prog 17 [.agg [.str cn, .loose ⟨0, 1, aq, 0⟩ nq, .int .i64 rp, .int .i64 fl]] [[(0, (false, .cols mq [.int .i64 tq]))]] 1 ((V117 cn aq nq mq tq rp fl) r) ((fun r => [newL (1 + 1) ((N117 cn aq nq mq tq rp fl) r) ++ [(0, (false, .cols mq [.int .i64 tq]))]]) r) 400 ∧ ∃ F, Try.prog.funcs[17]? = some F ∧ F.body.isSome = true ∧ (F.name == "runtime.NumGoroutine") = false := by
  refine dec_calls (f := 17) (lo := 1) (hi := 400) (H := [[(0, (false, .cols mq [.int .i64 tq]))]]) (args := [.agg [.str cn, .loose ⟨0, 1, aq, 0⟩ nq, .int .i64 rp, .int .i64 fl]]) Try.envOk Try.mixed xN_ok ((I117 cn aq nq mq tq rp fl)) ((V117 cn aq nq mq tq rp fl)) (fun r => [newL (1 + 1) ((N117 cn aq nq mq tq rp fl) r) ++ [(0, (false, .cols mq [.int .i64 tq]))]]) (fn := mkFn Try.f17) (ts := [1, 3, 4]) (n := 400) rfl (by decide) (by simp) (names_of rfl) ?_ ?_ ?_ h
  · intro s; cases s <;> exact ⟨hd_ok _ _, by simp [I117], names_of rfl, Nat.le_of_ble_eq_true rfl⟩
  · intro Kst Kret x hS hR h
    exact Holds.eq (te117 cond Kst Kret cn aq nq mq tq rp fl) (be117 cn aq nq mq tq rp fl Kst Kret x hS hR h)
  · intro Kst Kret x hS hR s h
    cases s with
    | h0 x0 => exact Holds.eq (t117_0 cond Kst Kret cn aq nq mq tq rp fl x0) (b117_0 cn aq nq mq tq rp fl Kst Kret x hS hR x0 h)
noncomputable def k117 : Con := ⟨17, [.agg [.plain (.str), .list [.int .i64], .plain (.int .i64), .plain (.int .i64)]], fun (x : (ByteArray × (Nat × Nat × Nat × (Nat → Int) × Unit) × Int × Int × Unit) × Unit) => (fun (cn : ByteArray) (aq nq mq : Nat) (tq : Nat → Int) (rp : Int) (fl : Int) => decide (aq + nq ≤ mq ∧ nq ≤ 1000000)) x.1.1 x.1.2.1.1 x.1.2.1.2.1 x.1.2.1.2.2.1 x.1.2.1.2.2.2.1 x.1.2.2.1 x.1.2.2.2.1, fun (x : (ByteArray × (Nat × Nat × Nat × (Nat → Int) × Unit) × Int × Int × Unit) × Unit) => (fun (cn : ByteArray) (aq nq mq : Nat) (tq : Nat → Int) (rp : Int) (fl : Int) => (V117 cn aq nq mq tq rp fl) ((S.cyE cn nq (fun j => tq (j + aq)) rp fl))) x.1.1 x.1.2.1.1 x.1.2.1.2.1 x.1.2.1.2.2.1 x.1.2.1.2.2.2.1 x.1.2.2.1 x.1.2.2.2.1, fun (x : (ByteArray × (Nat × Nat × Nat × (Nat → Int) × Unit) × Int × Int × Unit) × Unit) => (fun (cn : ByteArray) (aq nq mq : Nat) (tq : Nat → Int) (rp : Int) (fl : Int) => (N117 cn aq nq mq tq rp fl) ((S.cyE cn nq (fun j => tq (j + aq)) rp fl))) x.1.1 x.1.2.1.1 x.1.2.1.2.1 x.1.2.1.2.2.1 x.1.2.1.2.2.2.1 x.1.2.2.1 x.1.2.2.2.1, fun _ _ => .dead⟩
theorem s117' (cn : ByteArray) (aq nq mq : Nat) (tq : Nat → Int) (rp : Int) (fl : Int) (hp1 : aq + nq ≤ mq) (hn : 2 ≤ nq ∧ nq ≤ 20) : ∀ k i : Nat, i + k = nq → Comes (q117 cn aq nq mq tq rp fl) (.h0 (i : Int)) (S.curE (if (1 ≤ rp ∧ rp ≤ 9) ∧ -1099511627776 ≤ fl ∧ fl ≤ 1099511627776 then (if fl = tq (nq - 1 + aq) then 12 else 0) else 6) (fun j => tq (j + aq)) i k) := by
  intro k
  induction k with
  | zero =>
    intro i hi
    obtain rfl : nq = i := by omega
    simp only [S.curE]
    have e1 : ((nq : Int) - 1).toNat = nq - 1 := by omega
    apply Comes.of
    show Goes _ _ _
    (first | rw [q117] | unfold q117)
    try simp only [e1]
    try show Goes _ _ _
    repeat' first
      | with_reducible refine goes_if (fun h => ?_) (fun h => ?_) <;> (try simp only [lim64, imp_false, decide_eq_true_eq, decide_eq_false_iff_not, Int.toNat_natCast, toNat_pred, toNat_succ, Option.getD_some, Option.getD_none, Bool.not_eq_true', Bool.not_eq_false', Bool.and_eq_true, Bool.or_eq_true, Bool.and_eq_false_iff, Bool.or_eq_false_iff, bne_iff_ne, beq_iff_eq, bne_eq_false_iff_eq, beq_eq_false_iff_ne, ne_eq, not_and, Int.not_le, Int.not_lt, ge_iff_le, gt_iff_lt, Nat.not_lt, Nat.not_le, Bool.not_eq_true, Bool.not_eq_false, Bool.true_eq_false, Bool.false_eq_true, not_false_eq_true, not_true_eq_false] at h)
      | exact goes_none.mpr (by omega)
    all_goals first
      | (exfalso; omega)
      | (refine goes_inr.mpr ?_; first | (rw [if_neg (by omega)]; done) | (rw [if_pos (by omega), if_pos (by omega)]; done) | (rw [if_pos (by omega), if_neg (by omega)]; done))
  | succ k ih =>
    intro i hi
    have ih := ih (i + 1) (by omega)
    simp only [S.curE]
    have e1 : 0 < i → ((i : Int) - 1).toNat = i - 1 := fun _ => by omega
    by_cases h0 : 0 < i
    · have e1 := e1 h0
      apply Comes.of
      show Goes _ _ _
      (first | rw [q117] | unfold q117)
      try simp only [e1, Int.toNat_natCast]
      try show Goes _ _ _
      repeat' first
        | with_reducible refine goes_if (fun h => ?_) (fun h => ?_) <;> (try simp only [lim64, imp_false, decide_eq_true_eq, decide_eq_false_iff_not, Int.toNat_natCast, toNat_pred, toNat_succ, Option.getD_some, Option.getD_none, Bool.not_eq_true', Bool.not_eq_false', Bool.and_eq_true, Bool.or_eq_true, Bool.and_eq_false_iff, Bool.or_eq_false_iff, bne_iff_ne, beq_iff_eq, bne_eq_false_iff_eq, beq_eq_false_iff_ne, ne_eq, not_and, Int.not_le, Int.not_lt, ge_iff_le, gt_iff_lt, Nat.not_lt, Nat.not_le, Bool.not_eq_true, Bool.not_eq_false, Bool.true_eq_false, Bool.false_eq_true, not_false_eq_true, not_true_eq_false] at h)
        | exact goes_none.mpr (by omega)
      all_goals first
        | (exfalso; omega)
        | (rw [if_pos (by omega), if_neg (by omega)]; exact ih)
        | (refine goes_inr.mpr ?_; first | (rw [if_neg (by omega)]; done) | (rw [if_pos (by omega), if_pos (by omega)]; done))
    · apply Comes.of
      show Goes _ _ _
      (first | rw [q117] | unfold q117)
      try simp only [Int.toNat_natCast]
      try show Goes _ _ _
      repeat' first
        | with_reducible refine goes_if (fun h => ?_) (fun h => ?_) <;> (try simp only [lim64, imp_false, decide_eq_true_eq, decide_eq_false_iff_not, Int.toNat_natCast, toNat_pred, toNat_succ, Option.getD_some, Option.getD_none, Bool.not_eq_true', Bool.not_eq_false', Bool.and_eq_true, Bool.or_eq_true, Bool.and_eq_false_iff, Bool.or_eq_false_iff, bne_iff_ne, beq_iff_eq, bne_eq_false_iff_eq, beq_eq_false_iff_ne, ne_eq, not_and, Int.not_le, Int.not_lt, ge_iff_le, gt_iff_lt, Nat.not_lt, Nat.not_le, Bool.not_eq_true, Bool.not_eq_false, Bool.true_eq_false, Bool.false_eq_true, not_false_eq_true, not_true_eq_false] at h)
        | exact goes_none.mpr (by omega)
      all_goals first
        | (exfalso; omega)
        | (rw [if_pos (by omega), if_neg (by omega)]; exact ih)
        | (refine goes_inr.mpr ?_; first | (rw [if_neg (by omega)]; done) | (rw [if_pos (by omega), if_pos (by omega)]; done))
theorem s117 (cn : ByteArray) (aq nq mq : Nat) (tq : Nat → Int) (rp : Int) (fl : Int) (hp : aq + nq ≤ mq ∧ nq ≤ 1000000) : Goes ((q117 cn aq nq mq tq rp fl)) ((p117 cn aq nq mq tq rp fl)) ((S.cyE cn nq (fun j => tq (j + aq)) rp fl)) := by
  obtain ⟨hp1, hp2⟩ := hp
  unfold S.cyE
  have hm := fun (h : 2 ≤ nq ∧ nq ≤ 20) => s117' cn aq nq mq tq rp fl hp1 h nq 0 (Nat.zero_add _)
  unfold p117
  generalize S.isNam cn = A
  show Goes _ _ _
  cases A
  · exact goes_inr.mpr rfl
  · rw [if_pos rfl]
    repeat' first
      | with_reducible refine goes_if (fun h => ?_) (fun h => ?_) <;> (try simp only [lim64, imp_false, decide_eq_true_eq, decide_eq_false_iff_not, Int.toNat_natCast, toNat_pred, toNat_succ, Option.getD_some, Option.getD_none, Bool.not_eq_true', Bool.not_eq_false', Bool.and_eq_true, Bool.or_eq_true, Bool.and_eq_false_iff, Bool.or_eq_false_iff, bne_iff_ne, beq_iff_eq, bne_eq_false_iff_eq, beq_eq_false_iff_ne, ne_eq, not_and, Int.not_le, Int.not_lt, ge_iff_le, gt_iff_lt, Nat.not_lt, Nat.not_le, Bool.not_eq_true, Bool.not_eq_false, Bool.true_eq_false, Bool.false_eq_true, not_false_eq_true, not_true_eq_false] at h)
      | exact goes_none.mpr (by omega)
    all_goals first | (exfalso; omega) | (rw [if_neg (by omega), if_neg (by omega)]; exact hm (by omega)) | (refine goes_inr.mpr ?_; first | (rw [if_pos (by omega)]; done) | (rw [if_neg (by omega), if_pos (by omega)]; done)) | (exfalso; simp_all; done)
theorem k117_ok : k117.ok Try.prog := by
  intro x hx
  obtain ⟨⟨cn, ⟨aq, nq, mq, tq, _⟩, rp, fl, _⟩, _⟩ := x
  obtain ⟨h1, h2⟩ := a117 cn aq nq mq tq rp fl (s117 cn aq nq mq tq rp fl (of_dec hx rfl))
  exact ⟨⟨400, (by decide : 1 + 1 + 0 ≤ 400), h1⟩, h2⟩
abbrev St135 := Empty
abbrev Rt135 := List Int
noncomputable def V135 (cn : ByteArray) (aq nq mq : Nat) (tq : Nat → Int) (rp : Int) (fl : Int) (r : Rt135) : PV := PV.own (2) (1) (List.length r)
noncomputable def N135 (cn : ByteArray) (aq nq mq : Nat) (tq : Nat → Int) (rp : Int) (fl : Int) (r : Rt135) : List Blk := [Blk.cols (List.length r) [Col.int IntKind.i64 fun j => S.at' r j]]
noncomputable def I135 (cn : ByteArray) (aq nq mq : Nat) (tq : Nat → Int) (rp : Int) (fl : Int) : St135 → Hd := fun s => s.elim
noncomputable def q135 (cn : ByteArray) (aq nq mq : Nat) (tq : Nat → Int) (rp : Int) (fl : Int) : St135 → Option (St135 ⊕ Rt135) := fun s => s.elim
noncomputable def p135 (cn : ByteArray) (aq nq mq : Nat) (tq : Nat → Int) (rp : Int) (fl : Int) : Option (St135 ⊕ Rt135) := bif (decide ((aq + nq ≤ mq ∧ nq ≤ 1000) ∧ (0 : Int) ≤ rp ∧ rp ≤ (1000 : Int)))
 then (bif (decide
 (List.length (S.mkl (nq * Int.toNat rp) fun j => tq (j % nq + aq)) + 1 ≤ 1000000))
 then (bif (decide
 (List.length (S.mkl (nq * Int.toNat rp) fun j => tq (j % nq + aq)) ≤
 List.length (S.mkl (nq * Int.toNat rp) fun j => tq (j % nq + aq))))
 then (some (.inr (S.snoc (S.mkl (nq * Int.toNat rp) fun j => tq (j % nq + aq)) fl)))
 else (none))
 else (none))
 else (none)
noncomputable def Te135 (test : Bool → Prop → Prop → Prop) (Kst : KS) (Kret : KR) (cn : ByteArray) (aq nq mq : Nat) (tq : Nat → Int) (rp : Int) (fl : Int) : Prop :=
  test (decide ((aq + nq ≤ mq ∧ nq ≤ 1000) ∧ (0 : Int) ≤ rp ∧ rp ≤ (1000 : Int)))
 (test (decide
 (List.length (S.mkl (nq * Int.toNat rp) fun j => tq (j % nq + aq)) + 1 ≤ 1000000))
 (test (decide
 (List.length (S.mkl (nq * Int.toNat rp) fun j => tq (j % nq + aq)) ≤
 List.length (S.mkl (nq * Int.toNat rp) fun j => tq (j % nq + aq))))
 (test (true)
 (Kret (PV.own (5) (1)
 (List.length (S.mkl (nq * Int.toNat rp) fun j => tq (j % nq + aq)) + 1)) ([[(0, false, Blk.cols mq [Col.int IntKind.i64 tq]),
 (5, true,
 Blk.cols (List.length (S.mkl (nq * Int.toNat rp) fun j => tq (j % nq + aq)) + 1)
 [Col.int IntKind.i64 fun j =>
 bif Nat.blt j (List.length (S.mkl (nq * Int.toNat rp) fun j => tq (j % nq + aq))) then
 S.at' (S.mkl (nq * Int.toNat rp) fun j => tq (j % nq + aq)) j
 else fl])]]) (6))
 (False))
 (False))
 (False))
 (False)
theorem te135 (test : Bool → Prop → Prop → Prop) (Kst : KS) (Kret : KR) (cn : ByteArray) (aq nq mq : Nat) (tq : Nat → Int) (rp : Int) (fl : Int) : run test Try.env true (xR test) true 400 ⟨35, [.cd (mkFn Try.f35).body], argT 0 [.agg [.str cn, .loose ⟨0, 1, aq, 0⟩ nq, .int .i64 rp, .int .i64 fl]], [[], [(0, (false, .cols mq [.int .i64 tq]))]], 1⟩ (proj 1 [] Kst Kret) =
  Te135 test Kst Kret cn aq nq mq tq rp fl := by kernel_rfl
theorem be135 (cn : ByteArray) (aq nq mq : Nat) (tq : Nat → Int) (rp : Int) (fl : Int) (Kst : KS) (Kret : KR) (x : St135 ⊕ Rt135) (hS : HS 1 400 ((I135 cn aq nq mq tq rp fl)) Kst x) (hR : HR 1 400 ((V135 cn aq nq mq tq rp fl)) (fun r => [newL (1 + 1) ((N135 cn aq nq mq tq rp fl) r) ++ [(0, (false, .cols mq [.int .i64 tq]))]]) Kret x) (h : (bif (decide ((aq + nq ≤ mq ∧ nq ≤ 1000) ∧ (0 : Int) ≤ rp ∧ rp ≤ (1000 : Int)))
 then (bif (decide
 (List.length (S.mkl (nq * Int.toNat rp) fun j => tq (j % nq + aq)) + 1 ≤ 1000000))
 then (bif (decide
 (List.length (S.mkl (nq * Int.toNat rp) fun j => tq (j % nq + aq)) ≤
 List.length (S.mkl (nq * Int.toNat rp) fun j => tq (j % nq + aq))))
 then (some (.inr (S.snoc (S.mkl (nq * Int.toNat rp) fun j => tq (j % nq + aq)) fl)))
 else (none))
 else (none))
 else (none) : Option (St135 ⊕ Rt135)) = some x) : Te135 cond Kst Kret cn aq nq mq tq rp fl := by
  unfold Te135
  exact bif_split h
   (fun c0 h => bif_split h
   (fun c1 h => bif_split h
   (fun c2 h => cond_yes rfl (ret_at hR _ h (fun n => bif Nat.beq n 2 then 5 else n) rfl rfl rfl (rn_own (use_own rfl) rfl (snoc_len' rfl)) rfl (entl_new (use_own rfl) rfl (Nat.le_of_eq (snoc_len' rfl)) (rcs_int (col_snoc' (fun (t : Int) => t) rfl (fun _ _ => rfl)) rcs_nil) (entl_bor (use_lo rfl) rfl rfl entl_nil))))
   (fun c2 h => no_some h))
   (fun c1 h => no_some h))
   (fun c0 h => no_some h)
theorem a135 (cn : ByteArray) (aq nq mq : Nat) (tq : Nat → Int) (rp : Int) (fl : Int) {r : Rt135} (h : Goes ((q135 cn aq nq mq tq rp fl)) ((p135 cn aq nq mq tq rp fl)) r) : CallR Try.prog 35 [.agg [.str cn, .loose ⟨0, 1, aq, 0⟩ nq, .int .i64 rp, .int .i64 fl]] [[(0, (false, .cols mq [.int .i64 tq]))]] 1 ((V135 cn aq nq mq tq rp fl) r) ((fun r => [newL (1 + 1) ((N135 cn aq nq mq tq rp fl) r) ++ [(0, (false, .cols mq [.int .i64 tq]))]]) r) 400 ∧ ∃ F, Try.prog.funcs[35]? = some F ∧ F.body.isSome = true ∧ (F.name == "runtime.NumGoroutine") = false := by
  refine dec_calls (f := 35) (lo := 1) (hi := 400) (H := [[(0, (false, .cols mq [.int .i64 tq]))]]) (args := [.agg [.str cn, .loose ⟨0, 1, aq, 0⟩ nq, .int .i64 rp, .int .i64 fl]]) Try.envOk Try.mixed xR_ok ((I135 cn aq nq mq tq rp fl)) ((V135 cn aq nq mq tq rp fl)) (fun r => [newL (1 + 1) ((N135 cn aq nq mq tq rp fl) r) ++ [(0, (false, .cols mq [.int .i64 tq]))]]) (fn := mkFn Try.f35) (ts := []) (n := 400) rfl (by decide) (by simp) (names_of rfl) ?_ ?_ ?_ h
  · intro s; exact s.elim
  · intro Kst Kret x hS hR h
    exact Holds.eq (te135 cond Kst Kret cn aq nq mq tq rp fl) (be135 cn aq nq mq tq rp fl Kst Kret x hS hR h)
  · intro Kst Kret x hS hR s h; exact s.elim
noncomputable def k135 : Con := ⟨35, [.agg [.plain (.str), .list [.int .i64], .plain (.int .i64), .plain (.int .i64)]], fun (x : (ByteArray × (Nat × Nat × Nat × (Nat → Int) × Unit) × Int × Int × Unit) × Unit) => (fun (cn : ByteArray) (aq nq mq : Nat) (tq : Nat → Int) (rp : Int) (fl : Int) => decide (aq + nq ≤ mq ∧ nq ≤ 20 ∧ 0 ≤ rp ∧ rp ≤ 9)) x.1.1 x.1.2.1.1 x.1.2.1.2.1 x.1.2.1.2.2.1 x.1.2.1.2.2.2.1 x.1.2.2.1 x.1.2.2.2.1, fun (x : (ByteArray × (Nat × Nat × Nat × (Nat → Int) × Unit) × Int × Int × Unit) × Unit) => (fun (cn : ByteArray) (aq nq mq : Nat) (tq : Nat → Int) (rp : Int) (fl : Int) => (V135 cn aq nq mq tq rp fl) ((S.stpL nq (fun j => tq (j + aq)) rp fl))) x.1.1 x.1.2.1.1 x.1.2.1.2.1 x.1.2.1.2.2.1 x.1.2.1.2.2.2.1 x.1.2.2.1 x.1.2.2.2.1, fun (x : (ByteArray × (Nat × Nat × Nat × (Nat → Int) × Unit) × Int × Int × Unit) × Unit) => (fun (cn : ByteArray) (aq nq mq : Nat) (tq : Nat → Int) (rp : Int) (fl : Int) => (N135 cn aq nq mq tq rp fl) ((S.stpL nq (fun j => tq (j + aq)) rp fl))) x.1.1 x.1.2.1.1 x.1.2.1.2.1 x.1.2.1.2.2.1 x.1.2.1.2.2.2.1 x.1.2.2.1 x.1.2.2.2.1, fun _ _ => .dead⟩
theorem s135 (cn : ByteArray) (aq nq mq : Nat) (tq : Nat → Int) (rp : Int) (fl : Int) (hp : aq + nq ≤ mq ∧ nq ≤ 20 ∧ 0 ≤ rp ∧ rp ≤ 9) : Goes ((q135 cn aq nq mq tq rp fl)) ((p135 cn aq nq mq tq rp fl)) ((S.stpL nq (fun j => tq (j + aq)) rp fl)) := by
  obtain ⟨hp1, hp2, hp3, hp4⟩ := hp
  have hb := mul_bd hp2 hp4
  unfold p135
  simp only [mkl_len]
  show Goes _ _ _
  repeat' first
    | with_reducible refine goes_if (fun h => ?_) (fun h => ?_) <;> (try simp only [lim64, imp_false, decide_eq_true_eq, decide_eq_false_iff_not, Int.toNat_natCast, toNat_pred, toNat_succ, Option.getD_some, Option.getD_none, Bool.not_eq_true', Bool.not_eq_false', Bool.and_eq_true, Bool.or_eq_true, Bool.and_eq_false_iff, Bool.or_eq_false_iff, bne_iff_ne, beq_iff_eq, bne_eq_false_iff_eq, beq_eq_false_iff_ne, ne_eq, not_and, Int.not_le, Int.not_lt, ge_iff_le, gt_iff_lt, Nat.not_lt, Nat.not_le, Bool.not_eq_true, Bool.not_eq_false, Bool.true_eq_false, Bool.false_eq_true, not_false_eq_true, not_true_eq_false] at h)
    | exact goes_none.mpr (by omega)
  all_goals first | (exfalso; omega) | exact goes_inr.mpr rfl
theorem k135_ok : k135.ok Try.prog := by
  intro x hx
  obtain ⟨⟨cn, ⟨aq, nq, mq, tq, _⟩, rp, fl, _⟩, _⟩ := x
  obtain ⟨h1, h2⟩ := a135 cn aq nq mq tq rp fl (s135 cn aq nq mq tq rp fl (of_dec hx rfl))
  exact ⟨⟨400, (by decide : 1 + 1 + 1 ≤ 400), h1⟩, h2⟩
inductive St136 where
  | h0 (x0 : Int) (x1 : List Int)
abbrev Rt136 := List Int
noncomputable def V136 (cn : ByteArray) (aq nq mq : Nat) (tq : Nat → Int) (rp : Int) (fl : Int) (r : Rt136) : PV := PV.own (2) (1) (List.length r)
noncomputable def N136 (cn : ByteArray) (aq nq mq : Nat) (tq : Nat → Int) (rp : Int) (fl : Int) (r : Rt136) : List Blk := [Blk.cols (List.length r) [Col.int IntKind.i64 fun j => S.at' r j]]
noncomputable def I136 (cn : ByteArray) (aq nq mq : Nat) (tq : Nat → Int) (rp : Int) (fl : Int) : St136 → Hd
  | .h0 x0 x1 => ⟨hd Try.f36 0, [PV.ptr (PA.mk (1) (0) (0) (0)),
 PV.own (2) (1) (List.length x1), PV.int IntKind.i64 x0], [[(1, (true, Blk.cells
 [PV.str cn, PV.loose (PA.mk (0) (1) aq (0)) nq,
 PV.int IntKind.i64 rp, PV.int IntKind.i64 fl])), (2, (true, Blk.cols (List.length x1) [Col.int IntKind.i64 fun j => S.at' x1 j]))], [(0, (false, .cols mq [.int .i64 tq]))]], 3⟩
noncomputable def q136 (cn : ByteArray) (aq nq mq : Nat) (tq : Nat → Int) (rp : Int) (fl : Int) : St136 → Option (St136 ⊕ Rt136)
  | .h0 x0 x1 => bif (decide (x0 < rp))
 then (bif (decide (List.length x1 + nq ≤ 1000000))
 then (bif (decide (List.length x1 ≤ List.length x1))
 then (bif (decide (aq + nq ≤ mq))
 then (bif (lim IntKind.i64 (x0 + (1 : Int)))
 then (some (.inl (.h0 (x0 + (1 : Int)) (S.mkl (List.length x1 + nq) fun j =>
 bif Nat.blt j (List.length x1) then S.at' x1 j else tq (j - List.length x1 + aq)))))
 else (none))
 else (none))
 else (none))
 else (none))
 else (bif (decide (List.length x1 + 1 ≤ 1000000))
 then (bif (decide (List.length x1 ≤ List.length x1))
 then (some (.inr (S.snoc x1 fl)))
 else (none))
 else (none))
noncomputable def p136 (cn : ByteArray) (aq nq mq : Nat) (tq : Nat → Int) (rp : Int) (fl : Int) : Option (St136 ⊕ Rt136) := some (.inl (.h0 ((0 : Int)) ([])))
noncomputable def Te136 (test : Bool → Prop → Prop → Prop) (Kst : KS) (Kret : KR) (cn : ByteArray) (aq nq mq : Nat) (tq : Nat → Int) (rp : Int) (fl : Int) : Prop :=
  Kst (hd Try.f36 0) ([PV.ptr (PA.mk (1) (0) (0) (0)), PV.nils,
 PV.int IntKind.i64 (0 : Int)]) ([[(0, false, Blk.cols mq [Col.int IntKind.i64 tq]),
 (1, true,
 Blk.cells
 [PV.str cn, PV.loose (PA.mk (0) (1) aq (0)) nq,
 PV.int IntKind.i64 rp, PV.int IntKind.i64 fl])]]) (2)
theorem te136 (test : Bool → Prop → Prop → Prop) (Kst : KS) (Kret : KR) (cn : ByteArray) (aq nq mq : Nat) (tq : Nat → Int) (rp : Int) (fl : Int) : run test Try.env true noX true 400 ⟨36, [.cd (mkFn Try.f36).body], argT 0 [.agg [.str cn, .loose ⟨0, 1, aq, 0⟩ nq, .int .i64 rp, .int .i64 fl]], [[], [(0, (false, .cols mq [.int .i64 tq]))]], 1⟩ (proj 1 [1, 3, 4] Kst Kret) =
  Te136 test Kst Kret cn aq nq mq tq rp fl := by kernel_rfl
noncomputable def T136_0 (test : Bool → Prop → Prop → Prop) (Kst : KS) (Kret : KR) (cn : ByteArray) (aq nq mq : Nat) (tq : Nat → Int) (rp : Int) (fl : Int) (x0 : Int) (x1 : List Int) : Prop :=
  test (decide (x0 < rp))
 (test (decide (List.length x1 + nq ≤ 1000000))
 (test (decide (List.length x1 ≤ List.length x1))
 (test (decide (aq + nq ≤ mq))
 (test (lim IntKind.i64 (x0 + (1 : Int)))
 (Kst (hd Try.f36 0) ([PV.ptr (PA.mk (1) (0) (0) (0)),
 PV.own (3) (1) (List.length x1 + nq), PV.int IntKind.i64 (x0 + (1 : Int))]) ([[(0, false, Blk.cols mq [Col.int IntKind.i64 tq]),
 (3, true,
 Blk.cols (List.length x1 + nq)
 [Col.int IntKind.i64 fun j =>
 bif Nat.blt j (List.length x1) then S.at' x1 j else tq (j - List.length x1 + aq)]),
 (1, true,
 Blk.cells
 [PV.str cn, PV.loose (PA.mk (0) (1) aq (0)) nq,
 PV.int IntKind.i64 rp, PV.int IntKind.i64 fl])]]) (4))
 (False))
 (False))
 (False))
 (False))
 (test (decide (List.length x1 + 1 ≤ 1000000))
 (test (decide (List.length x1 ≤ List.length x1))
 (test (true)
 (Kret (PV.own (4) (1) (List.length x1 + 1)) ([[(0, false, Blk.cols mq [Col.int IntKind.i64 tq]),
 (4, true,
 Blk.cols (List.length x1 + 1)
 [Col.int IntKind.i64 fun j => bif Nat.blt j (List.length x1) then S.at' x1 j else fl])]]) (5))
 (False))
 (False))
 (False))
theorem t136_0 (test : Bool → Prop → Prop → Prop) (Kst : KS) (Kret : KR) (cn : ByteArray) (aq nq mq : Nat) (tq : Nat → Int) (rp : Int) (fl : Int) (x0 : Int) (x1 : List Int) : run test Try.env true noX true 400 ⟨36, hd Try.f36 0, zipT [1, 3, 4] [PV.ptr (PA.mk (1) (0) (0) (0)),
 PV.own (2) (1) (List.length x1), PV.int IntKind.i64 x0], [[(1, (true, Blk.cells
 [PV.str cn, PV.loose (PA.mk (0) (1) aq (0)) nq,
 PV.int IntKind.i64 rp, PV.int IntKind.i64 fl])), (2, (true, Blk.cols (List.length x1) [Col.int IntKind.i64 fun j => S.at' x1 j]))], [(0, (false, .cols mq [.int .i64 tq]))]], 3⟩ (proj 1 [1, 3, 4] Kst Kret) =
  T136_0 test Kst Kret cn aq nq mq tq rp fl x0 x1 := by kernel_rfl
theorem be136 (cn : ByteArray) (aq nq mq : Nat) (tq : Nat → Int) (rp : Int) (fl : Int) (Kst : KS) (Kret : KR) (x : St136 ⊕ Rt136) (hS : HS 1 400 ((I136 cn aq nq mq tq rp fl)) Kst x) (hR : HR 1 400 ((V136 cn aq nq mq tq rp fl)) (fun r => [newL (1 + 1) ((N136 cn aq nq mq tq rp fl) r) ++ [(0, (false, .cols mq [.int .i64 tq]))]]) Kret x) (h : (some (.inl (.h0 ((0 : Int)) ([]))) : Option (St136 ⊕ Rt136)) = some x) : Te136 cond Kst Kret cn aq nq mq tq rp fl := by
  unfold Te136
  exact stop_at hS _ h (fun n => bif Nat.beq n 1 then 1 else bif Nat.beq n 2 then 399 else n) rfl rfl rfl ⟨(rn_ptr (use_own rfl) rfl rfl), ⟨(rn_own_nils rfl), ⟨(rn_int rfl), trivial⟩⟩⟩ rfl (entl_b (use_own rfl) rfl (by simp) (rb_cells ⟨(rn_str rfl), (rn_loose (use_lo rfl) rfl rfl rfl), (rn_int rfl), (rn_int rfl), trivial⟩) (entl_fresh (use_own rfl) (fresh_ok rfl) (entl_bor (use_lo rfl) rfl rfl entl_nil)))
theorem b136_0 (cn : ByteArray) (aq nq mq : Nat) (tq : Nat → Int) (rp : Int) (fl : Int) (Kst : KS) (Kret : KR) (x : St136 ⊕ Rt136) (hS : HS 1 400 ((I136 cn aq nq mq tq rp fl)) Kst x) (hR : HR 1 400 ((V136 cn aq nq mq tq rp fl)) (fun r => [newL (1 + 1) ((N136 cn aq nq mq tq rp fl) r) ++ [(0, (false, .cols mq [.int .i64 tq]))]]) Kret x) (x0 : Int) (x1 : List Int) (h : (bif (decide (x0 < rp))
 then (bif (decide (List.length x1 + nq ≤ 1000000))
 then (bif (decide (List.length x1 ≤ List.length x1))
 then (bif (decide (aq + nq ≤ mq))
 then (bif (lim IntKind.i64 (x0 + (1 : Int)))
 then (some (.inl (.h0 (x0 + (1 : Int)) (S.mkl (List.length x1 + nq) fun j =>
 bif Nat.blt j (List.length x1) then S.at' x1 j else tq (j - List.length x1 + aq)))))
 else (none))
 else (none))
 else (none))
 else (none))
 else (bif (decide (List.length x1 + 1 ≤ 1000000))
 then (bif (decide (List.length x1 ≤ List.length x1))
 then (some (.inr (S.snoc x1 fl)))
 else (none))
 else (none)) : Option (St136 ⊕ Rt136)) = some x) : T136_0 cond Kst Kret cn aq nq mq tq rp fl x0 x1 := by
  unfold T136_0
  exact bif_split h
   (fun c0 h => bif_split h
   (fun c1 h => bif_split h
   (fun c2 h => bif_split h
   (fun c3 h => bif_split h
   (fun c4 h => stop_at hS _ h (fun n => bif Nat.beq n 1 then 1 else bif Nat.beq n 2 then 3 else n) rfl rfl rfl ⟨(rn_ptr (use_own rfl) rfl rfl), ⟨(rn_own (use_own rfl) rfl mkl_len), ⟨(rn_int rfl), trivial⟩⟩⟩ rfl (entl_b (use_own rfl) rfl (by simp) (rb_cells ⟨(rn_str rfl), (rn_loose (use_lo rfl) rfl rfl rfl), (rn_int rfl), (rn_int rfl), trivial⟩) (entl_new (use_own rfl) rfl (Nat.le_of_eq mkl_len) (rcs_int (fun _ hj => col_mkl (fun (t : Int) => t) hj) rcs_nil) (entl_bor (use_lo rfl) rfl rfl entl_nil))))
   (fun c4 h => no_some h))
   (fun c3 h => no_some h))
   (fun c2 h => no_some h))
   (fun c1 h => no_some h))
   (fun c0 h => bif_split h
   (fun c1 h => bif_split h
   (fun c2 h => cond_yes rfl (ret_at hR _ h (fun n => bif Nat.beq n 2 then 4 else n) rfl rfl rfl (rn_own (use_own rfl) rfl (snoc_len' rfl)) rfl (entl_new (use_own rfl) rfl (Nat.le_of_eq (snoc_len' rfl)) (rcs_int (col_snoc' (fun (t : Int) => t) rfl (fun _ _ => rfl)) rcs_nil) (entl_bor (use_lo rfl) rfl rfl entl_nil))))
   (fun c2 h => no_some h))
   (fun c1 h => no_some h))
theorem a136 (cn : ByteArray) (aq nq mq : Nat) (tq : Nat → Int) (rp : Int) (fl : Int) {r : Rt136} (h : Goes ((q136 cn aq nq mq tq rp fl)) ((p136 cn aq nq mq tq rp fl)) r) : CallR Try.prog 36 [.agg [.str cn, .loose ⟨0, 1, aq, 0⟩ nq, .int .i64 rp, .int .i64 fl]] [[(0, (false, .cols mq [.int .i64 tq]))]] 1 ((V136 cn aq nq mq tq rp fl) r) ((fun r => [newL (1 + 1) ((N136 cn aq nq mq tq rp fl) r) ++ [(0, (false, .cols mq [.int .i64 tq]))]]) r) 400 ∧ ∃ F, Try.prog.funcs[36]? = some F ∧ F.body.isSome = true ∧ (F.name == "runtime.NumGoroutine") = false := by
  refine dec_calls (f := 36) (lo := 1) (hi := 400) (H := [[(0, (false, .cols mq [.int .i64 tq]))]]) (args := [.agg [.str cn, .loose ⟨0, 1, aq, 0⟩ nq, .int .i64 rp, .int .i64 fl]]) Try.envOk Try.mixed noX_ok ((I136 cn aq nq mq tq rp fl)) ((V136 cn aq nq mq tq rp fl)) (fun r => [newL (1 + 1) ((N136 cn aq nq mq tq rp fl) r) ++ [(0, (false, .cols mq [.int .i64 tq]))]]) (fn := mkFn Try.f36) (ts := [1, 3, 4]) (n := 400) rfl (by decide) (by simp) (names_of rfl) ?_ ?_ ?_ h
  · intro s; cases s <;> exact ⟨hd_ok _ _, by simp [I136], names_of rfl, Nat.le_of_ble_eq_true rfl⟩
  · intro Kst Kret x hS hR h
    exact Holds.eq (te136 cond Kst Kret cn aq nq mq tq rp fl) (be136 cn aq nq mq tq rp fl Kst Kret x hS hR h)
  · intro Kst Kret x hS hR s h
    cases s with
    | h0 x0 x1 => exact Holds.eq (t136_0 cond Kst Kret cn aq nq mq tq rp fl x0 x1) (b136_0 cn aq nq mq tq rp fl Kst Kret x hS hR x0 x1 h)
noncomputable def k136 : Con := ⟨36, [.agg [.plain (.str), .list [.int .i64], .plain (.int .i64), .plain (.int .i64)]], fun (x : (ByteArray × (Nat × Nat × Nat × (Nat → Int) × Unit) × Int × Int × Unit) × Unit) => (fun (cn : ByteArray) (aq nq mq : Nat) (tq : Nat → Int) (rp : Int) (fl : Int) => decide (aq + nq ≤ mq ∧ nq ≤ 20 ∧ 0 ≤ rp ∧ rp ≤ 9)) x.1.1 x.1.2.1.1 x.1.2.1.2.1 x.1.2.1.2.2.1 x.1.2.1.2.2.2.1 x.1.2.2.1 x.1.2.2.2.1, fun (x : (ByteArray × (Nat × Nat × Nat × (Nat → Int) × Unit) × Int × Int × Unit) × Unit) => (fun (cn : ByteArray) (aq nq mq : Nat) (tq : Nat → Int) (rp : Int) (fl : Int) => (V136 cn aq nq mq tq rp fl) ((S.stpL nq (fun j => tq (j + aq)) rp fl))) x.1.1 x.1.2.1.1 x.1.2.1.2.1 x.1.2.1.2.2.1 x.1.2.1.2.2.2.1 x.1.2.2.1 x.1.2.2.2.1, fun (x : (ByteArray × (Nat × Nat × Nat × (Nat → Int) × Unit) × Int × Int × Unit) × Unit) => (fun (cn : ByteArray) (aq nq mq : Nat) (tq : Nat → Int) (rp : Int) (fl : Int) => (N136 cn aq nq mq tq rp fl) ((S.stpL nq (fun j => tq (j + aq)) rp fl))) x.1.1 x.1.2.1.1 x.1.2.1.2.1 x.1.2.1.2.2.1 x.1.2.1.2.2.2.1 x.1.2.2.1 x.1.2.2.2.1, fun _ _ => .dead⟩
theorem s136' (cn : ByteArray) (aq nq mq : Nat) (tq : Nat → Int) (rp : Int) (fl : Int) (hp : aq + nq ≤ mq ∧ nq ≤ 20 ∧ 0 ≤ rp ∧ rp ≤ 9) : ∀ (k i : Nat) (L : List Int), i + k = rp.toNat → Holds (L = S.mkl (nq * i) (fun j => tq (j % nq + aq))) → Comes (q136 cn aq nq mq tq rp fl) (.h0 (i : Int) L) (S.stpL nq (fun j => tq (j + aq)) rp fl) := by
  obtain ⟨hp1, hp2, hp3, hp4⟩ := hp
  have hb := mul_bd hp2 hp4
  intro k
  induction k with
  | zero =>
    intro i L hi eL
    have hL : L.length = nq * rp.toNat := by rw [eL.get, mkl_len, show i = rp.toNat by omega]
    have e : S.snoc L fl = (S.stpL nq (fun j => tq (j + aq)) rp fl) := by rw [eL.get, show i = rp.toNat by omega]; rfl
    generalize nq * rp.toNat = m at *
    apply Comes.of
    show Goes _ _ _
    (first | rw [q136] | unfold q136)
    repeat' first
      | with_reducible refine goes_if (fun h => ?_) (fun h => ?_) <;> (try simp only [lim64, imp_false, decide_eq_true_eq, decide_eq_false_iff_not, Int.toNat_natCast, toNat_pred, toNat_succ, Option.getD_some, Option.getD_none, Bool.not_eq_true', Bool.not_eq_false', Bool.and_eq_true, Bool.or_eq_true, Bool.and_eq_false_iff, Bool.or_eq_false_iff, bne_iff_ne, beq_iff_eq, bne_eq_false_iff_eq, beq_eq_false_iff_ne, ne_eq, not_and, Int.not_le, Int.not_lt, ge_iff_le, gt_iff_lt, Nat.not_lt, Nat.not_le, Bool.not_eq_true, Bool.not_eq_false, Bool.true_eq_false, Bool.false_eq_true, not_false_eq_true, not_true_eq_false] at h)
      | exact goes_none.mpr (by omega)
    all_goals first | (exfalso; omega) | exact goes_inr.mpr e
  | succ k ih =>
    intro i L hi eL
    have hL : L.length = nq * i := by rw [eL.get, mkl_len]
    have hi2 : nq * i ≤ nq * rp.toNat := Nat.mul_le_mul_left nq (by omega)
    have hi3 : nq * (i + 1) ≤ nq * rp.toNat := Nat.mul_le_mul_left nq (by omega)
    have ih := ih (i + 1) (S.mkl (L.length + nq) fun j => bif Nat.blt j L.length then S.at' L j else tq (j - L.length + aq)) (by omega) ⟨by
      rw [hL, Nat.mul_succ]
      refine mkl_congr fun j hj => ?_
      by_cases h : j < nq * i
      · rw [show Nat.blt j (nq * i) = true by rw [Nat.blt_eq]; exact h, cond_true, eL.get, at_mkl h]
      · rw [show Nat.blt j (nq * i) = false by cases hb : Nat.blt j (nq * i); rfl; exact absurd (lt_ok hb) h, cond_false]
        have : j % nq = j - nq * i := by
          rw [show j = (j - nq * i) + nq * i by omega, Nat.add_mul_mod_self_left, Nat.mod_eq_of_lt (by omega), Nat.add_sub_cancel]
        rw [this]⟩
    rw [Nat.mul_succ] at hi3
    apply Comes.of
    show Goes _ _ _
    (first | rw [q136] | unfold q136)
    repeat' first
      | with_reducible refine goes_if (fun h => ?_) (fun h => ?_) <;> (try simp only [lim64, imp_false, decide_eq_true_eq, decide_eq_false_iff_not, Int.toNat_natCast, toNat_pred, toNat_succ, Option.getD_some, Option.getD_none, Bool.not_eq_true', Bool.not_eq_false', Bool.and_eq_true, Bool.or_eq_true, Bool.and_eq_false_iff, Bool.or_eq_false_iff, bne_iff_ne, beq_iff_eq, bne_eq_false_iff_eq, beq_eq_false_iff_ne, ne_eq, not_and, Int.not_le, Int.not_lt, ge_iff_le, gt_iff_lt, Nat.not_lt, Nat.not_le, Bool.not_eq_true, Bool.not_eq_false, Bool.true_eq_false, Bool.false_eq_true, not_false_eq_true, not_true_eq_false] at h)
      | exact goes_none.mpr (by omega)
    all_goals first | (exfalso; omega) | exact ih
theorem s136 (cn : ByteArray) (aq nq mq : Nat) (tq : Nat → Int) (rp : Int) (fl : Int) (hp : aq + nq ≤ mq ∧ nq ≤ 20 ∧ 0 ≤ rp ∧ rp ≤ 9) : Goes ((q136 cn aq nq mq tq rp fl)) ((p136 cn aq nq mq tq rp fl)) ((S.stpL nq (fun j => tq (j + aq)) rp fl)) := by
  exact s136' cn aq nq mq tq rp fl hp rp.toNat 0 [] (Nat.zero_add _) ⟨by rw [Nat.mul_zero]; rfl⟩
theorem k136_ok : k136.ok Try.prog := by
  intro x hx
  obtain ⟨⟨cn, ⟨aq, nq, mq, tq, _⟩, rp, fl, _⟩, _⟩ := x
  obtain ⟨h1, h2⟩ := a136 cn aq nq mq tq rp fl (s136 cn aq nq mq tq rp fl (of_dec hx rfl))
  exact ⟨⟨400, (by decide : 1 + 1 + 1 ≤ 400), h1⟩, h2⟩
abbrev St112 := Empty
abbrev Rt112 := Bool
noncomputable def V112 (cn : ByteArray) (aq nq mq : Nat) (tq : Nat → Int) (rp : Int) (fl : Int) (al nl ml : Nat) (tl : Nat → Int) (r : Rt112) : PV := PV.bool r
noncomputable def N112 (cn : ByteArray) (aq nq mq : Nat) (tq : Nat → Int) (rp : Int) (fl : Int) (al nl ml : Nat) (tl : Nat → Int) (r : Rt112) : List Blk := []
noncomputable def I112 (cn : ByteArray) (aq nq mq : Nat) (tq : Nat → Int) (rp : Int) (fl : Int) (al nl ml : Nat) (tl : Nat → Int) : St112 → Hd := fun s => s.elim
noncomputable def q112 (cn : ByteArray) (aq nq mq : Nat) (tq : Nat → Int) (rp : Int) (fl : Int) (al nl ml : Nat) (tl : Nat → Int) : St112 → Option (St112 ⊕ Rt112) := fun s => s.elim
noncomputable def p112 (cn : ByteArray) (aq nq mq : Nat) (tq : Nat → Int) (rp : Int) (fl : Int) (al nl ml : Nat) (tl : Nat → Int) : Option (St112 ⊕ Rt112) := bif (decide ((↑(ByteArray.size cn) : Int) ≤ (60 : Int)))
 then (bif (decide ((↑nq : Int) ≤ (25 : Int)))
 then (bif (decide ((↑nl : Int) ≤ (60 : Int)))
 then (some (.inr (true)))
 else (bif (decide ((↑nl : Int) > (500 : Int)))
 then (bif (decide ((↑nl : Int) ≤ (510 : Int)))
 then (some (.inr (true)))
 else (some (.inr (false))))
 else (some (.inr (false)))))
 else (some (.inr (false))))
 else (some (.inr (false)))
noncomputable def Te112 (test : Bool → Prop → Prop → Prop) (Kst : KS) (Kret : KR) (cn : ByteArray) (aq nq mq : Nat) (tq : Nat → Int) (rp : Int) (fl : Int) (al nl ml : Nat) (tl : Nat → Int) : Prop :=
  test (decide ((↑(ByteArray.size cn) : Int) ≤ (60 : Int)))
 (test (decide ((↑nq : Int) ≤ (25 : Int)))
 (test (decide ((↑nl : Int) ≤ (60 : Int)))
 (Kret (PV.tf true) ([[(1, false, Blk.cols ml [Col.int IntKind.i64 tl]),
 (0, false, Blk.cols mq [Col.int IntKind.i64 tq])]]) (3))
 (test (decide ((↑nl : Int) > (500 : Int)))
 (test (decide ((↑nl : Int) ≤ (510 : Int)))
 (Kret (PV.tf true) ([[(1, false, Blk.cols ml [Col.int IntKind.i64 tl]),
 (0, false, Blk.cols mq [Col.int IntKind.i64 tq])]]) (3))
 (Kret (PV.tf false) ([[(1, false, Blk.cols ml [Col.int IntKind.i64 tl]),
 (0, false, Blk.cols mq [Col.int IntKind.i64 tq])]]) (3)))
 (Kret (PV.tf false) ([[(1, false, Blk.cols ml [Col.int IntKind.i64 tl]),
 (0, false, Blk.cols mq [Col.int IntKind.i64 tq])]]) (3))))
 (Kret (PV.tf false) ([[(1, false, Blk.cols ml [Col.int IntKind.i64 tl]),
 (0, false, Blk.cols mq [Col.int IntKind.i64 tq])]]) (3)))
 (Kret (PV.tf false) ([[(1, false, Blk.cols ml [Col.int IntKind.i64 tl]),
 (0, false, Blk.cols mq [Col.int IntKind.i64 tq])]]) (3))
theorem te112 (test : Bool → Prop → Prop → Prop) (Kst : KS) (Kret : KR) (cn : ByteArray) (aq nq mq : Nat) (tq : Nat → Int) (rp : Int) (fl : Int) (al nl ml : Nat) (tl : Nat → Int) : run test Try.env true noX true 400 ⟨12, [.cd (mkFn Try.f12).body], argT 0 [.agg [.str cn, .loose ⟨0, 1, aq, 0⟩ nq, .int .i64 rp, .int .i64 fl], .loose ⟨1, 1, al, 0⟩ nl], [[], [(0, (false, .cols mq [.int .i64 tq])), (1, (false, .cols ml [.int .i64 tl]))]], 2⟩ (proj 2 [] Kst Kret) =
  Te112 test Kst Kret cn aq nq mq tq rp fl al nl ml tl := by kernel_rfl
theorem be112 (cn : ByteArray) (aq nq mq : Nat) (tq : Nat → Int) (rp : Int) (fl : Int) (al nl ml : Nat) (tl : Nat → Int) (Kst : KS) (Kret : KR) (x : St112 ⊕ Rt112) (hS : HS 2 400 ((I112 cn aq nq mq tq rp fl al nl ml tl)) Kst x) (hR : HR 2 400 ((V112 cn aq nq mq tq rp fl al nl ml tl)) (fun r => [newL (2 + 1) ((N112 cn aq nq mq tq rp fl al nl ml tl) r) ++ [(0, (false, .cols mq [.int .i64 tq])), (1, (false, .cols ml [.int .i64 tl]))]]) Kret x) (h : (bif (decide ((↑(ByteArray.size cn) : Int) ≤ (60 : Int)))
 then (bif (decide ((↑nq : Int) ≤ (25 : Int)))
 then (bif (decide ((↑nl : Int) ≤ (60 : Int)))
 then (some (.inr (true)))
 else (bif (decide ((↑nl : Int) > (500 : Int)))
 then (bif (decide ((↑nl : Int) ≤ (510 : Int)))
 then (some (.inr (true)))
 else (some (.inr (false))))
 else (some (.inr (false)))))
 else (some (.inr (false))))
 else (some (.inr (false))) : Option (St112 ⊕ Rt112)) = some x) : Te112 cond Kst Kret cn aq nq mq tq rp fl al nl ml tl := by
  unfold Te112
  exact bif_split h
   (fun c0 h => bif_split h
   (fun c1 h => bif_split h
   (fun c2 h => ret_at hR _ h (fun n => n) rfl rfl rfl (rn_bool_tf rfl) rfl (entl_bor (use_lo rfl) rfl rfl (entl_bor (use_lo rfl) rfl rfl entl_nil)))
   (fun c2 h => bif_split h
   (fun c3 h => bif_split h
   (fun c4 h => ret_at hR _ h (fun n => n) rfl rfl rfl (rn_bool_tf rfl) rfl (entl_bor (use_lo rfl) rfl rfl (entl_bor (use_lo rfl) rfl rfl entl_nil)))
   (fun c4 h => ret_at hR _ h (fun n => n) rfl rfl rfl (rn_bool_tf rfl) rfl (entl_bor (use_lo rfl) rfl rfl (entl_bor (use_lo rfl) rfl rfl entl_nil))))
   (fun c3 h => ret_at hR _ h (fun n => n) rfl rfl rfl (rn_bool_tf rfl) rfl (entl_bor (use_lo rfl) rfl rfl (entl_bor (use_lo rfl) rfl rfl entl_nil)))))
   (fun c1 h => ret_at hR _ h (fun n => n) rfl rfl rfl (rn_bool_tf rfl) rfl (entl_bor (use_lo rfl) rfl rfl (entl_bor (use_lo rfl) rfl rfl entl_nil))))
   (fun c0 h => ret_at hR _ h (fun n => n) rfl rfl rfl (rn_bool_tf rfl) rfl (entl_bor (use_lo rfl) rfl rfl (entl_bor (use_lo rfl) rfl rfl entl_nil)))
theorem a112 (cn : ByteArray) (aq nq mq : Nat) (tq : Nat → Int) (rp : Int) (fl : Int) (al nl ml : Nat) (tl : Nat → Int) {r : Rt112} (h : Goes ((q112 cn aq nq mq tq rp fl al nl ml tl)) ((p112 cn aq nq mq tq rp fl al nl ml tl)) r) : CallR Try.prog 12 [.agg [.str cn, .loose ⟨0, 1, aq, 0⟩ nq, .int .i64 rp, .int .i64 fl], .loose ⟨1, 1, al, 0⟩ nl] [[(0, (false, .cols mq [.int .i64 tq])), (1, (false, .cols ml [.int .i64 tl]))]] 2 ((V112 cn aq nq mq tq rp fl al nl ml tl) r) ((fun r => [newL (2 + 1) ((N112 cn aq nq mq tq rp fl al nl ml tl) r) ++ [(0, (false, .cols mq [.int .i64 tq])), (1, (false, .cols ml [.int .i64 tl]))]]) r) 400 ∧ ∃ F, Try.prog.funcs[12]? = some F ∧ F.body.isSome = true ∧ (F.name == "runtime.NumGoroutine") = false := by
  refine dec_calls (f := 12) (lo := 2) (hi := 400) (H := [[(0, (false, .cols mq [.int .i64 tq])), (1, (false, .cols ml [.int .i64 tl]))]]) (args := [.agg [.str cn, .loose ⟨0, 1, aq, 0⟩ nq, .int .i64 rp, .int .i64 fl], .loose ⟨1, 1, al, 0⟩ nl]) Try.envOk Try.mixed noX_ok ((I112 cn aq nq mq tq rp fl al nl ml tl)) ((V112 cn aq nq mq tq rp fl al nl ml tl)) (fun r => [newL (2 + 1) ((N112 cn aq nq mq tq rp fl al nl ml tl) r) ++ [(0, (false, .cols mq [.int .i64 tq])), (1, (false, .cols ml [.int .i64 tl]))]]) (fn := mkFn Try.f12) (ts := []) (n := 400) rfl (by decide) (by simp) (names_of rfl) ?_ ?_ ?_ h
  · intro s; exact s.elim
  · intro Kst Kret x hS hR h
    exact Holds.eq (te112 cond Kst Kret cn aq nq mq tq rp fl al nl ml tl) (be112 cn aq nq mq tq rp fl al nl ml tl Kst Kret x hS hR h)
  · intro Kst Kret x hS hR s h; exact s.elim
noncomputable def k112 : Con := ⟨12, [.agg [.plain (.str), .list [.int .i64], .plain (.int .i64), .plain (.int .i64)], .one (.list [.int .i64])], fun (x : (ByteArray × (Nat × Nat × Nat × (Nat → Int) × Unit) × Int × Int × Unit) × (Nat × Nat × Nat × (Nat → Int) × Unit) × Unit) => (fun (cn : ByteArray) (aq nq mq : Nat) (tq : Nat → Int) (rp : Int) (fl : Int) (al nl ml : Nat) (tl : Nat → Int) => decide (True)) x.1.1 x.1.2.1.1 x.1.2.1.2.1 x.1.2.1.2.2.1 x.1.2.1.2.2.2.1 x.1.2.2.1 x.1.2.2.2.1 x.2.1.1 x.2.1.2.1 x.2.1.2.2.1 x.2.1.2.2.2.1, fun (x : (ByteArray × (Nat × Nat × Nat × (Nat → Int) × Unit) × Int × Int × Unit) × (Nat × Nat × Nat × (Nat → Int) × Unit) × Unit) => (fun (cn : ByteArray) (aq nq mq : Nat) (tq : Nat → Int) (rp : Int) (fl : Int) (al nl ml : Nat) (tl : Nat → Int) => (V112 cn aq nq mq tq rp fl al nl ml tl) (S.fewC cn nq nl)) x.1.1 x.1.2.1.1 x.1.2.1.2.1 x.1.2.1.2.2.1 x.1.2.1.2.2.2.1 x.1.2.2.1 x.1.2.2.2.1 x.2.1.1 x.2.1.2.1 x.2.1.2.2.1 x.2.1.2.2.2.1, fun (x : (ByteArray × (Nat × Nat × Nat × (Nat → Int) × Unit) × Int × Int × Unit) × (Nat × Nat × Nat × (Nat → Int) × Unit) × Unit) => (fun (cn : ByteArray) (aq nq mq : Nat) (tq : Nat → Int) (rp : Int) (fl : Int) (al nl ml : Nat) (tl : Nat → Int) => (N112 cn aq nq mq tq rp fl al nl ml tl) (S.fewC cn nq nl)) x.1.1 x.1.2.1.1 x.1.2.1.2.1 x.1.2.1.2.2.1 x.1.2.1.2.2.2.1 x.1.2.2.1 x.1.2.2.2.1 x.2.1.1 x.2.1.2.1 x.2.1.2.2.1 x.2.1.2.2.2.1, fun _ _ => .dead⟩
theorem s112 (cn : ByteArray) (aq nq mq : Nat) (tq : Nat → Int) (rp : Int) (fl : Int) (al nl ml : Nat) (tl : Nat → Int) (hp : True) : Goes ((q112 cn aq nq mq tq rp fl al nl ml tl)) ((p112 cn aq nq mq tq rp fl al nl ml tl)) (S.fewC cn nq nl) := by
  show Goes _ _ _
  unfold p112
  repeat' first
    | with_reducible refine goes_if (fun h => ?_) (fun h => ?_) <;> (try simp only [lim64, imp_false, decide_eq_true_eq, decide_eq_false_iff_not, Int.toNat_natCast, toNat_pred, toNat_succ, Option.getD_some, Option.getD_none, Bool.not_eq_true', Bool.not_eq_false', Bool.and_eq_true, Bool.or_eq_true, Bool.and_eq_false_iff, Bool.or_eq_false_iff, bne_iff_ne, beq_iff_eq, bne_eq_false_iff_eq, beq_eq_false_iff_ne, ne_eq, not_and, Int.not_le, Int.not_lt, ge_iff_le, gt_iff_lt, Nat.not_lt, Nat.not_le, Bool.not_eq_true, Bool.not_eq_false, Bool.true_eq_false, Bool.false_eq_true, not_false_eq_true, not_true_eq_false] at h)
    | exact goes_none.mpr (by omega)
  all_goals first | (exfalso; omega) | (refine goes_inr.mpr ?_; first | exact (decide_eq_true (by omega)).symm | exact (decide_eq_false (by omega)).symm)
theorem k112_ok : k112.ok Try.prog := by
  intro x hx
  obtain ⟨⟨cn, ⟨aq, nq, mq, tq, _⟩, rp, fl, _⟩, ⟨al, nl, ml, tl, _⟩, _⟩ := x
  obtain ⟨h1, h2⟩ := a112 cn aq nq mq tq rp fl al nl ml tl (s112 cn aq nq mq tq rp fl al nl ml tl (of_dec hx rfl))
  exact ⟨⟨400, (by decide : 2 + 1 + 0 ≤ 400), h1⟩, h2⟩
noncomputable def xA1 (test : Bool → Prop → Prop → Prop) : Ext := consX test [k116, k117, k135, k136, k112, k25]
theorem xA1_ok : ExtOk Try.prog (xA1 cond) := consX_ok ⟨k116_ok, k117_ok, k135_ok, k136_ok, k112_ok, k25_ok, trivial⟩
abbrev St114 := Empty
abbrev Rt114 := List Int
noncomputable def V114 (cn : ByteArray) (aq nq mq : Nat) (tq : Nat → Int) (rp : Int) (fl : Int) (r : Rt114) : PV := PV.agg
 [PV.str cn, PV.own (2) (1) (List.length r), PV.int IntKind.i64 rp,
 PV.int IntKind.i64 fl]
noncomputable def N114 (cn : ByteArray) (aq nq mq : Nat) (tq : Nat → Int) (rp : Int) (fl : Int) (r : Rt114) : List Blk := [Blk.cols (List.length r) [Col.int IntKind.i64 fun j => S.at' r j]]
noncomputable def I114 (cn : ByteArray) (aq nq mq : Nat) (tq : Nat → Int) (rp : Int) (fl : Int) : St114 → Hd := fun s => s.elim
noncomputable def q114 (cn : ByteArray) (aq nq mq : Nat) (tq : Nat → Int) (rp : Int) (fl : Int) : St114 → Option (St114 ⊕ Rt114) := fun s => s.elim
noncomputable def p114 (cn : ByteArray) (aq nq mq : Nat) (tq : Nat → Int) (rp : Int) (fl : Int) : Option (St114 ⊕ Rt114) := bif (decide (aq + nq ≤ mq ∧ nq ≤ 1000000))
 then (some (.inr (S.mkl nq fun j => tq (j + aq))))
 else (none)
noncomputable def Te114 (test : Bool → Prop → Prop → Prop) (Kst : KS) (Kret : KR) (cn : ByteArray) (aq nq mq : Nat) (tq : Nat → Int) (rp : Int) (fl : Int) : Prop :=
  test (decide (aq + nq ≤ mq ∧ nq ≤ 1000000))
 (Kret (PV.agg
 [PV.str cn, PV.own (4) (1) nq, PV.int IntKind.i64 rp,
 PV.int IntKind.i64 fl]) ([[(0, false, Blk.cols mq [Col.int IntKind.i64 tq]),
 (4, true, Blk.cols nq [Col.int IntKind.i64 fun j => tq (j + aq)])]]) (5))
 (False)
theorem te114 (test : Bool → Prop → Prop → Prop) (Kst : KS) (Kret : KR) (cn : ByteArray) (aq nq mq : Nat) (tq : Nat → Int) (rp : Int) (fl : Int) : run test Try.env true (xA1 test) true 400 ⟨14, [.cd (mkFn Try.f14).body], argT 0 [.agg [.str cn, .loose ⟨0, 1, aq, 0⟩ nq, .int .i64 rp, .int .i64 fl]], [[], [(0, (false, .cols mq [.int .i64 tq]))]], 1⟩ (proj 1 [] Kst Kret) =
  Te114 test Kst Kret cn aq nq mq tq rp fl := by kernel_rfl
theorem be114 (cn : ByteArray) (aq nq mq : Nat) (tq : Nat → Int) (rp : Int) (fl : Int) (Kst : KS) (Kret : KR) (x : St114 ⊕ Rt114) (hS : HS 1 400 ((I114 cn aq nq mq tq rp fl)) Kst x) (hR : HR 1 400 ((V114 cn aq nq mq tq rp fl)) (fun r => [newL (1 + 1) ((N114 cn aq nq mq tq rp fl) r) ++ [(0, (false, .cols mq [.int .i64 tq]))]]) Kret x) (h : (bif (decide (aq + nq ≤ mq ∧ nq ≤ 1000000))
 then (some (.inr (S.mkl nq fun j => tq (j + aq))))
 else (none) : Option (St114 ⊕ Rt114)) = some x) : Te114 cond Kst Kret cn aq nq mq tq rp fl := by
  unfold Te114
  exact bif_split h
   (fun c0 h => ret_at hR _ h (fun n => bif Nat.beq n 2 then 4 else n) rfl rfl rfl (rn_agg ⟨(rn_str rfl), (rn_own (use_own rfl) rfl mkl_len), (rn_int rfl), (rn_int rfl), trivial⟩) rfl (entl_new (use_own rfl) rfl (Nat.le_of_eq mkl_len) (rcs_int (fun _ hj => col_mkl (fun (t : Int) => t) hj) rcs_nil) (entl_bor (use_lo rfl) rfl rfl entl_nil)))
   (fun c0 h => no_some h)
theorem a114 (cn : ByteArray) (aq nq mq : Nat) (tq : Nat → Int) (rp : Int) (fl : Int) {r : Rt114} (h : Goes ((q114 cn aq nq mq tq rp fl)) ((p114 cn aq nq mq tq rp fl)) r) : CallR Try.prog 14 [.agg [.str cn, .loose ⟨0, 1, aq, 0⟩ nq, .int .i64 rp, .int .i64 fl]] [[(0, (false, .cols mq [.int .i64 tq]))]] 1 ((V114 cn aq nq mq tq rp fl) r) ((fun r => [newL (1 + 1) ((N114 cn aq nq mq tq rp fl) r) ++ [(0, (false, .cols mq [.int .i64 tq]))]]) r) 400 ∧ ∃ F, Try.prog.funcs[14]? = some F ∧ F.body.isSome = true ∧ (F.name == "runtime.NumGoroutine") = false := by
  refine dec_calls (f := 14) (lo := 1) (hi := 400) (H := [[(0, (false, .cols mq [.int .i64 tq]))]]) (args := [.agg [.str cn, .loose ⟨0, 1, aq, 0⟩ nq, .int .i64 rp, .int .i64 fl]]) Try.envOk Try.mixed xA1_ok ((I114 cn aq nq mq tq rp fl)) ((V114 cn aq nq mq tq rp fl)) (fun r => [newL (1 + 1) ((N114 cn aq nq mq tq rp fl) r) ++ [(0, (false, .cols mq [.int .i64 tq]))]]) (fn := mkFn Try.f14) (ts := []) (n := 400) rfl (by decide) (by simp) (names_of rfl) ?_ ?_ ?_ h
  · intro s; exact s.elim
  · intro Kst Kret x hS hR h
    exact Holds.eq (te114 cond Kst Kret cn aq nq mq tq rp fl) (be114 cn aq nq mq tq rp fl Kst Kret x hS hR h)
  · intro Kst Kret x hS hR s h; exact s.elim
noncomputable def k114 : Con := ⟨14, [.agg [.plain (.str), .list [.int .i64], .plain (.int .i64), .plain (.int .i64)]], fun (x : (ByteArray × (Nat × Nat × Nat × (Nat → Int) × Unit) × Int × Int × Unit) × Unit) => (fun (cn : ByteArray) (aq nq mq : Nat) (tq : Nat → Int) (rp : Int) (fl : Int) => decide (aq + nq ≤ mq ∧ nq ≤ 1000000)) x.1.1 x.1.2.1.1 x.1.2.1.2.1 x.1.2.1.2.2.1 x.1.2.1.2.2.2.1 x.1.2.2.1 x.1.2.2.2.1, fun (x : (ByteArray × (Nat × Nat × Nat × (Nat → Int) × Unit) × Int × Int × Unit) × Unit) => (fun (cn : ByteArray) (aq nq mq : Nat) (tq : Nat → Int) (rp : Int) (fl : Int) => (V114 cn aq nq mq tq rp fl) ((S.mkl nq fun j => tq (j + aq)))) x.1.1 x.1.2.1.1 x.1.2.1.2.1 x.1.2.1.2.2.1 x.1.2.1.2.2.2.1 x.1.2.2.1 x.1.2.2.2.1, fun (x : (ByteArray × (Nat × Nat × Nat × (Nat → Int) × Unit) × Int × Int × Unit) × Unit) => (fun (cn : ByteArray) (aq nq mq : Nat) (tq : Nat → Int) (rp : Int) (fl : Int) => (N114 cn aq nq mq tq rp fl) ((S.mkl nq fun j => tq (j + aq)))) x.1.1 x.1.2.1.1 x.1.2.1.2.1 x.1.2.1.2.2.1 x.1.2.1.2.2.2.1 x.1.2.2.1 x.1.2.2.2.1, fun _ _ => .dead⟩
theorem s114 (cn : ByteArray) (aq nq mq : Nat) (tq : Nat → Int) (rp : Int) (fl : Int) (hp : aq + nq ≤ mq ∧ nq ≤ 1000000) : Goes ((q114 cn aq nq mq tq rp fl)) ((p114 cn aq nq mq tq rp fl)) ((S.mkl nq fun j => tq (j + aq))) := by
  obtain ⟨hp1, hp2⟩ := hp
  show Goes _ _ _
  unfold p114
  repeat' first
    | with_reducible refine goes_if (fun h => ?_) (fun h => ?_) <;> (try simp only [lim64, imp_false, decide_eq_true_eq, decide_eq_false_iff_not, Int.toNat_natCast, toNat_pred, toNat_succ, Option.getD_some, Option.getD_none, Bool.not_eq_true', Bool.not_eq_false', Bool.and_eq_true, Bool.or_eq_true, Bool.and_eq_false_iff, Bool.or_eq_false_iff, bne_iff_ne, beq_iff_eq, bne_eq_false_iff_eq, beq_eq_false_iff_ne, ne_eq, not_and, Int.not_le, Int.not_lt, ge_iff_le, gt_iff_lt, Nat.not_lt, Nat.not_le, Bool.not_eq_true, Bool.not_eq_false, Bool.true_eq_false, Bool.false_eq_true, not_false_eq_true, not_true_eq_false] at h)
    | exact goes_none.mpr (by omega)
  all_goals first | (exfalso; omega) | exact goes_inr.mpr rfl
theorem k114_ok : k114.ok Try.prog := by
  intro x hx
  obtain ⟨⟨cn, ⟨aq, nq, mq, tq, _⟩, rp, fl, _⟩, _⟩ := x
  obtain ⟨h1, h2⟩ := a114 cn aq nq mq tq rp fl (s114 cn aq nq mq tq rp fl (of_dec hx rfl))
  exact ⟨⟨400, (by decide : 1 + 1 + 1 ≤ 400), h1⟩, h2⟩
inductive St177 where
  | h0 (x0 : Int)
abbrev Rt177 := Int
noncomputable def V177 (al nl ml : Nat) (tl : Nat → Int) (r : Rt177) : PV := PV.int IntKind.i64 r
noncomputable def N177 (al nl ml : Nat) (tl : Nat → Int) (r : Rt177) : List Blk := []
noncomputable def I177 (al nl ml : Nat) (tl : Nat → Int) : St177 → Hd
  | .h0 x0 => ⟨hd Try.f77 0, [PV.loose (PA.mk (0) (1) al (0)) nl, PV.fn (Go.Fn.func (68)) [] [],
 PV.int IntKind.i64 (↑nl : Int), PV.int IntKind.i64 x0], [[], [(0, (false, .cols ml [.int .i64 tl]))]], 1⟩
noncomputable def q177 (al nl ml : Nat) (tl : Nat → Int) : St177 → Option (St177 ⊕ Rt177)
  | .h0 x0 => bif (decide (x0 < (↑nl : Int)))
 then (bif (decide ((0 : Int) ≤ x0 ∧ x0 < (↑nl : Int)))
 then (bif (decide (Int.toNat x0 + al < ml))
 then (bif (decide (tl (Int.toNat x0 + al) ≥ (-1099511627776 : Int)))
 then (bif (decide (tl (Int.toNat x0 + al) ≤ (1099511627776 : Int)))
 then (bif (lim IntKind.i64 (x0 + (1 : Int)))
 then (some (.inl (.h0 (x0 + (1 : Int)))))
 else (none))
 else (some (.inr (x0))))
 else (some (.inr (x0))))
 else (none))
 else (none))
 else (some (.inr ((-1 : Int))))
noncomputable def p177 (al nl ml : Nat) (tl : Nat → Int) : Option (St177 ⊕ Rt177) := some (.inl (.h0 ((0 : Int))))
noncomputable def Te177 (test : Bool → Prop → Prop → Prop) (Kst : KS) (Kret : KR) (al nl ml : Nat) (tl : Nat → Int) : Prop :=
  Kst (hd Try.f77 0) ([PV.loose (PA.mk (0) (1) al (0)) nl, PV.fn (Go.Fn.func (68)) [] [],
 PV.int IntKind.i64 (↑nl : Int), PV.int IntKind.i64 (0 : Int)]) ([[(0, false, Blk.cols ml [Col.int IntKind.i64 tl])]]) (1)
theorem te177 (test : Bool → Prop → Prop → Prop) (Kst : KS) (Kret : KR) (al nl ml : Nat) (tl : Nat → Int) : run test Try.env true noX true 400 ⟨77, [.cd (mkFn Try.f77).body], argT 0 [.loose ⟨0, 1, al, 0⟩ nl, .fn (.func 68) [] []], [[], [(0, (false, .cols ml [.int .i64 tl]))]], 1⟩ (proj 1 [0, 1, 7, 8] Kst Kret) =
  Te177 test Kst Kret al nl ml tl := by kernel_rfl
noncomputable def T177_0 (test : Bool → Prop → Prop → Prop) (Kst : KS) (Kret : KR) (al nl ml : Nat) (tl : Nat → Int) (x0 : Int) : Prop :=
  test (decide (x0 < (↑nl : Int)))
 (test (decide ((0 : Int) ≤ x0 ∧ x0 < (↑nl : Int)))
 (test (decide (Int.toNat x0 + al < ml))
 (test (decide (tl (Int.toNat x0 + al) ≥ (-1099511627776 : Int)))
 (test (decide (tl (Int.toNat x0 + al) ≤ (1099511627776 : Int)))
 (test (lim IntKind.i64 (x0 + (1 : Int)))
 (Kst (hd Try.f77 0) ([PV.loose (PA.mk (0) (1) al (0)) nl, PV.fn (Go.Fn.func (68)) [] [],
 PV.int IntKind.i64 (↑nl : Int), PV.int IntKind.i64 (x0 + (1 : Int))]) ([[(0, false, Blk.cols ml [Col.int IntKind.i64 tl])]]) (1))
 (False))
 (Kret (PV.int IntKind.i64 x0) ([[(0, false, Blk.cols ml [Col.int IntKind.i64 tl])]]) (1)))
 (Kret (PV.int IntKind.i64 x0) ([[(0, false, Blk.cols ml [Col.int IntKind.i64 tl])]]) (1)))
 (False))
 (False))
 (Kret (PV.int IntKind.i64 (-1 : Int)) ([[(0, false, Blk.cols ml [Col.int IntKind.i64 tl])]]) (1))
theorem t177_0 (test : Bool → Prop → Prop → Prop) (Kst : KS) (Kret : KR) (al nl ml : Nat) (tl : Nat → Int) (x0 : Int) : run test Try.env true noX true 400 ⟨77, hd Try.f77 0, zipT [0, 1, 7, 8] [PV.loose (PA.mk (0) (1) al (0)) nl, PV.fn (Go.Fn.func (68)) [] [],
 PV.int IntKind.i64 (↑nl : Int), PV.int IntKind.i64 x0], [[], [(0, (false, .cols ml [.int .i64 tl]))]], 1⟩ (proj 1 [0, 1, 7, 8] Kst Kret) =
  T177_0 test Kst Kret al nl ml tl x0 := by kernel_rfl
theorem be177 (al nl ml : Nat) (tl : Nat → Int) (Kst : KS) (Kret : KR) (x : St177 ⊕ Rt177) (hS : HS 1 400 ((I177 al nl ml tl)) Kst x) (hR : HR 1 400 ((V177 al nl ml tl)) (fun r => [newL (1 + 1) ((N177 al nl ml tl) r) ++ [(0, (false, .cols ml [.int .i64 tl]))]]) Kret x) (h : (some (.inl (.h0 ((0 : Int)))) : Option (St177 ⊕ Rt177)) = some x) : Te177 cond Kst Kret al nl ml tl := by
  unfold Te177
  exact stop_at hS _ h (fun n => n) rfl rfl rfl ⟨(rn_loose (use_lo rfl) rfl rfl rfl), ⟨(rn_fn trivial trivial), ⟨(rn_int rfl), ⟨(rn_int rfl), trivial⟩⟩⟩⟩ rfl (entl_bor (use_lo rfl) rfl rfl entl_nil)
theorem b177_0 (al nl ml : Nat) (tl : Nat → Int) (Kst : KS) (Kret : KR) (x : St177 ⊕ Rt177) (hS : HS 1 400 ((I177 al nl ml tl)) Kst x) (hR : HR 1 400 ((V177 al nl ml tl)) (fun r => [newL (1 + 1) ((N177 al nl ml tl) r) ++ [(0, (false, .cols ml [.int .i64 tl]))]]) Kret x) (x0 : Int) (h : (bif (decide (x0 < (↑nl : Int)))
 then (bif (decide ((0 : Int) ≤ x0 ∧ x0 < (↑nl : Int)))
 then (bif (decide (Int.toNat x0 + al < ml))
 then (bif (decide (tl (Int.toNat x0 + al) ≥ (-1099511627776 : Int)))
 then (bif (decide (tl (Int.toNat x0 + al) ≤ (1099511627776 : Int)))
 then (bif (lim IntKind.i64 (x0 + (1 : Int)))
 then (some (.inl (.h0 (x0 + (1 : Int)))))
 else (none))
 else (some (.inr (x0))))
 else (some (.inr (x0))))
 else (none))
 else (none))
 else (some (.inr ((-1 : Int)))) : Option (St177 ⊕ Rt177)) = some x) : T177_0 cond Kst Kret al nl ml tl x0 := by
  unfold T177_0
  exact bif_split h
   (fun c0 h => bif_split h
   (fun c1 h => bif_split h
   (fun c2 h => bif_split h
   (fun c3 h => bif_split h
   (fun c4 h => bif_split h
   (fun c5 h => stop_at hS _ h (fun n => n) rfl rfl rfl ⟨(rn_loose (use_lo rfl) rfl rfl rfl), ⟨(rn_fn trivial trivial), ⟨(rn_int rfl), ⟨(rn_int rfl), trivial⟩⟩⟩⟩ rfl (entl_bor (use_lo rfl) rfl rfl entl_nil))
   (fun c5 h => no_some h))
   (fun c4 h => ret_at hR _ h (fun n => n) rfl rfl rfl (rn_int rfl) rfl (entl_bor (use_lo rfl) rfl rfl entl_nil)))
   (fun c3 h => ret_at hR _ h (fun n => n) rfl rfl rfl (rn_int rfl) rfl (entl_bor (use_lo rfl) rfl rfl entl_nil)))
   (fun c2 h => no_some h))
   (fun c1 h => no_some h))
   (fun c0 h => ret_at hR _ h (fun n => n) rfl rfl rfl (rn_int rfl) rfl (entl_bor (use_lo rfl) rfl rfl entl_nil))
theorem a177 (al nl ml : Nat) (tl : Nat → Int) {r : Rt177} (h : Goes ((q177 al nl ml tl)) ((p177 al nl ml tl)) r) : CallR Try.prog 77 [.loose ⟨0, 1, al, 0⟩ nl, .fn (.func 68) [] []] [[(0, (false, .cols ml [.int .i64 tl]))]] 1 ((V177 al nl ml tl) r) ((fun r => [newL (1 + 1) ((N177 al nl ml tl) r) ++ [(0, (false, .cols ml [.int .i64 tl]))]]) r) 400 ∧ ∃ F, Try.prog.funcs[77]? = some F ∧ F.body.isSome = true ∧ (F.name == "runtime.NumGoroutine") = false := by
  refine dec_calls (f := 77) (lo := 1) (hi := 400) (H := [[(0, (false, .cols ml [.int .i64 tl]))]]) (args := [.loose ⟨0, 1, al, 0⟩ nl, .fn (.func 68) [] []]) Try.envOk Try.mixed noX_ok ((I177 al nl ml tl)) ((V177 al nl ml tl)) (fun r => [newL (1 + 1) ((N177 al nl ml tl) r) ++ [(0, (false, .cols ml [.int .i64 tl]))]]) (fn := mkFn Try.f77) (ts := [0, 1, 7, 8]) (n := 400) rfl (by decide) (by simp) (names_of rfl) ?_ ?_ ?_ h
  · intro s; cases s <;> exact ⟨hd_ok _ _, by simp [I177], names_of rfl, Nat.le_of_ble_eq_true rfl⟩
  · intro Kst Kret x hS hR h
    exact Holds.eq (te177 cond Kst Kret al nl ml tl) (be177 al nl ml tl Kst Kret x hS hR h)
  · intro Kst Kret x hS hR s h
    cases s with
    | h0 x0 => exact Holds.eq (t177_0 cond Kst Kret al nl ml tl x0) (b177_0 al nl ml tl Kst Kret x hS hR x0 h)
noncomputable def k177 : Con := ⟨77, [.one (.list [.int .i64]), .fn 68 []], fun (x : (Nat × Nat × Nat × (Nat → Int) × Unit) × (Unit) × Unit) => (fun (al nl ml : Nat) (tl : Nat → Int) => decide (al + nl ≤ ml ∧ nl ≤ 1000000)) x.1.1 x.1.2.1 x.1.2.2.1 x.1.2.2.2.1, fun (x : (Nat × Nat × Nat × (Nat → Int) × Unit) × (Unit) × Unit) => (fun (al nl ml : Nat) (tl : Nat → Int) => (V177 al nl ml tl) (S.idx (fun j => !decide (-1099511627776 ≤ tl (j + al) ∧ tl (j + al) ≤ 1099511627776)) 0 nl)) x.1.1 x.1.2.1 x.1.2.2.1 x.1.2.2.2.1, fun (x : (Nat × Nat × Nat × (Nat → Int) × Unit) × (Unit) × Unit) => (fun (al nl ml : Nat) (tl : Nat → Int) => (N177 al nl ml tl) (S.idx (fun j => !decide (-1099511627776 ≤ tl (j + al) ∧ tl (j + al) ≤ 1099511627776)) 0 nl)) x.1.1 x.1.2.1 x.1.2.2.1 x.1.2.2.2.1, fun _ _ => .dead⟩
theorem s177' (al nl ml : Nat) (tl : Nat → Int) (hp : al + nl ≤ ml ∧ nl ≤ 1000000) : ∀ k i : Nat, i + k = nl → Comes (q177 al nl ml tl) (.h0 (i : Int)) (S.idx (fun j => !decide (-1099511627776 ≤ tl (j + al) ∧ tl (j + al) ≤ 1099511627776)) i k) := by
  obtain ⟨hp1, hp2⟩ := hp
  intro k
  induction k with
  | zero =>
    intro i hi
    apply Comes.of
    show Goes _ _ _
    (first | rw [q177] | unfold q177)
    repeat' first
      | with_reducible refine goes_if (fun h => ?_) (fun h => ?_) <;> (try simp only [lim64, imp_false, decide_eq_true_eq, decide_eq_false_iff_not, Int.toNat_natCast, toNat_pred, toNat_succ, Option.getD_some, Option.getD_none, Bool.not_eq_true', Bool.not_eq_false', Bool.and_eq_true, Bool.or_eq_true, Bool.and_eq_false_iff, Bool.or_eq_false_iff, bne_iff_ne, beq_iff_eq, bne_eq_false_iff_eq, beq_eq_false_iff_ne, ne_eq, not_and, Int.not_le, Int.not_lt, ge_iff_le, gt_iff_lt, Nat.not_lt, Nat.not_le, Bool.not_eq_true, Bool.not_eq_false, Bool.true_eq_false, Bool.false_eq_true, not_false_eq_true, not_true_eq_false] at h)
      | exact goes_none.mpr (by omega)
    all_goals first | (exfalso; omega) | rfl | (refine Eq.mpr (congrArg (Comes _ _) ?_) True; simp only [S.idx, Bool.and_eq_true, Bool.or_eq_true, decide_eq_true_eq, Bool.not_eq_true', decide_eq_false_iff_not]; (repeat' split) <;> first | rfl | omega | (exfalso; omega) | (exfalso; simp_all; done) | (exfalso; simp_all; omega) | simp_all) | (refine goes_inr.mpr ?_; simp only [S.idx, Bool.and_eq_true, Bool.or_eq_true, decide_eq_true_eq, Bool.not_eq_true', decide_eq_false_iff_not]; (repeat' split) <;> first | rfl | omega | (exfalso; omega) | (exfalso; simp_all; done) | (exfalso; simp_all; omega) | simp_all)
  | succ k ih =>
    intro i hi
    have ih := ih (i + 1) (by omega)
    apply Comes.of
    show Goes _ _ _
    (first | rw [q177] | unfold q177)
    repeat' first
      | with_reducible refine goes_if (fun h => ?_) (fun h => ?_) <;> (try simp only [lim64, imp_false, decide_eq_true_eq, decide_eq_false_iff_not, Int.toNat_natCast, toNat_pred, toNat_succ, Option.getD_some, Option.getD_none, Bool.not_eq_true', Bool.not_eq_false', Bool.and_eq_true, Bool.or_eq_true, Bool.and_eq_false_iff, Bool.or_eq_false_iff, bne_iff_ne, beq_iff_eq, bne_eq_false_iff_eq, beq_eq_false_iff_ne, ne_eq, not_and, Int.not_le, Int.not_lt, ge_iff_le, gt_iff_lt, Nat.not_lt, Nat.not_le, Bool.not_eq_true, Bool.not_eq_false, Bool.true_eq_false, Bool.false_eq_true, not_false_eq_true, not_true_eq_false] at h)
      | exact goes_none.mpr (by omega)
    all_goals first | (exfalso; omega) | rfl | (refine Eq.mpr (congrArg (Comes _ _) ?_) ih; simp only [S.idx, Bool.and_eq_true, Bool.or_eq_true, decide_eq_true_eq, Bool.not_eq_true', decide_eq_false_iff_not]; (repeat' split) <;> first | rfl | omega | (exfalso; omega) | (exfalso; simp_all; done) | (exfalso; simp_all; omega) | simp_all) | (refine goes_inr.mpr ?_; simp only [S.idx, Bool.and_eq_true, Bool.or_eq_true, decide_eq_true_eq, Bool.not_eq_true', decide_eq_false_iff_not]; (repeat' split) <;> first | rfl | omega | (exfalso; omega) | (exfalso; simp_all; done) | (exfalso; simp_all; omega) | simp_all)
theorem s177 (al nl ml : Nat) (tl : Nat → Int) (hp : al + nl ≤ ml ∧ nl ≤ 1000000) : Goes ((q177 al nl ml tl)) ((p177 al nl ml tl)) (S.idx (fun j => !decide (-1099511627776 ≤ tl (j + al) ∧ tl (j + al) ≤ 1099511627776)) 0 nl) := by
  exact s177' al nl ml tl hp nl 0 (by omega)
theorem k177_ok : k177.ok Try.prog := by
  intro x hx
  obtain ⟨⟨al, nl, ml, tl, _⟩, ⟨_⟩, _⟩ := x
  obtain ⟨h1, h2⟩ := a177 al nl ml tl (s177 al nl ml tl (of_dec hx rfl))
  exact ⟨⟨400, (by decide : 1 + 1 + 0 ≤ 400), h1⟩, h2⟩
noncomputable def xI1 (test : Bool → Prop → Prop → Prop) : Ext := consX test [k177]
theorem xI1_ok : ExtOk Try.prog (xI1 cond) := consX_ok ⟨k177_ok, trivial⟩
abbrev St162 := Empty
abbrev Rt162 := Bool
noncomputable def V162 (al nl ml : Nat) (tl : Nat → Int) (r : Rt162) : PV := PV.bool r
noncomputable def N162 (al nl ml : Nat) (tl : Nat → Int) (r : Rt162) : List Blk := []
noncomputable def I162 (al nl ml : Nat) (tl : Nat → Int) : St162 → Hd := fun s => s.elim
noncomputable def q162 (al nl ml : Nat) (tl : Nat → Int) : St162 → Option (St162 ⊕ Rt162) := fun s => s.elim
noncomputable def p162 (al nl ml : Nat) (tl : Nat → Int) : Option (St162 ⊕ Rt162) := bif (decide (al + nl ≤ ml ∧ nl ≤ 1000000))
 then (bif (decide
 (S.idx
 (fun j => !decide ((-1099511627776 : Int) ≤ tl (j + al) ∧ tl (j + al) ≤ (1099511627776 : Int)))
 (0) nl ≥
 (0 : Int)))
 then (some (.inr (true)))
 else (some (.inr (false))))
 else (none)
noncomputable def Te162 (test : Bool → Prop → Prop → Prop) (Kst : KS) (Kret : KR) (al nl ml : Nat) (tl : Nat → Int) : Prop :=
  test (decide (al + nl ≤ ml ∧ nl ≤ 1000000))
 (test (decide
 (S.idx
 (fun j => !decide ((-1099511627776 : Int) ≤ tl (j + al) ∧ tl (j + al) ≤ (1099511627776 : Int)))
 (0) nl ≥
 (0 : Int)))
 (Kret (PV.tf true) ([[(0, false, Blk.cols ml [Col.int IntKind.i64 tl])]]) (2))
 (Kret (PV.tf false) ([[(0, false, Blk.cols ml [Col.int IntKind.i64 tl])]]) (2)))
 (False)
theorem te162 (test : Bool → Prop → Prop → Prop) (Kst : KS) (Kret : KR) (al nl ml : Nat) (tl : Nat → Int) : run test Try.env true (xI1 test) true 400 ⟨62, [.cd (mkFn Try.f62).body], argT 0 [.loose ⟨0, 1, al, 0⟩ nl, .fn (.func 68) [] []], [[], [(0, (false, .cols ml [.int .i64 tl]))]], 1⟩ (proj 1 [] Kst Kret) =
  Te162 test Kst Kret al nl ml tl := by kernel_rfl
theorem be162 (al nl ml : Nat) (tl : Nat → Int) (Kst : KS) (Kret : KR) (x : St162 ⊕ Rt162) (hS : HS 1 400 ((I162 al nl ml tl)) Kst x) (hR : HR 1 400 ((V162 al nl ml tl)) (fun r => [newL (1 + 1) ((N162 al nl ml tl) r) ++ [(0, (false, .cols ml [.int .i64 tl]))]]) Kret x) (h : (bif (decide (al + nl ≤ ml ∧ nl ≤ 1000000))
 then (bif (decide
 (S.idx
 (fun j => !decide ((-1099511627776 : Int) ≤ tl (j + al) ∧ tl (j + al) ≤ (1099511627776 : Int)))
 (0) nl ≥
 (0 : Int)))
 then (some (.inr (true)))
 else (some (.inr (false))))
 else (none) : Option (St162 ⊕ Rt162)) = some x) : Te162 cond Kst Kret al nl ml tl := by
  unfold Te162
  exact bif_split h
   (fun c0 h => bif_split h
   (fun c1 h => ret_at hR _ h (fun n => n) rfl rfl rfl (rn_bool_tf rfl) rfl (entl_bor (use_lo rfl) rfl rfl entl_nil))
   (fun c1 h => ret_at hR _ h (fun n => n) rfl rfl rfl (rn_bool_tf rfl) rfl (entl_bor (use_lo rfl) rfl rfl entl_nil)))
   (fun c0 h => no_some h)
theorem a162 (al nl ml : Nat) (tl : Nat → Int) {r : Rt162} (h : Goes ((q162 al nl ml tl)) ((p162 al nl ml tl)) r) : CallR Try.prog 62 [.loose ⟨0, 1, al, 0⟩ nl, .fn (.func 68) [] []] [[(0, (false, .cols ml [.int .i64 tl]))]] 1 ((V162 al nl ml tl) r) ((fun r => [newL (1 + 1) ((N162 al nl ml tl) r) ++ [(0, (false, .cols ml [.int .i64 tl]))]]) r) 400 ∧ ∃ F, Try.prog.funcs[62]? = some F ∧ F.body.isSome = true ∧ (F.name == "runtime.NumGoroutine") = false := by
  refine dec_calls (f := 62) (lo := 1) (hi := 400) (H := [[(0, (false, .cols ml [.int .i64 tl]))]]) (args := [.loose ⟨0, 1, al, 0⟩ nl, .fn (.func 68) [] []]) Try.envOk Try.mixed xI1_ok ((I162 al nl ml tl)) ((V162 al nl ml tl)) (fun r => [newL (1 + 1) ((N162 al nl ml tl) r) ++ [(0, (false, .cols ml [.int .i64 tl]))]]) (fn := mkFn Try.f62) (ts := []) (n := 400) rfl (by decide) (by simp) (names_of rfl) ?_ ?_ ?_ h
  · intro s; exact s.elim
  · intro Kst Kret x hS hR h
    exact Holds.eq (te162 cond Kst Kret al nl ml tl) (be162 al nl ml tl Kst Kret x hS hR h)
  · intro Kst Kret x hS hR s h; exact s.elim
noncomputable def k162 : Con := ⟨62, [.one (.list [.int .i64]), .fn 68 []], fun (x : (Nat × Nat × Nat × (Nat → Int) × Unit) × (Unit) × Unit) => (fun (al nl ml : Nat) (tl : Nat → Int) => decide (al + nl ≤ ml ∧ nl ≤ 1000000)) x.1.1 x.1.2.1 x.1.2.2.1 x.1.2.2.2.1, fun (x : (Nat × Nat × Nat × (Nat → Int) × Unit) × (Unit) × Unit) => (fun (al nl ml : Nat) (tl : Nat → Int) => (V162 al nl ml tl) (S.any (fun j => !decide (-1099511627776 ≤ tl (j + al) ∧ tl (j + al) ≤ 1099511627776)) nl)) x.1.1 x.1.2.1 x.1.2.2.1 x.1.2.2.2.1, fun (x : (Nat × Nat × Nat × (Nat → Int) × Unit) × (Unit) × Unit) => (fun (al nl ml : Nat) (tl : Nat → Int) => (N162 al nl ml tl) (S.any (fun j => !decide (-1099511627776 ≤ tl (j + al) ∧ tl (j + al) ≤ 1099511627776)) nl)) x.1.1 x.1.2.1 x.1.2.2.1 x.1.2.2.2.1, fun _ _ => .dead⟩
theorem s162 (al nl ml : Nat) (tl : Nat → Int) (hp : al + nl ≤ ml ∧ nl ≤ 1000000) : Goes ((q162 al nl ml tl)) ((p162 al nl ml tl)) (S.any (fun j => !decide (-1099511627776 ≤ tl (j + al) ∧ tl (j + al) ≤ 1099511627776)) nl) := by
  have hp' := hp
  obtain ⟨hp1, hp2⟩ := hp
  rw [← idx_any (p := (fun j => !decide (-1099511627776 ≤ tl (j + al) ∧ tl (j + al) ≤ 1099511627776))) (n := nl)]
  show Goes _ _ _
  unfold p162
  repeat' first
    | with_reducible refine goes_if (fun h => ?_) (fun h => ?_) <;> (try simp only [lim64, imp_false, decide_eq_true_eq, decide_eq_false_iff_not, Int.toNat_natCast, toNat_pred, toNat_succ, Option.getD_some, Option.getD_none, Bool.not_eq_true', Bool.not_eq_false', Bool.and_eq_true, Bool.or_eq_true, Bool.and_eq_false_iff, Bool.or_eq_false_iff, bne_iff_ne, beq_iff_eq, bne_eq_false_iff_eq, beq_eq_false_iff_ne, ne_eq, not_and, Int.not_le, Int.not_lt, ge_iff_le, gt_iff_lt, Nat.not_lt, Nat.not_le, Bool.not_eq_true, Bool.not_eq_false, Bool.true_eq_false, Bool.false_eq_true, not_false_eq_true, not_true_eq_false] at h)
    | exact goes_none.mpr (by omega)
  all_goals first | (exfalso; omega) | (exfalso; simp_all; done) | (refine goes_inr.mpr ?_; first | rfl | (symm; simp_all; done) | (symm; simp_all; omega))
theorem k162_ok : k162.ok Try.prog := by
  intro x hx
  obtain ⟨⟨al, nl, ml, tl, _⟩, ⟨_⟩, _⟩ := x
  obtain ⟨h1, h2⟩ := a162 al nl ml tl (s162 al nl ml tl (of_dec hx rfl))
  exact ⟨⟨400, (by decide : 1 + 1 + 0 ≤ 400), h1⟩, h2⟩
noncomputable def xI2 (test : Bool → Prop → Prop → Prop) : Ext := consX test [k162]
theorem xI2_ok : ExtOk Try.prog (xI2 cond) := consX_ok ⟨k162_ok, trivial⟩
abbrev St149 := Empty
abbrev Rt149 := Int
noncomputable def V149 (al nl ml : Nat) (tl : Nat → Int) (r : Rt149) : PV := PV.int IntKind.i64 r
noncomputable def N149 (al nl ml : Nat) (tl : Nat → Int) (r : Rt149) : List Blk := []
noncomputable def I149 (al nl ml : Nat) (tl : Nat → Int) : St149 → Hd := fun s => s.elim
noncomputable def q149 (al nl ml : Nat) (tl : Nat → Int) : St149 → Option (St149 ⊕ Rt149) := fun s => s.elim
noncomputable def p149 (al nl ml : Nat) (tl : Nat → Int) : Option (St149 ⊕ Rt149) := bif (decide ((↑nl : Int) > (500 : Int)))
 then (some (.inr ((3 : Int))))
 else (bif (decide (al + nl ≤ ml ∧ nl ≤ 1000000))
 then (bif (S.any
 (fun j => !decide ((-1099511627776 : Int) ≤ tl (j + al) ∧ tl (j + al) ≤ (1099511627776 : Int))) nl)
 then (some (.inr ((6 : Int))))
 else (some (.inr ((0 : Int)))))
 else (none))
noncomputable def Te149 (test : Bool → Prop → Prop → Prop) (Kst : KS) (Kret : KR) (al nl ml : Nat) (tl : Nat → Int) : Prop :=
  test (decide ((↑nl : Int) > (500 : Int)))
 (Kret (PV.int IntKind.i64 (3 : Int)) ([[(0, false, Blk.cols ml [Col.int IntKind.i64 tl])]]) (1))
 (test (decide (al + nl ≤ ml ∧ nl ≤ 1000000))
 (test (S.any
 (fun j => !decide ((-1099511627776 : Int) ≤ tl (j + al) ∧ tl (j + al) ≤ (1099511627776 : Int))) nl)
 (Kret (PV.int IntKind.i64 (6 : Int)) ([[(0, false, Blk.cols ml [Col.int IntKind.i64 tl])]]) (2))
 (Kret (PV.int IntKind.i64 (0 : Int)) ([[(0, false, Blk.cols ml [Col.int IntKind.i64 tl])]]) (2)))
 (False))
theorem te149 (test : Bool → Prop → Prop → Prop) (Kst : KS) (Kret : KR) (al nl ml : Nat) (tl : Nat → Int) : run test Try.env true (xI2 test) true 400 ⟨49, [.cd (mkFn Try.f49).body], argT 0 [.loose ⟨0, 1, al, 0⟩ nl], [[], [(0, (false, .cols ml [.int .i64 tl]))]], 1⟩ (proj 1 [] Kst Kret) =
  Te149 test Kst Kret al nl ml tl := by kernel_rfl
theorem be149 (al nl ml : Nat) (tl : Nat → Int) (Kst : KS) (Kret : KR) (x : St149 ⊕ Rt149) (hS : HS 1 400 ((I149 al nl ml tl)) Kst x) (hR : HR 1 400 ((V149 al nl ml tl)) (fun r => [newL (1 + 1) ((N149 al nl ml tl) r) ++ [(0, (false, .cols ml [.int .i64 tl]))]]) Kret x) (h : (bif (decide ((↑nl : Int) > (500 : Int)))
 then (some (.inr ((3 : Int))))
 else (bif (decide (al + nl ≤ ml ∧ nl ≤ 1000000))
 then (bif (S.any
 (fun j => !decide ((-1099511627776 : Int) ≤ tl (j + al) ∧ tl (j + al) ≤ (1099511627776 : Int))) nl)
 then (some (.inr ((6 : Int))))
 else (some (.inr ((0 : Int)))))
 else (none)) : Option (St149 ⊕ Rt149)) = some x) : Te149 cond Kst Kret al nl ml tl := by
  unfold Te149
  exact bif_split h
   (fun c0 h => ret_at hR _ h (fun n => n) rfl rfl rfl (rn_int rfl) rfl (entl_bor (use_lo rfl) rfl rfl entl_nil))
   (fun c0 h => bif_split h
   (fun c1 h => bif_split h
   (fun c2 h => ret_at hR _ h (fun n => n) rfl rfl rfl (rn_int rfl) rfl (entl_bor (use_lo rfl) rfl rfl entl_nil))
   (fun c2 h => ret_at hR _ h (fun n => n) rfl rfl rfl (rn_int rfl) rfl (entl_bor (use_lo rfl) rfl rfl entl_nil)))
   (fun c1 h => no_some h))
theorem a149 (al nl ml : Nat) (tl : Nat → Int) {r : Rt149} (h : Goes ((q149 al nl ml tl)) ((p149 al nl ml tl)) r) : CallR Try.prog 49 [.loose ⟨0, 1, al, 0⟩ nl] [[(0, (false, .cols ml [.int .i64 tl]))]] 1 ((V149 al nl ml tl) r) ((fun r => [newL (1 + 1) ((N149 al nl ml tl) r) ++ [(0, (false, .cols ml [.int .i64 tl]))]]) r) 400 ∧ ∃ F, Try.prog.funcs[49]? = some F ∧ F.body.isSome = true ∧ (F.name == "runtime.NumGoroutine") = false := by
  refine dec_calls (f := 49) (lo := 1) (hi := 400) (H := [[(0, (false, .cols ml [.int .i64 tl]))]]) (args := [.loose ⟨0, 1, al, 0⟩ nl]) Try.envOk Try.mixed xI2_ok ((I149 al nl ml tl)) ((V149 al nl ml tl)) (fun r => [newL (1 + 1) ((N149 al nl ml tl) r) ++ [(0, (false, .cols ml [.int .i64 tl]))]]) (fn := mkFn Try.f49) (ts := []) (n := 400) rfl (by decide) (by simp) (names_of rfl) ?_ ?_ ?_ h
  · intro s; exact s.elim
  · intro Kst Kret x hS hR h
    exact Holds.eq (te149 cond Kst Kret al nl ml tl) (be149 al nl ml tl Kst Kret x hS hR h)
  · intro Kst Kret x hS hR s h; exact s.elim
noncomputable def k149 : Con := ⟨49, [.one (.list [.int .i64])], fun (x : (Nat × Nat × Nat × (Nat → Int) × Unit) × Unit) => (fun (al nl ml : Nat) (tl : Nat → Int) => decide (al + nl ≤ ml ∧ nl ≤ 1000000)) x.1.1 x.1.2.1 x.1.2.2.1 x.1.2.2.2.1, fun (x : (Nat × Nat × Nat × (Nat → Int) × Unit) × Unit) => (fun (al nl ml : Nat) (tl : Nat → Int) => (V149 al nl ml tl) (S.setE nl (fun j => tl (j + al)))) x.1.1 x.1.2.1 x.1.2.2.1 x.1.2.2.2.1, fun (x : (Nat × Nat × Nat × (Nat → Int) × Unit) × Unit) => (fun (al nl ml : Nat) (tl : Nat → Int) => (N149 al nl ml tl) (S.setE nl (fun j => tl (j + al)))) x.1.1 x.1.2.1 x.1.2.2.1 x.1.2.2.2.1, fun _ _ => .dead⟩
theorem s149 (al nl ml : Nat) (tl : Nat → Int) (hp : al + nl ≤ ml ∧ nl ≤ 1000000) : Goes ((q149 al nl ml tl)) ((p149 al nl ml tl)) (S.setE nl (fun j => tl (j + al))) := by
  obtain ⟨hp1, hp2⟩ := hp
  have e : S.all (fun j => decide (-1099511627776 ≤ tl (j + al) ∧ tl (j + al) ≤ 1099511627776)) nl = !S.any (fun j => !decide (-1099511627776 ≤ tl (j + al) ∧ tl (j + al) ≤ 1099511627776)) nl := by
    cases h : S.any (fun j => !decide (-1099511627776 ≤ tl (j + al) ∧ tl (j + al) ≤ 1099511627776)) nl
    · rw [any_no] at h
      exact all_iff.mpr fun j hj => by have := h j hj; rwa [Bool.not_eq_false'] at this
    · rw [any_iff] at h
      obtain ⟨j, hj, h⟩ := h
      rw [Bool.not_eq_true'] at h
      have := all_no (p := fun j => decide (-1099511627776 ≤ tl (j + al) ∧ tl (j + al) ≤ 1099511627776)) hj h
      rw [Bool.not_eq_true] at this
      exact this
  unfold S.setE p149
  rw [e]
  generalize S.any (fun j => !decide (-1099511627776 ≤ tl (j + al) ∧ tl (j + al) ≤ 1099511627776)) nl = A
  show Goes _ _ _
  cases A
  all_goals
   repeat' first
    | with_reducible refine goes_if (fun h => ?_) (fun h => ?_) <;> (try simp only [lim64, imp_false, decide_eq_true_eq, decide_eq_false_iff_not, Int.toNat_natCast, toNat_pred, toNat_succ, Option.getD_some, Option.getD_none, Bool.not_eq_true', Bool.not_eq_false', Bool.and_eq_true, Bool.or_eq_true, Bool.and_eq_false_iff, Bool.or_eq_false_iff, bne_iff_ne, beq_iff_eq, bne_eq_false_iff_eq, beq_eq_false_iff_ne, ne_eq, not_and, Int.not_le, Int.not_lt, ge_iff_le, gt_iff_lt, Nat.not_lt, Nat.not_le, Bool.not_eq_true, Bool.not_eq_false, Bool.true_eq_false, Bool.false_eq_true, not_false_eq_true, not_true_eq_false] at h)
    | exact goes_none.mpr (by omega)
   all_goals first | (exfalso; omega) | (rw [if_neg (by omega)]; exact goes_inr.mpr rfl) | (rw [if_pos (by omega)]; exact goes_inr.mpr rfl) | (exfalso; simp_all; done)
theorem k149_ok : k149.ok Try.prog := by
  intro x hx
  obtain ⟨⟨al, nl, ml, tl, _⟩, _⟩ := x
  obtain ⟨h1, h2⟩ := a149 al nl ml tl (s149 al nl ml tl (of_dec hx rfl))
  exact ⟨⟨400, (by decide : 1 + 1 + 0 ≤ 400), h1⟩, h2⟩
noncomputable def xB (test : Bool → Prop → Prop → Prop) : Ext := consX test [k21, k22, k25, k37, k38, k42, k45, k28, k49]
theorem xB_ok : ExtOk Try.prog (xB cond) := consX_ok ⟨k21_ok, k22_ok, k25_ok, k37_ok, k38_ok, k42_ok, k45_ok, k28_ok, k49_ok, trivial⟩
inductive St17 where
  | h0 (x0 : Int) (x1 : Int)
abbrev Rt17 := Int × Int
noncomputable def V17 (ar nr mr : Nat) (tr : Nat → Int) (vr : Nat → Int) (gr : Nat → Int) (ao no mo : Nat) (to : Nat → Bool) (r : Rt17) : PV := PV.tup [PV.int IntKind.i64 r.1, PV.int IntKind.i64 r.2]
noncomputable def N17 (ar nr mr : Nat) (tr : Nat → Int) (vr : Nat → Int) (gr : Nat → Int) (ao no mo : Nat) (to : Nat → Bool) (r : Rt17) : List Blk := []
noncomputable def I17 (ar nr mr : Nat) (tr : Nat → Int) (vr : Nat → Int) (gr : Nat → Int) (ao no mo : Nat) (to : Nat → Bool) : St17 → Hd
  | .h0 x0 x1 => ⟨hd Try.f51 0, [PV.ptr (PA.mk (2) (0) (0) (0)), PV.int IntKind.i64 x0,
 PV.loose (PA.mk (0) (3) ar (0)) nr, PV.int IntKind.i64 (↑nr : Int),
 PV.int IntKind.i64 x1], [[(2, (true, Blk.cells
 [PV.loose (PA.mk (0) (3) ar (0)) nr,
 PV.loose (PA.mk (1) (1) ao (0)) no]))], [(0, (false, .cols mr [.int .i64 tr, .int .i64 vr, .int .i64 gr])), (1, (false, .cols mo [.bool to]))]], 3⟩
noncomputable def q17 (ar nr mr : Nat) (tr : Nat → Int) (vr : Nat → Int) (gr : Nat → Int) (ao no mo : Nat) (to : Nat → Bool) : St17 → Option (St17 ⊕ Rt17)
  | .h0 x0 x1 => bif (decide (x1 < (↑nr : Int)))
 then (bif (decide ((0 : Int) ≤ x1 ∧ x1 < (↑nr : Int)))
 then (bif (decide (Int.toNat x1 + ar < mr))
 then (bif (decide ((0 : Int) ≤ x1 ∧ x1 < (↑no : Int)))
 then (bif (decide (Int.toNat x1 + ao < mo))
 then (bif (to (Int.toNat x1 + ao))
 then (bif (lim IntKind.i64 (x0 + gr (Int.toNat x1 + ar)))
 then (bif (lim IntKind.i64 (x1 + (1 : Int)))
 then (some (.inl (.h0 (x0 + gr (Int.toNat x1 + ar)) (x1 + (1 : Int)))))
 else (none))
 else (none))
 else (bif (lim IntKind.i64 (x1 + (1 : Int)))
 then (some (.inl (.h0 (x0) (x1 + (1 : Int)))))
 else (none)))
 else (none))
 else (none))
 else (none))
 else (none))
 else (some (.inr (x0, (0 : Int))))
noncomputable def p17 (ar nr mr : Nat) (tr : Nat → Int) (vr : Nat → Int) (gr : Nat → Int) (ao no mo : Nat) (to : Nat → Bool) : Option (St17 ⊕ Rt17) := bif (decide (ar + nr ≤ mr ∧ nr ≤ 1000000))
 then (bif (S.magE nr (fun j => tr (j + ar)) (fun j => vr (j + ar)) (fun j => gr (j + ar)) no !=
 (0 : Int))
 then (some (.inr ((0 : Int), S.magE nr (fun j => tr (j + ar)) (fun j => vr (j + ar)) (fun j => gr (j + ar)) no)))
 else (some (.inl (.h0 ((0 : Int)) ((0 : Int))))))
 else (none)
noncomputable def Te17 (test : Bool → Prop → Prop → Prop) (Kst : KS) (Kret : KR) (ar nr mr : Nat) (tr : Nat → Int) (vr : Nat → Int) (gr : Nat → Int) (ao no mo : Nat) (to : Nat → Bool) : Prop :=
  test (decide (ar + nr ≤ mr ∧ nr ≤ 1000000))
 (test (S.magE nr (fun j => tr (j + ar)) (fun j => vr (j + ar)) (fun j => gr (j + ar)) no !=
 (0 : Int))
 (Kret (PV.tup
 [PV.int IntKind.i64 (0 : Int),
 PV.int IntKind.i64
 (S.magE nr (fun j => tr (j + ar)) (fun j => vr (j + ar)) (fun j => gr (j + ar)) no)]) ([[(1, false, Blk.cols mo [Col.bool to]),
 (0, false,
 Blk.cols mr
 [Col.int IntKind.i64 tr, Col.int IntKind.i64 vr, Col.int IntKind.i64 gr])]]) (4))
 (Kst (hd Try.f51 0) ([PV.ptr (PA.mk (2) (0) (0) (0)), PV.int IntKind.i64 (0 : Int),
 PV.loose (PA.mk (0) (3) ar (0)) nr, PV.int IntKind.i64 (↑nr : Int),
 PV.int IntKind.i64 (0 : Int)]) ([[(1, false, Blk.cols mo [Col.bool to]),
 (0, false,
 Blk.cols mr
 [Col.int IntKind.i64 tr, Col.int IntKind.i64 vr, Col.int IntKind.i64 gr]),
 (2, true,
 Blk.cells
 [PV.loose (PA.mk (0) (3) ar (0)) nr,
 PV.loose (PA.mk (1) (1) ao (0)) no])]]) (4)))
 (False)
theorem te17 (test : Bool → Prop → Prop → Prop) (Kst : KS) (Kret : KR) (ar nr mr : Nat) (tr : Nat → Int) (vr : Nat → Int) (gr : Nat → Int) (ao no mo : Nat) (to : Nat → Bool) : run test Try.env true (xB test) true 400 ⟨51, [.cd (mkFn Try.f51).body], argT 0 [.agg [.loose ⟨0, 3, ar, 0⟩ nr, .loose ⟨1, 1, ao, 0⟩ no]], [[], [(0, (false, .cols mr [.int .i64 tr, .int .i64 vr, .int .i64 gr])), (1, (false, .cols mo [.bool to]))]], 2⟩ (proj 2 [1, 5, 14, 15, 16] Kst Kret) =
  Te17 test Kst Kret ar nr mr tr vr gr ao no mo to := by kernel_rfl
noncomputable def T17_0 (test : Bool → Prop → Prop → Prop) (Kst : KS) (Kret : KR) (ar nr mr : Nat) (tr : Nat → Int) (vr : Nat → Int) (gr : Nat → Int) (ao no mo : Nat) (to : Nat → Bool) (x0 : Int) (x1 : Int) : Prop :=
  test (decide (x1 < (↑nr : Int)))
 (test (decide ((0 : Int) ≤ x1 ∧ x1 < (↑nr : Int)))
 (test (decide (Int.toNat x1 + ar < mr))
 (test (decide (Int.toNat x1 + ar < mr))
 (test (decide (Int.toNat x1 + ar < mr))
 (test (decide ((0 : Int) ≤ x1 ∧ x1 < (↑no : Int)))
 (test (decide (Int.toNat x1 + ao < mo))
 (test (to (Int.toNat x1 + ao))
 (test (lim IntKind.i64 (x0 + gr (Int.toNat x1 + ar)))
 (test (lim IntKind.i64 (x1 + (1 : Int)))
 (Kst (hd Try.f51 0) ([PV.ptr (PA.mk (2) (0) (0) (0)),
 PV.int IntKind.i64 (x0 + gr (Int.toNat x1 + ar)),
 PV.loose (PA.mk (0) (3) ar (0)) nr, PV.int IntKind.i64 (↑nr : Int),
 PV.int IntKind.i64 (x1 + (1 : Int))]) ([[(1, false, Blk.cols mo [Col.bool to]),
 (0, false,
 Blk.cols mr
 [Col.int IntKind.i64 tr, Col.int IntKind.i64 vr, Col.int IntKind.i64 gr]),
 (2, true,
 Blk.cells
 [PV.loose (PA.mk (0) (3) ar (0)) nr,
 PV.loose (PA.mk (1) (1) ao (0)) no])]]) (4))
 (False))
 (False))
 (test (lim IntKind.i64 (x1 + (1 : Int)))
 (Kst (hd Try.f51 0) ([PV.ptr (PA.mk (2) (0) (0) (0)), PV.int IntKind.i64 x0,
 PV.loose (PA.mk (0) (3) ar (0)) nr, PV.int IntKind.i64 (↑nr : Int),
 PV.int IntKind.i64 (x1 + (1 : Int))]) ([[(1, false, Blk.cols mo [Col.bool to]),
 (0, false,
 Blk.cols mr
 [Col.int IntKind.i64 tr, Col.int IntKind.i64 vr, Col.int IntKind.i64 gr]),
 (2, true,
 Blk.cells
 [PV.loose (PA.mk (0) (3) ar (0)) nr,
 PV.loose (PA.mk (1) (1) ao (0)) no])]]) (4))
 (False)))
 (False))
 (False))
 (False))
 (False))
 (False))
 (False))
 (Kret (PV.tup [PV.int IntKind.i64 x0, PV.int IntKind.i64 (0 : Int)]) ([[(1, false, Blk.cols mo [Col.bool to]),
 (0, false,
 Blk.cols mr
 [Col.int IntKind.i64 tr, Col.int IntKind.i64 vr, Col.int IntKind.i64 gr])]]) (3))
theorem t17_0 (test : Bool → Prop → Prop → Prop) (Kst : KS) (Kret : KR) (ar nr mr : Nat) (tr : Nat → Int) (vr : Nat → Int) (gr : Nat → Int) (ao no mo : Nat) (to : Nat → Bool) (x0 : Int) (x1 : Int) : run test Try.env true (xB test) true 400 ⟨51, hd Try.f51 0, zipT [1, 5, 14, 15, 16] [PV.ptr (PA.mk (2) (0) (0) (0)), PV.int IntKind.i64 x0,
 PV.loose (PA.mk (0) (3) ar (0)) nr, PV.int IntKind.i64 (↑nr : Int),
 PV.int IntKind.i64 x1], [[(2, (true, Blk.cells
 [PV.loose (PA.mk (0) (3) ar (0)) nr,
 PV.loose (PA.mk (1) (1) ao (0)) no]))], [(0, (false, .cols mr [.int .i64 tr, .int .i64 vr, .int .i64 gr])), (1, (false, .cols mo [.bool to]))]], 3⟩ (proj 2 [1, 5, 14, 15, 16] Kst Kret) =
  T17_0 test Kst Kret ar nr mr tr vr gr ao no mo to x0 x1 := by kernel_rfl
theorem be17 (ar nr mr : Nat) (tr : Nat → Int) (vr : Nat → Int) (gr : Nat → Int) (ao no mo : Nat) (to : Nat → Bool) (Kst : KS) (Kret : KR) (x : St17 ⊕ Rt17) (hS : HS 2 400 ((I17 ar nr mr tr vr gr ao no mo to)) Kst x) (hR : HR 2 400 ((V17 ar nr mr tr vr gr ao no mo to)) (fun r => [newL (2 + 1) ((N17 ar nr mr tr vr gr ao no mo to) r) ++ [(0, (false, .cols mr [.int .i64 tr, .int .i64 vr, .int .i64 gr])), (1, (false, .cols mo [.bool to]))]]) Kret x) (h : (bif (decide (ar + nr ≤ mr ∧ nr ≤ 1000000))
 then (bif (S.magE nr (fun j => tr (j + ar)) (fun j => vr (j + ar)) (fun j => gr (j + ar)) no !=
 (0 : Int))
 then (some (.inr ((0 : Int), S.magE nr (fun j => tr (j + ar)) (fun j => vr (j + ar)) (fun j => gr (j + ar)) no)))
 else (some (.inl (.h0 ((0 : Int)) ((0 : Int))))))
 else (none) : Option (St17 ⊕ Rt17)) = some x) : Te17 cond Kst Kret ar nr mr tr vr gr ao no mo to := by
  unfold Te17
  exact bif_split h
   (fun c0 h => bif_split h
   (fun c1 h => ret_at hR _ h (fun n => n) rfl rfl rfl (rn_tup ⟨(rn_int rfl), (rn_int rfl), trivial⟩) rfl (entl_bor (use_lo rfl) rfl rfl (entl_bor (use_lo rfl) rfl rfl entl_nil)))
   (fun c1 h => stop_at hS _ h (fun n => bif Nat.beq n 2 then 2 else n) rfl rfl rfl ⟨(rn_ptr (use_own rfl) rfl rfl), ⟨(rn_int rfl), ⟨(rn_loose (use_lo rfl) rfl rfl rfl), ⟨(rn_int rfl), ⟨(rn_int rfl), trivial⟩⟩⟩⟩⟩ rfl (entl_b (use_own rfl) rfl (by simp) (rb_cells ⟨(rn_loose (use_lo rfl) rfl rfl rfl), (rn_loose (use_lo rfl) rfl rfl rfl), trivial⟩) (entl_bor (use_lo rfl) rfl rfl (entl_bor (use_lo rfl) rfl rfl entl_nil)))))
   (fun c0 h => no_some h)
theorem b17_0 (ar nr mr : Nat) (tr : Nat → Int) (vr : Nat → Int) (gr : Nat → Int) (ao no mo : Nat) (to : Nat → Bool) (Kst : KS) (Kret : KR) (x : St17 ⊕ Rt17) (hS : HS 2 400 ((I17 ar nr mr tr vr gr ao no mo to)) Kst x) (hR : HR 2 400 ((V17 ar nr mr tr vr gr ao no mo to)) (fun r => [newL (2 + 1) ((N17 ar nr mr tr vr gr ao no mo to) r) ++ [(0, (false, .cols mr [.int .i64 tr, .int .i64 vr, .int .i64 gr])), (1, (false, .cols mo [.bool to]))]]) Kret x) (x0 : Int) (x1 : Int) (h : (bif (decide (x1 < (↑nr : Int)))
 then (bif (decide ((0 : Int) ≤ x1 ∧ x1 < (↑nr : Int)))
 then (bif (decide (Int.toNat x1 + ar < mr))
 then (bif (decide ((0 : Int) ≤ x1 ∧ x1 < (↑no : Int)))
 then (bif (decide (Int.toNat x1 + ao < mo))
 then (bif (to (Int.toNat x1 + ao))
 then (bif (lim IntKind.i64 (x0 + gr (Int.toNat x1 + ar)))
 then (bif (lim IntKind.i64 (x1 + (1 : Int)))
 then (some (.inl (.h0 (x0 + gr (Int.toNat x1 + ar)) (x1 + (1 : Int)))))
 else (none))
 else (none))
 else (bif (lim IntKind.i64 (x1 + (1 : Int)))
 then (some (.inl (.h0 (x0) (x1 + (1 : Int)))))
 else (none)))
 else (none))
 else (none))
 else (none))
 else (none))
 else (some (.inr (x0, (0 : Int)))) : Option (St17 ⊕ Rt17)) = some x) : T17_0 cond Kst Kret ar nr mr tr vr gr ao no mo to x0 x1 := by
  unfold T17_0
  exact bif_split h
   (fun c0 h => bif_split h
   (fun c1 h => bif_split h
   (fun c2 h => cond_yes c2 (cond_yes c2 (bif_split h
   (fun c3 h => bif_split h
   (fun c4 h => bif_split h
   (fun c5 h => bif_split h
   (fun c6 h => bif_split h
   (fun c7 h => stop_at hS _ h (fun n => bif Nat.beq n 2 then 2 else n) rfl rfl rfl ⟨(rn_ptr (use_own rfl) rfl rfl), ⟨(rn_int rfl), ⟨(rn_loose (use_lo rfl) rfl rfl rfl), ⟨(rn_int rfl), ⟨(rn_int rfl), trivial⟩⟩⟩⟩⟩ rfl (entl_b (use_own rfl) rfl (by simp) (rb_cells ⟨(rn_loose (use_lo rfl) rfl rfl rfl), (rn_loose (use_lo rfl) rfl rfl rfl), trivial⟩) (entl_bor (use_lo rfl) rfl rfl (entl_bor (use_lo rfl) rfl rfl entl_nil))))
   (fun c7 h => no_some h))
   (fun c6 h => no_some h))
   (fun c5 h => bif_split h
   (fun c6 h => stop_at hS _ h (fun n => bif Nat.beq n 2 then 2 else n) rfl rfl rfl ⟨(rn_ptr (use_own rfl) rfl rfl), ⟨(rn_int rfl), ⟨(rn_loose (use_lo rfl) rfl rfl rfl), ⟨(rn_int rfl), ⟨(rn_int rfl), trivial⟩⟩⟩⟩⟩ rfl (entl_b (use_own rfl) rfl (by simp) (rb_cells ⟨(rn_loose (use_lo rfl) rfl rfl rfl), (rn_loose (use_lo rfl) rfl rfl rfl), trivial⟩) (entl_bor (use_lo rfl) rfl rfl (entl_bor (use_lo rfl) rfl rfl entl_nil))))
   (fun c6 h => no_some h)))
   (fun c4 h => no_some h))
   (fun c3 h => no_some h))))
   (fun c2 h => no_some h))
   (fun c1 h => no_some h))
   (fun c0 h => ret_at hR _ h (fun n => n) rfl rfl rfl (rn_tup ⟨(rn_int rfl), (rn_int rfl), trivial⟩) rfl (entl_bor (use_lo rfl) rfl rfl (entl_bor (use_lo rfl) rfl rfl entl_nil)))
theorem a17 (ar nr mr : Nat) (tr : Nat → Int) (vr : Nat → Int) (gr : Nat → Int) (ao no mo : Nat) (to : Nat → Bool) {r : Rt17} (h : Goes ((q17 ar nr mr tr vr gr ao no mo to)) ((p17 ar nr mr tr vr gr ao no mo to)) r) : CallR Try.prog 51 [.agg [.loose ⟨0, 3, ar, 0⟩ nr, .loose ⟨1, 1, ao, 0⟩ no]] [[(0, (false, .cols mr [.int .i64 tr, .int .i64 vr, .int .i64 gr])), (1, (false, .cols mo [.bool to]))]] 2 ((V17 ar nr mr tr vr gr ao no mo to) r) ((fun r => [newL (2 + 1) ((N17 ar nr mr tr vr gr ao no mo to) r) ++ [(0, (false, .cols mr [.int .i64 tr, .int .i64 vr, .int .i64 gr])), (1, (false, .cols mo [.bool to]))]]) r) 400 ∧ ∃ F, Try.prog.funcs[51]? = some F ∧ F.body.isSome = true ∧ (F.name == "runtime.NumGoroutine") = false := by
  refine dec_calls (f := 51) (lo := 2) (hi := 400) (H := [[(0, (false, .cols mr [.int .i64 tr, .int .i64 vr, .int .i64 gr])), (1, (false, .cols mo [.bool to]))]]) (args := [.agg [.loose ⟨0, 3, ar, 0⟩ nr, .loose ⟨1, 1, ao, 0⟩ no]]) Try.envOk Try.mixed xB_ok ((I17 ar nr mr tr vr gr ao no mo to)) ((V17 ar nr mr tr vr gr ao no mo to)) (fun r => [newL (2 + 1) ((N17 ar nr mr tr vr gr ao no mo to) r) ++ [(0, (false, .cols mr [.int .i64 tr, .int .i64 vr, .int .i64 gr])), (1, (false, .cols mo [.bool to]))]]) (fn := mkFn Try.f51) (ts := [1, 5, 14, 15, 16]) (n := 400) rfl (by decide) (by simp) (names_of rfl) ?_ ?_ ?_ h
  · intro s; cases s <;> exact ⟨hd_ok _ _, by simp [I17], names_of rfl, Nat.le_of_ble_eq_true rfl⟩
  · intro Kst Kret x hS hR h
    exact Holds.eq (te17 cond Kst Kret ar nr mr tr vr gr ao no mo to) (be17 ar nr mr tr vr gr ao no mo to Kst Kret x hS hR h)
  · intro Kst Kret x hS hR s h
    cases s with
    | h0 x0 x1 => exact Holds.eq (t17_0 cond Kst Kret ar nr mr tr vr gr ao no mo to x0 x1) (b17_0 ar nr mr tr vr gr ao no mo to Kst Kret x hS hR x0 x1 h)
noncomputable def k17 : Con := ⟨51, [.agg [.list [.int .i64, .int .i64, .int .i64], .list [.bool]]], fun (x : ((Nat × Nat × Nat × (Nat → Int) × (Nat → Int) × (Nat → Int) × Unit) × (Nat × Nat × Nat × (Nat → Bool) × Unit) × Unit) × Unit) => (fun (ar nr mr : Nat) (tr : Nat → Int) (vr : Nat → Int) (gr : Nat → Int) (ao no mo : Nat) (to : Nat → Bool) => decide (ar + nr ≤ mr ∧ nr ≤ 1000000 ∧ ao + no ≤ mo ∧ no ≤ 1000000)) x.1.1.1 x.1.1.2.1 x.1.1.2.2.1 x.1.1.2.2.2.1 x.1.1.2.2.2.2.1 x.1.1.2.2.2.2.2.1 x.1.2.1.1 x.1.2.1.2.1 x.1.2.1.2.2.1 x.1.2.1.2.2.2.1, fun (x : ((Nat × Nat × Nat × (Nat → Int) × (Nat → Int) × (Nat → Int) × Unit) × (Nat × Nat × Nat × (Nat → Bool) × Unit) × Unit) × Unit) => (fun (ar nr mr : Nat) (tr : Nat → Int) (vr : Nat → Int) (gr : Nat → Int) (ao no mo : Nat) (to : Nat → Bool) => (V17 ar nr mr tr vr gr ao no mo to) (S.fieldS nr (fun j => tr (j + ar)) (fun j => vr (j + ar)) (fun j => gr (j + ar)) no (fun j => to (j + ao)))) x.1.1.1 x.1.1.2.1 x.1.1.2.2.1 x.1.1.2.2.2.1 x.1.1.2.2.2.2.1 x.1.1.2.2.2.2.2.1 x.1.2.1.1 x.1.2.1.2.1 x.1.2.1.2.2.1 x.1.2.1.2.2.2.1, fun (x : ((Nat × Nat × Nat × (Nat → Int) × (Nat → Int) × (Nat → Int) × Unit) × (Nat × Nat × Nat × (Nat → Bool) × Unit) × Unit) × Unit) => (fun (ar nr mr : Nat) (tr : Nat → Int) (vr : Nat → Int) (gr : Nat → Int) (ao no mo : Nat) (to : Nat → Bool) => (N17 ar nr mr tr vr gr ao no mo to) (S.fieldS nr (fun j => tr (j + ar)) (fun j => vr (j + ar)) (fun j => gr (j + ar)) no (fun j => to (j + ao)))) x.1.1.1 x.1.1.2.1 x.1.1.2.2.1 x.1.1.2.2.2.1 x.1.1.2.2.2.2.1 x.1.1.2.2.2.2.2.1 x.1.2.1.1 x.1.2.1.2.1 x.1.2.1.2.2.1 x.1.2.1.2.2.2.1, fun _ _ => .dead⟩
theorem s17' (ar nr mr : Nat) (tr : Nat → Int) (vr : Nat → Int) (gr : Nat → Int) (ao no mo : Nat) (to : Nat → Bool) (hp : ar + nr ≤ mr ∧ nr ≤ 1000000 ∧ ao + no ≤ mo ∧ no ≤ 1000000) (hv : S.magE nr (fun j => tr (j + ar)) (fun j => vr (j + ar)) (fun j => gr (j + ar)) no = 0) : ∀ k i : Nat, i + k = nr → Comes (q17 ar nr mr tr vr gr ao no mo to) (.h0 (S.fldN (fun j => gr (j + ar)) (fun j => to (j + ao)) i) (i : Int)) ((S.fldN (fun j => gr (j + ar)) (fun j => to (j + ao)) nr, 0)) := by
  obtain ⟨hp1, hp2, hp3, hp4⟩ := hp
  intro k
  induction k with
  | zero =>
    intro i hi
    obtain ⟨v1, v2, v3, v4⟩ := mag_ok hv
    have g := fld_ge (w := (fun j => gr (j + ar))) (o := (fun j => to (j + ao))) (n := nr) (fun j hj => by have := v4 j hj; omega) i (by omega)
    have w : i < nr → _ := fun h => v4 i h
    apply Comes.of
    show Goes _ _ _
    (first | rw [q17] | unfold q17)
    repeat' first
      | with_reducible refine goes_if (fun h => ?_) (fun h => ?_) <;> (try simp only [lim64, imp_false, decide_eq_true_eq, decide_eq_false_iff_not, Int.toNat_natCast, toNat_pred, toNat_succ, Option.getD_some, Option.getD_none, Bool.not_eq_true', Bool.not_eq_false', Bool.and_eq_true, Bool.or_eq_true, Bool.and_eq_false_iff, Bool.or_eq_false_iff, bne_iff_ne, beq_iff_eq, bne_eq_false_iff_eq, beq_eq_false_iff_ne, ne_eq, not_and, Int.not_le, Int.not_lt, ge_iff_le, gt_iff_lt, Nat.not_lt, Nat.not_le, Bool.not_eq_true, Bool.not_eq_false, Bool.true_eq_false, Bool.false_eq_true, not_false_eq_true, not_true_eq_false] at h)
      | exact goes_none.mpr (by omega)
    all_goals first | (exfalso; omega) | (obtain rfl : nr = i := (by omega); rfl)
  | succ k ih =>
    intro i hi
    have ih := ih (i + 1) (by omega)
    obtain ⟨v1, v2, v3, v4⟩ := mag_ok hv
    have g := fld_ge (w := (fun j => gr (j + ar))) (o := (fun j => to (j + ao))) (n := nr) (fun j hj => by have := v4 j hj; omega) i (by omega)
    have w : i < nr → _ := fun h => v4 i h
    apply Comes.of
    show Goes _ _ _
    (first | rw [q17] | unfold q17)
    repeat' first
      | with_reducible refine goes_if (fun h => ?_) (fun h => ?_) <;> (try simp only [lim64, imp_false, decide_eq_true_eq, decide_eq_false_iff_not, Int.toNat_natCast, toNat_pred, toNat_succ, Option.getD_some, Option.getD_none, Bool.not_eq_true', Bool.not_eq_false', Bool.and_eq_true, Bool.or_eq_true, Bool.and_eq_false_iff, Bool.or_eq_false_iff, bne_iff_ne, beq_iff_eq, bne_eq_false_iff_eq, beq_eq_false_iff_ne, ne_eq, not_and, Int.not_le, Int.not_lt, ge_iff_le, gt_iff_lt, Nat.not_lt, Nat.not_le, Bool.not_eq_true, Bool.not_eq_false, Bool.true_eq_false, Bool.false_eq_true, not_false_eq_true, not_true_eq_false] at h)
      | exact goes_none.mpr (by omega)
    all_goals first | (exfalso; omega) | (refine Eq.mpr (congrArg (fun s => Comes _ s _) ?_) ih; simp only [S.fldN, *, cond_true, cond_false]; rfl)
theorem s17 (ar nr mr : Nat) (tr : Nat → Int) (vr : Nat → Int) (gr : Nat → Int) (ao no mo : Nat) (to : Nat → Bool) (hp : ar + nr ≤ mr ∧ nr ≤ 1000000 ∧ ao + no ≤ mo ∧ no ≤ 1000000) : Goes ((q17 ar nr mr tr vr gr ao no mo to)) ((p17 ar nr mr tr vr gr ao no mo to)) (S.fieldS nr (fun j => tr (j + ar)) (fun j => vr (j + ar)) (fun j => gr (j + ar)) no (fun j => to (j + ao))) := by
  by_cases hv : S.magE nr (fun j => tr (j + ar)) (fun j => vr (j + ar)) (fun j => gr (j + ar)) no = 0
  · have hm := s17' ar nr mr tr vr gr ao no mo to hp hv nr 0 (by omega)
    obtain ⟨v1, v2, v3, v4⟩ := mag_ok hv
    obtain ⟨hp1, hp2, hp3, hp4⟩ := hp
    unfold S.fieldS
    rw [if_pos hv]
    show Goes _ _ _
    unfold p17
    repeat' first
      | with_reducible refine goes_if (fun h => ?_) (fun h => ?_) <;> (try simp only [lim64, imp_false, decide_eq_true_eq, decide_eq_false_iff_not, Int.toNat_natCast, toNat_pred, toNat_succ, Option.getD_some, Option.getD_none, Bool.not_eq_true', Bool.not_eq_false', Bool.and_eq_true, Bool.or_eq_true, Bool.and_eq_false_iff, Bool.or_eq_false_iff, bne_iff_ne, beq_iff_eq, bne_eq_false_iff_eq, beq_eq_false_iff_ne, ne_eq, not_and, Int.not_le, Int.not_lt, ge_iff_le, gt_iff_lt, Nat.not_lt, Nat.not_le, Bool.not_eq_true, Bool.not_eq_false, Bool.true_eq_false, Bool.false_eq_true, not_false_eq_true, not_true_eq_false] at h)
      | exact goes_none.mpr (by omega)
    all_goals first | (exfalso; omega) | (exfalso; exact absurd hv (by assumption)) | exact hm | rfl
  · obtain ⟨hp1, hp2, hp3, hp4⟩ := hp
    unfold S.fieldS
    rw [if_neg hv]
    show Goes _ _ _
    unfold p17
    repeat' first
      | with_reducible refine goes_if (fun h => ?_) (fun h => ?_) <;> (try simp only [lim64, imp_false, decide_eq_true_eq, decide_eq_false_iff_not, Int.toNat_natCast, toNat_pred, toNat_succ, Option.getD_some, Option.getD_none, Bool.not_eq_true', Bool.not_eq_false', Bool.and_eq_true, Bool.or_eq_true, Bool.and_eq_false_iff, Bool.or_eq_false_iff, bne_iff_ne, beq_iff_eq, bne_eq_false_iff_eq, beq_eq_false_iff_ne, ne_eq, not_and, Int.not_le, Int.not_lt, ge_iff_le, gt_iff_lt, Nat.not_lt, Nat.not_le, Bool.not_eq_true, Bool.not_eq_false, Bool.true_eq_false, Bool.false_eq_true, not_false_eq_true, not_true_eq_false] at h)
      | exact goes_none.mpr (by omega)
    all_goals first | (exfalso; omega) | (exfalso; exact hv (by assumption)) | rfl
theorem k17_ok : k17.ok Try.prog := by
  intro x hx
  obtain ⟨⟨⟨ar, nr, mr, tr, vr, gr, _⟩, ⟨ao, no, mo, to, _⟩, _⟩, _⟩ := x
  obtain ⟨h1, h2⟩ := a17 ar nr mr tr vr gr ao no mo to (s17 ar nr mr tr vr gr ao no mo to (of_dec hx rfl))
  exact ⟨⟨400, (by decide : 2 + 1 + 0 ≤ 400), h1⟩, h2⟩
inductive St18 where
  | h0 (x0 : Int) (x1 : Int)
abbrev Rt18 := Int × Int
noncomputable def V18 (ar nr mr : Nat) (tr : Nat → Int) (vr : Nat → Int) (gr : Nat → Int) (ao no mo : Nat) (to : Nat → Bool) (r : Rt18) : PV := PV.tup [PV.int IntKind.i64 r.1, PV.int IntKind.i64 r.2]
noncomputable def N18 (ar nr mr : Nat) (tr : Nat → Int) (vr : Nat → Int) (gr : Nat → Int) (ao no mo : Nat) (to : Nat → Bool) (r : Rt18) : List Blk := []
noncomputable def I18 (ar nr mr : Nat) (tr : Nat → Int) (vr : Nat → Int) (gr : Nat → Int) (ao no mo : Nat) (to : Nat → Bool) : St18 → Hd
  | .h0 x0 x1 => ⟨hd Try.f53 0, [PV.ptr (PA.mk (2) (0) (0) (0)), PV.int IntKind.i64 x0,
 PV.int IntKind.i64 x1], [[(2, (true, Blk.cells
 [PV.loose (PA.mk (0) (3) ar (0)) nr,
 PV.loose (PA.mk (1) (1) ao (0)) no]))], [(0, (false, .cols mr [.int .i64 tr, .int .i64 vr, .int .i64 gr])), (1, (false, .cols mo [.bool to]))]], 3⟩
noncomputable def q18 (ar nr mr : Nat) (tr : Nat → Int) (vr : Nat → Int) (gr : Nat → Int) (ao no mo : Nat) (to : Nat → Bool) : St18 → Option (St18 ⊕ Rt18)
  | .h0 x0 x1 => bif (decide (x1 < (↑nr : Int)))
 then (bif (decide ((0 : Int) ≤ x1 ∧ x1 < (↑no : Int)))
 then (bif (decide (Int.toNat x1 + ao < mo))
 then (bif (to (Int.toNat x1 + ao))
 then (bif (decide ((0 : Int) ≤ x1 ∧ x1 < (↑nr : Int)))
 then (bif (decide (Int.toNat x1 + ar < mr))
 then (bif (lim IntKind.i64 (x0 + gr (Int.toNat x1 + ar)))
 then (bif (lim IntKind.i64 (x1 + (1 : Int)))
 then (some (.inl (.h0 (x0 + gr (Int.toNat x1 + ar)) (x1 + (1 : Int)))))
 else (none))
 else (none))
 else (none))
 else (none))
 else (bif (lim IntKind.i64 (x1 + (1 : Int)))
 then (some (.inl (.h0 (x0) (x1 + (1 : Int)))))
 else (none)))
 else (none))
 else (none))
 else (some (.inr (x0, (0 : Int))))
noncomputable def p18 (ar nr mr : Nat) (tr : Nat → Int) (vr : Nat → Int) (gr : Nat → Int) (ao no mo : Nat) (to : Nat → Bool) : Option (St18 ⊕ Rt18) := bif (decide (ar + nr ≤ mr ∧ nr ≤ 1000000))
 then (bif (S.magE nr (fun j => tr (j + ar)) (fun j => vr (j + ar)) (fun j => gr (j + ar)) no !=
 (0 : Int))
 then (some (.inr ((0 : Int), S.magE nr (fun j => tr (j + ar)) (fun j => vr (j + ar)) (fun j => gr (j + ar)) no)))
 else (some (.inl (.h0 ((0 : Int)) ((0 : Int))))))
 else (none)
noncomputable def Te18 (test : Bool → Prop → Prop → Prop) (Kst : KS) (Kret : KR) (ar nr mr : Nat) (tr : Nat → Int) (vr : Nat → Int) (gr : Nat → Int) (ao no mo : Nat) (to : Nat → Bool) : Prop :=
  test (decide (ar + nr ≤ mr ∧ nr ≤ 1000000))
 (test (S.magE nr (fun j => tr (j + ar)) (fun j => vr (j + ar)) (fun j => gr (j + ar)) no !=
 (0 : Int))
 (Kret (PV.tup
 [PV.int IntKind.i64 (0 : Int),
 PV.int IntKind.i64
 (S.magE nr (fun j => tr (j + ar)) (fun j => vr (j + ar)) (fun j => gr (j + ar)) no)]) ([[(1, false, Blk.cols mo [Col.bool to]),
 (0, false,
 Blk.cols mr
 [Col.int IntKind.i64 tr, Col.int IntKind.i64 vr, Col.int IntKind.i64 gr])]]) (4))
 (Kst (hd Try.f53 0) ([PV.ptr (PA.mk (2) (0) (0) (0)), PV.int IntKind.i64 (0 : Int),
 PV.int IntKind.i64 (0 : Int)]) ([[(1, false, Blk.cols mo [Col.bool to]),
 (0, false,
 Blk.cols mr
 [Col.int IntKind.i64 tr, Col.int IntKind.i64 vr, Col.int IntKind.i64 gr]),
 (2, true,
 Blk.cells
 [PV.loose (PA.mk (0) (3) ar (0)) nr,
 PV.loose (PA.mk (1) (1) ao (0)) no])]]) (4)))
 (False)
theorem te18 (test : Bool → Prop → Prop → Prop) (Kst : KS) (Kret : KR) (ar nr mr : Nat) (tr : Nat → Int) (vr : Nat → Int) (gr : Nat → Int) (ao no mo : Nat) (to : Nat → Bool) : run test Try.env true (xB test) true 400 ⟨53, [.cd (mkFn Try.f53).body], argT 0 [.agg [.loose ⟨0, 3, ar, 0⟩ nr, .loose ⟨1, 1, ao, 0⟩ no]], [[], [(0, (false, .cols mr [.int .i64 tr, .int .i64 vr, .int .i64 gr])), (1, (false, .cols mo [.bool to]))]], 2⟩ (proj 2 [1, 5, 6] Kst Kret) =
  Te18 test Kst Kret ar nr mr tr vr gr ao no mo to := by kernel_rfl
noncomputable def T18_0 (test : Bool → Prop → Prop → Prop) (Kst : KS) (Kret : KR) (ar nr mr : Nat) (tr : Nat → Int) (vr : Nat → Int) (gr : Nat → Int) (ao no mo : Nat) (to : Nat → Bool) (x0 : Int) (x1 : Int) : Prop :=
  test (decide (x1 < (↑nr : Int)))
 (test (decide ((0 : Int) ≤ x1 ∧ x1 < (↑no : Int)))
 (test (decide (Int.toNat x1 + ao < mo))
 (test (to (Int.toNat x1 + ao))
 (test (decide ((0 : Int) ≤ x1 ∧ x1 < (↑nr : Int)))
 (test (decide (Int.toNat x1 + ar < mr))
 (test (lim IntKind.i64 (x0 + gr (Int.toNat x1 + ar)))
 (test (lim IntKind.i64 (x1 + (1 : Int)))
 (Kst (hd Try.f53 0) ([PV.ptr (PA.mk (2) (0) (0) (0)),
 PV.int IntKind.i64 (x0 + gr (Int.toNat x1 + ar)), PV.int IntKind.i64 (x1 + (1 : Int))]) ([[(1, false, Blk.cols mo [Col.bool to]),
 (0, false,
 Blk.cols mr
 [Col.int IntKind.i64 tr, Col.int IntKind.i64 vr, Col.int IntKind.i64 gr]),
 (2, true,
 Blk.cells
 [PV.loose (PA.mk (0) (3) ar (0)) nr,
 PV.loose (PA.mk (1) (1) ao (0)) no])]]) (3))
 (False))
 (False))
 (False))
 (False))
 (test (lim IntKind.i64 (x1 + (1 : Int)))
 (Kst (hd Try.f53 0) ([PV.ptr (PA.mk (2) (0) (0) (0)), PV.int IntKind.i64 x0,
 PV.int IntKind.i64 (x1 + (1 : Int))]) ([[(1, false, Blk.cols mo [Col.bool to]),
 (0, false,
 Blk.cols mr
 [Col.int IntKind.i64 tr, Col.int IntKind.i64 vr, Col.int IntKind.i64 gr]),
 (2, true,
 Blk.cells
 [PV.loose (PA.mk (0) (3) ar (0)) nr,
 PV.loose (PA.mk (1) (1) ao (0)) no])]]) (3))
 (False)))
 (False))
 (False))
 (Kret (PV.tup [PV.int IntKind.i64 x0, PV.int IntKind.i64 (0 : Int)]) ([[(1, false, Blk.cols mo [Col.bool to]),
 (0, false,
 Blk.cols mr
 [Col.int IntKind.i64 tr, Col.int IntKind.i64 vr, Col.int IntKind.i64 gr])]]) (3))
theorem t18_0 (test : Bool → Prop → Prop → Prop) (Kst : KS) (Kret : KR) (ar nr mr : Nat) (tr : Nat → Int) (vr : Nat → Int) (gr : Nat → Int) (ao no mo : Nat) (to : Nat → Bool) (x0 : Int) (x1 : Int) : run test Try.env true (xB test) true 400 ⟨53, hd Try.f53 0, zipT [1, 5, 6] [PV.ptr (PA.mk (2) (0) (0) (0)), PV.int IntKind.i64 x0,
 PV.int IntKind.i64 x1], [[(2, (true, Blk.cells
 [PV.loose (PA.mk (0) (3) ar (0)) nr,
 PV.loose (PA.mk (1) (1) ao (0)) no]))], [(0, (false, .cols mr [.int .i64 tr, .int .i64 vr, .int .i64 gr])), (1, (false, .cols mo [.bool to]))]], 3⟩ (proj 2 [1, 5, 6] Kst Kret) =
  T18_0 test Kst Kret ar nr mr tr vr gr ao no mo to x0 x1 := by kernel_rfl
theorem be18 (ar nr mr : Nat) (tr : Nat → Int) (vr : Nat → Int) (gr : Nat → Int) (ao no mo : Nat) (to : Nat → Bool) (Kst : KS) (Kret : KR) (x : St18 ⊕ Rt18) (hS : HS 2 400 ((I18 ar nr mr tr vr gr ao no mo to)) Kst x) (hR : HR 2 400 ((V18 ar nr mr tr vr gr ao no mo to)) (fun r => [newL (2 + 1) ((N18 ar nr mr tr vr gr ao no mo to) r) ++ [(0, (false, .cols mr [.int .i64 tr, .int .i64 vr, .int .i64 gr])), (1, (false, .cols mo [.bool to]))]]) Kret x) (h : (bif (decide (ar + nr ≤ mr ∧ nr ≤ 1000000))
 then (bif (S.magE nr (fun j => tr (j + ar)) (fun j => vr (j + ar)) (fun j => gr (j + ar)) no !=
 (0 : Int))
 then (some (.inr ((0 : Int), S.magE nr (fun j => tr (j + ar)) (fun j => vr (j + ar)) (fun j => gr (j + ar)) no)))
 else (some (.inl (.h0 ((0 : Int)) ((0 : Int))))))
 else (none) : Option (St18 ⊕ Rt18)) = some x) : Te18 cond Kst Kret ar nr mr tr vr gr ao no mo to := by
  unfold Te18
  exact bif_split h
   (fun c0 h => bif_split h
   (fun c1 h => ret_at hR _ h (fun n => n) rfl rfl rfl (rn_tup ⟨(rn_int rfl), (rn_int rfl), trivial⟩) rfl (entl_bor (use_lo rfl) rfl rfl (entl_bor (use_lo rfl) rfl rfl entl_nil)))
   (fun c1 h => stop_at hS _ h (fun n => bif Nat.beq n 2 then 2 else n) rfl rfl rfl ⟨(rn_ptr (use_own rfl) rfl rfl), ⟨(rn_int rfl), ⟨(rn_int rfl), trivial⟩⟩⟩ rfl (entl_b (use_own rfl) rfl (by simp) (rb_cells ⟨(rn_loose (use_lo rfl) rfl rfl rfl), (rn_loose (use_lo rfl) rfl rfl rfl), trivial⟩) (entl_bor (use_lo rfl) rfl rfl (entl_bor (use_lo rfl) rfl rfl entl_nil)))))
   (fun c0 h => no_some h)
theorem b18_0 (ar nr mr : Nat) (tr : Nat → Int) (vr : Nat → Int) (gr : Nat → Int) (ao no mo : Nat) (to : Nat → Bool) (Kst : KS) (Kret : KR) (x : St18 ⊕ Rt18) (hS : HS 2 400 ((I18 ar nr mr tr vr gr ao no mo to)) Kst x) (hR : HR 2 400 ((V18 ar nr mr tr vr gr ao no mo to)) (fun r => [newL (2 + 1) ((N18 ar nr mr tr vr gr ao no mo to) r) ++ [(0, (false, .cols mr [.int .i64 tr, .int .i64 vr, .int .i64 gr])), (1, (false, .cols mo [.bool to]))]]) Kret x) (x0 : Int) (x1 : Int) (h : (bif (decide (x1 < (↑nr : Int)))
 then (bif (decide ((0 : Int) ≤ x1 ∧ x1 < (↑no : Int)))
 then (bif (decide (Int.toNat x1 + ao < mo))
 then (bif (to (Int.toNat x1 + ao))
 then (bif (decide ((0 : Int) ≤ x1 ∧ x1 < (↑nr : Int)))
 then (bif (decide (Int.toNat x1 + ar < mr))
 then (bif (lim IntKind.i64 (x0 + gr (Int.toNat x1 + ar)))
 then (bif (lim IntKind.i64 (x1 + (1 : Int)))
 then (some (.inl (.h0 (x0 + gr (Int.toNat x1 + ar)) (x1 + (1 : Int)))))
 else (none))
 else (none))
 else (none))
 else (none))
 else (bif (lim IntKind.i64 (x1 + (1 : Int)))
 then (some (.inl (.h0 (x0) (x1 + (1 : Int)))))
 else (none)))
 else (none))
 else (none))
 else (some (.inr (x0, (0 : Int)))) : Option (St18 ⊕ Rt18)) = some x) : T18_0 cond Kst Kret ar nr mr tr vr gr ao no mo to x0 x1 := by
  unfold T18_0
  exact bif_split h
   (fun c0 h => bif_split h
   (fun c1 h => bif_split h
   (fun c2 h => bif_split h
   (fun c3 h => bif_split h
   (fun c4 h => bif_split h
   (fun c5 h => bif_split h
   (fun c6 h => bif_split h
   (fun c7 h => stop_at hS _ h (fun n => bif Nat.beq n 2 then 2 else n) rfl rfl rfl ⟨(rn_ptr (use_own rfl) rfl rfl), ⟨(rn_int rfl), ⟨(rn_int rfl), trivial⟩⟩⟩ rfl (entl_b (use_own rfl) rfl (by simp) (rb_cells ⟨(rn_loose (use_lo rfl) rfl rfl rfl), (rn_loose (use_lo rfl) rfl rfl rfl), trivial⟩) (entl_bor (use_lo rfl) rfl rfl (entl_bor (use_lo rfl) rfl rfl entl_nil))))
   (fun c7 h => no_some h))
   (fun c6 h => no_some h))
   (fun c5 h => no_some h))
   (fun c4 h => no_some h))
   (fun c3 h => bif_split h
   (fun c4 h => stop_at hS _ h (fun n => bif Nat.beq n 2 then 2 else n) rfl rfl rfl ⟨(rn_ptr (use_own rfl) rfl rfl), ⟨(rn_int rfl), ⟨(rn_int rfl), trivial⟩⟩⟩ rfl (entl_b (use_own rfl) rfl (by simp) (rb_cells ⟨(rn_loose (use_lo rfl) rfl rfl rfl), (rn_loose (use_lo rfl) rfl rfl rfl), trivial⟩) (entl_bor (use_lo rfl) rfl rfl (entl_bor (use_lo rfl) rfl rfl entl_nil))))
   (fun c4 h => no_some h)))
   (fun c2 h => no_some h))
   (fun c1 h => no_some h))
   (fun c0 h => ret_at hR _ h (fun n => n) rfl rfl rfl (rn_tup ⟨(rn_int rfl), (rn_int rfl), trivial⟩) rfl (entl_bor (use_lo rfl) rfl rfl (entl_bor (use_lo rfl) rfl rfl entl_nil)))
theorem a18 (ar nr mr : Nat) (tr : Nat → Int) (vr : Nat → Int) (gr : Nat → Int) (ao no mo : Nat) (to : Nat → Bool) {r : Rt18} (h : Goes ((q18 ar nr mr tr vr gr ao no mo to)) ((p18 ar nr mr tr vr gr ao no mo to)) r) : CallR Try.prog 53 [.agg [.loose ⟨0, 3, ar, 0⟩ nr, .loose ⟨1, 1, ao, 0⟩ no]] [[(0, (false, .cols mr [.int .i64 tr, .int .i64 vr, .int .i64 gr])), (1, (false, .cols mo [.bool to]))]] 2 ((V18 ar nr mr tr vr gr ao no mo to) r) ((fun r => [newL (2 + 1) ((N18 ar nr mr tr vr gr ao no mo to) r) ++ [(0, (false, .cols mr [.int .i64 tr, .int .i64 vr, .int .i64 gr])), (1, (false, .cols mo [.bool to]))]]) r) 400 ∧ ∃ F, Try.prog.funcs[53]? = some F ∧ F.body.isSome = true ∧ (F.name == "runtime.NumGoroutine") = false := by
  refine dec_calls (f := 53) (lo := 2) (hi := 400) (H := [[(0, (false, .cols mr [.int .i64 tr, .int .i64 vr, .int .i64 gr])), (1, (false, .cols mo [.bool to]))]]) (args := [.agg [.loose ⟨0, 3, ar, 0⟩ nr, .loose ⟨1, 1, ao, 0⟩ no]]) Try.envOk Try.mixed xB_ok ((I18 ar nr mr tr vr gr ao no mo to)) ((V18 ar nr mr tr vr gr ao no mo to)) (fun r => [newL (2 + 1) ((N18 ar nr mr tr vr gr ao no mo to) r) ++ [(0, (false, .cols mr [.int .i64 tr, .int .i64 vr, .int .i64 gr])), (1, (false, .cols mo [.bool to]))]]) (fn := mkFn Try.f53) (ts := [1, 5, 6]) (n := 400) rfl (by decide) (by simp) (names_of rfl) ?_ ?_ ?_ h
  · intro s; cases s <;> exact ⟨hd_ok _ _, by simp [I18], names_of rfl, Nat.le_of_ble_eq_true rfl⟩
  · intro Kst Kret x hS hR h
    exact Holds.eq (te18 cond Kst Kret ar nr mr tr vr gr ao no mo to) (be18 ar nr mr tr vr gr ao no mo to Kst Kret x hS hR h)
  · intro Kst Kret x hS hR s h
    cases s with
    | h0 x0 x1 => exact Holds.eq (t18_0 cond Kst Kret ar nr mr tr vr gr ao no mo to x0 x1) (b18_0 ar nr mr tr vr gr ao no mo to Kst Kret x hS hR x0 x1 h)
noncomputable def k18 : Con := ⟨53, [.agg [.list [.int .i64, .int .i64, .int .i64], .list [.bool]]], fun (x : ((Nat × Nat × Nat × (Nat → Int) × (Nat → Int) × (Nat → Int) × Unit) × (Nat × Nat × Nat × (Nat → Bool) × Unit) × Unit) × Unit) => (fun (ar nr mr : Nat) (tr : Nat → Int) (vr : Nat → Int) (gr : Nat → Int) (ao no mo : Nat) (to : Nat → Bool) => decide (ar + nr ≤ mr ∧ nr ≤ 1000000 ∧ ao + no ≤ mo ∧ no ≤ 1000000)) x.1.1.1 x.1.1.2.1 x.1.1.2.2.1 x.1.1.2.2.2.1 x.1.1.2.2.2.2.1 x.1.1.2.2.2.2.2.1 x.1.2.1.1 x.1.2.1.2.1 x.1.2.1.2.2.1 x.1.2.1.2.2.2.1, fun (x : ((Nat × Nat × Nat × (Nat → Int) × (Nat → Int) × (Nat → Int) × Unit) × (Nat × Nat × Nat × (Nat → Bool) × Unit) × Unit) × Unit) => (fun (ar nr mr : Nat) (tr : Nat → Int) (vr : Nat → Int) (gr : Nat → Int) (ao no mo : Nat) (to : Nat → Bool) => (V18 ar nr mr tr vr gr ao no mo to) (S.fieldS nr (fun j => tr (j + ar)) (fun j => vr (j + ar)) (fun j => gr (j + ar)) no (fun j => to (j + ao)))) x.1.1.1 x.1.1.2.1 x.1.1.2.2.1 x.1.1.2.2.2.1 x.1.1.2.2.2.2.1 x.1.1.2.2.2.2.2.1 x.1.2.1.1 x.1.2.1.2.1 x.1.2.1.2.2.1 x.1.2.1.2.2.2.1, fun (x : ((Nat × Nat × Nat × (Nat → Int) × (Nat → Int) × (Nat → Int) × Unit) × (Nat × Nat × Nat × (Nat → Bool) × Unit) × Unit) × Unit) => (fun (ar nr mr : Nat) (tr : Nat → Int) (vr : Nat → Int) (gr : Nat → Int) (ao no mo : Nat) (to : Nat → Bool) => (N18 ar nr mr tr vr gr ao no mo to) (S.fieldS nr (fun j => tr (j + ar)) (fun j => vr (j + ar)) (fun j => gr (j + ar)) no (fun j => to (j + ao)))) x.1.1.1 x.1.1.2.1 x.1.1.2.2.1 x.1.1.2.2.2.1 x.1.1.2.2.2.2.1 x.1.1.2.2.2.2.2.1 x.1.2.1.1 x.1.2.1.2.1 x.1.2.1.2.2.1 x.1.2.1.2.2.2.1, fun _ _ => .dead⟩
theorem s18' (ar nr mr : Nat) (tr : Nat → Int) (vr : Nat → Int) (gr : Nat → Int) (ao no mo : Nat) (to : Nat → Bool) (hp : ar + nr ≤ mr ∧ nr ≤ 1000000 ∧ ao + no ≤ mo ∧ no ≤ 1000000) (hv : S.magE nr (fun j => tr (j + ar)) (fun j => vr (j + ar)) (fun j => gr (j + ar)) no = 0) : ∀ k i : Nat, i + k = nr → Comes (q18 ar nr mr tr vr gr ao no mo to) (.h0 (S.fldN (fun j => gr (j + ar)) (fun j => to (j + ao)) i) (i : Int)) ((S.fldN (fun j => gr (j + ar)) (fun j => to (j + ao)) nr, 0)) := by
  obtain ⟨hp1, hp2, hp3, hp4⟩ := hp
  intro k
  induction k with
  | zero =>
    intro i hi
    obtain ⟨v1, v2, v3, v4⟩ := mag_ok hv
    have g := fld_ge (w := (fun j => gr (j + ar))) (o := (fun j => to (j + ao))) (n := nr) (fun j hj => by have := v4 j hj; omega) i (by omega)
    have w : i < nr → _ := fun h => v4 i h
    apply Comes.of
    show Goes _ _ _
    (first | rw [q18] | unfold q18)
    repeat' first
      | with_reducible refine goes_if (fun h => ?_) (fun h => ?_) <;> (try simp only [lim64, imp_false, decide_eq_true_eq, decide_eq_false_iff_not, Int.toNat_natCast, toNat_pred, toNat_succ, Option.getD_some, Option.getD_none, Bool.not_eq_true', Bool.not_eq_false', Bool.and_eq_true, Bool.or_eq_true, Bool.and_eq_false_iff, Bool.or_eq_false_iff, bne_iff_ne, beq_iff_eq, bne_eq_false_iff_eq, beq_eq_false_iff_ne, ne_eq, not_and, Int.not_le, Int.not_lt, ge_iff_le, gt_iff_lt, Nat.not_lt, Nat.not_le, Bool.not_eq_true, Bool.not_eq_false, Bool.true_eq_false, Bool.false_eq_true, not_false_eq_true, not_true_eq_false] at h)
      | exact goes_none.mpr (by omega)
    all_goals first | (exfalso; omega) | (obtain rfl : nr = i := (by omega); rfl)
  | succ k ih =>
    intro i hi
    have ih := ih (i + 1) (by omega)
    obtain ⟨v1, v2, v3, v4⟩ := mag_ok hv
    have g := fld_ge (w := (fun j => gr (j + ar))) (o := (fun j => to (j + ao))) (n := nr) (fun j hj => by have := v4 j hj; omega) i (by omega)
    have w : i < nr → _ := fun h => v4 i h
    apply Comes.of
    show Goes _ _ _
    (first | rw [q18] | unfold q18)
    repeat' first
      | with_reducible refine goes_if (fun h => ?_) (fun h => ?_) <;> (try simp only [lim64, imp_false, decide_eq_true_eq, decide_eq_false_iff_not, Int.toNat_natCast, toNat_pred, toNat_succ, Option.getD_some, Option.getD_none, Bool.not_eq_true', Bool.not_eq_false', Bool.and_eq_true, Bool.or_eq_true, Bool.and_eq_false_iff, Bool.or_eq_false_iff, bne_iff_ne, beq_iff_eq, bne_eq_false_iff_eq, beq_eq_false_iff_ne, ne_eq, not_and, Int.not_le, Int.not_lt, ge_iff_le, gt_iff_lt, Nat.not_lt, Nat.not_le, Bool.not_eq_true, Bool.not_eq_false, Bool.true_eq_false, Bool.false_eq_true, not_false_eq_true, not_true_eq_false] at h)
      | exact goes_none.mpr (by omega)
    all_goals first | (exfalso; omega) | (refine Eq.mpr (congrArg (fun s => Comes _ s _) ?_) ih; simp only [S.fldN, *, cond_true, cond_false]; rfl)
theorem s18 (ar nr mr : Nat) (tr : Nat → Int) (vr : Nat → Int) (gr : Nat → Int) (ao no mo : Nat) (to : Nat → Bool) (hp : ar + nr ≤ mr ∧ nr ≤ 1000000 ∧ ao + no ≤ mo ∧ no ≤ 1000000) : Goes ((q18 ar nr mr tr vr gr ao no mo to)) ((p18 ar nr mr tr vr gr ao no mo to)) (S.fieldS nr (fun j => tr (j + ar)) (fun j => vr (j + ar)) (fun j => gr (j + ar)) no (fun j => to (j + ao))) := by
  by_cases hv : S.magE nr (fun j => tr (j + ar)) (fun j => vr (j + ar)) (fun j => gr (j + ar)) no = 0
  · have hm := s18' ar nr mr tr vr gr ao no mo to hp hv nr 0 (by omega)
    obtain ⟨v1, v2, v3, v4⟩ := mag_ok hv
    obtain ⟨hp1, hp2, hp3, hp4⟩ := hp
    unfold S.fieldS
    rw [if_pos hv]
    show Goes _ _ _
    unfold p18
    repeat' first
      | with_reducible refine goes_if (fun h => ?_) (fun h => ?_) <;> (try simp only [lim64, imp_false, decide_eq_true_eq, decide_eq_false_iff_not, Int.toNat_natCast, toNat_pred, toNat_succ, Option.getD_some, Option.getD_none, Bool.not_eq_true', Bool.not_eq_false', Bool.and_eq_true, Bool.or_eq_true, Bool.and_eq_false_iff, Bool.or_eq_false_iff, bne_iff_ne, beq_iff_eq, bne_eq_false_iff_eq, beq_eq_false_iff_ne, ne_eq, not_and, Int.not_le, Int.not_lt, ge_iff_le, gt_iff_lt, Nat.not_lt, Nat.not_le, Bool.not_eq_true, Bool.not_eq_false, Bool.true_eq_false, Bool.false_eq_true, not_false_eq_true, not_true_eq_false] at h)
      | exact goes_none.mpr (by omega)
    all_goals first | (exfalso; omega) | (exfalso; exact absurd hv (by assumption)) | exact hm | rfl
  · obtain ⟨hp1, hp2, hp3, hp4⟩ := hp
    unfold S.fieldS
    rw [if_neg hv]
    show Goes _ _ _
    unfold p18
    repeat' first
      | with_reducible refine goes_if (fun h => ?_) (fun h => ?_) <;> (try simp only [lim64, imp_false, decide_eq_true_eq, decide_eq_false_iff_not, Int.toNat_natCast, toNat_pred, toNat_succ, Option.getD_some, Option.getD_none, Bool.not_eq_true', Bool.not_eq_false', Bool.and_eq_true, Bool.or_eq_true, Bool.and_eq_false_iff, Bool.or_eq_false_iff, bne_iff_ne, beq_iff_eq, bne_eq_false_iff_eq, beq_eq_false_iff_ne, ne_eq, not_and, Int.not_le, Int.not_lt, ge_iff_le, gt_iff_lt, Nat.not_lt, Nat.not_le, Bool.not_eq_true, Bool.not_eq_false, Bool.true_eq_false, Bool.false_eq_true, not_false_eq_true, not_true_eq_false] at h)
      | exact goes_none.mpr (by omega)
    all_goals first | (exfalso; omega) | (exfalso; exact hv (by assumption)) | rfl
theorem k18_ok : k18.ok Try.prog := by
  intro x hx
  obtain ⟨⟨⟨ar, nr, mr, tr, vr, gr, _⟩, ⟨ao, no, mo, to, _⟩, _⟩, _⟩ := x
  obtain ⟨h1, h2⟩ := a18 ar nr mr tr vr gr ao no mo to (s18 ar nr mr tr vr gr ao no mo to (of_dec hx rfl))
  exact ⟨⟨400, (by decide : 2 + 1 + 0 ≤ 400), h1⟩, h2⟩
inductive St44 where
  | h0 (x0 : Int) (x1 : List Bool)
abbrev Rt44 := List Bool
noncomputable def V44 (ar nr mr : Nat) (tr : Nat → Int) (vr : Nat → Int) (gr : Nat → Int) (no mo : Nat) (to : Nat → Bool) (v : Int) (r : Rt44) : PV := PV.tup []
noncomputable def N44 (ar nr mr : Nat) (tr : Nat → Int) (vr : Nat → Int) (gr : Nat → Int) (no mo : Nat) (to : Nat → Bool) (v : Int) (r : Rt44) : List Blk := []
noncomputable def W44 (ar nr mr : Nat) (tr : Nat → Int) (vr : Nat → Int) (gr : Nat → Int) (no mo : Nat) (to : Nat → Bool) (v : Int) (r : Rt44) : Nat → Blk := fun n => bif Nat.beq n 1 then Blk.cols (List.length r) [Col.bool fun j => S.at' r j] else .dead
noncomputable def I44 (ar nr mr : Nat) (tr : Nat → Int) (vr : Nat → Int) (gr : Nat → Int) (no mo : Nat) (to : Nat → Bool) (v : Int) : St44 → Hd
  | .h0 x0 x1 => ⟨hd Try.f70 0, [PV.int IntKind.i64 v, PV.ptr (PA.mk (2) (0) (0) (0)),
 PV.loose (PA.mk (0) (3) ar (0)) nr, PV.int IntKind.i64 (↑nr : Int),
 PV.int IntKind.i64 x0], [[(2, (true, Blk.cells
 [PV.loose (PA.mk (0) (3) ar (0)) nr,
 PV.own (1) (1) (List.length x1)]))], [(0, (false, .cols mr [.int .i64 tr, .int .i64 vr, .int .i64 gr])), (1, (true, Blk.cols (List.length x1) [Col.bool fun j => S.at' x1 j]))]], 3⟩
noncomputable def q44 (ar nr mr : Nat) (tr : Nat → Int) (vr : Nat → Int) (gr : Nat → Int) (no mo : Nat) (to : Nat → Bool) (v : Int) : St44 → Option (St44 ⊕ Rt44)
  | .h0 x0 x1 => bif (decide (x0 < (↑nr : Int)))
 then (bif (decide ((0 : Int) ≤ x0 ∧ x0 < (↑nr : Int)))
 then (bif (decide (Int.toNat x0 + ar < mr))
 then (bif (decide (v ≥ tr (Int.toNat x0 + ar)))
 then (bif (decide ((0 : Int) ≤ x0 ∧ x0 < (↑(List.length x1) : Int)))
 then (bif (decide (Int.toNat x0 < List.length x1))
 then (bif (lim IntKind.i64 (x0 + (1 : Int)))
 then (some (.inl (.h0 (x0 + (1 : Int)) (S.mkl (List.length x1) fun j => bif Nat.beq j (Int.toNat x0) then true else S.at' x1 j))))
 else (none))
 else (none))
 else (none))
 else (bif (decide (v ≤ vr (Int.toNat x0 + ar)))
 then (bif (decide ((0 : Int) ≤ x0 ∧ x0 < (↑(List.length x1) : Int)))
 then (bif (decide (Int.toNat x0 < List.length x1))
 then (bif (lim IntKind.i64 (x0 + (1 : Int)))
 then (some (.inl (.h0 (x0 + (1 : Int)) (S.mkl (List.length x1) fun j => bif Nat.beq j (Int.toNat x0) then false else S.at' x1 j))))
 else (none))
 else (none))
 else (none))
 else (bif (lim IntKind.i64 (x0 + (1 : Int)))
 then (some (.inl (.h0 (x0 + (1 : Int)) (x1))))
 else (none))))
 else (none))
 else (none))
 else (some (.inr (x1)))
noncomputable def p44 (ar nr mr : Nat) (tr : Nat → Int) (vr : Nat → Int) (gr : Nat → Int) (no mo : Nat) (to : Nat → Bool) (v : Int) : Option (St44 ⊕ Rt44) := some (.inl (.h0 ((0 : Int)) (S.mkl no fun j => to j)))
noncomputable def Te44 (test : Bool → Prop → Prop → Prop) (Kst : KS) (Kret : KR) (ar nr mr : Nat) (tr : Nat → Int) (vr : Nat → Int) (gr : Nat → Int) (no mo : Nat) (to : Nat → Bool) (v : Int) : Prop :=
  Kst (hd Try.f70 0) ([PV.int IntKind.i64 v, PV.ptr (PA.mk (2) (0) (0) (0)),
 PV.loose (PA.mk (0) (3) ar (0)) nr, PV.int IntKind.i64 (↑nr : Int),
 PV.int IntKind.i64 (0 : Int)]) ([[(1, true, Blk.cols no [Col.bool to]),
 (0, false,
 Blk.cols mr
 [Col.int IntKind.i64 tr, Col.int IntKind.i64 vr, Col.int IntKind.i64 gr]),
 (2, true,
 Blk.cells
 [PV.loose (PA.mk (0) (3) ar (0)) nr,
 PV.own (1) (1) no])]]) (3)
theorem te44 (test : Bool → Prop → Prop → Prop) (Kst : KS) (Kret : KR) (ar nr mr : Nat) (tr : Nat → Int) (vr : Nat → Int) (gr : Nat → Int) (no mo : Nat) (to : Nat → Bool) (v : Int) : run test Try.env true noX true 400 ⟨70, [.cd (mkFn Try.f70).body], argT 0 [.agg [.loose ⟨0, 3, ar, 0⟩ nr, .own 1 1 no], .int .i64 v], [[], [(0, (false, .cols mr [.int .i64 tr, .int .i64 vr, .int .i64 gr])), (1, (true, .cols no [.bool to]))]], 2⟩ (proj 2 [1, 2, 7, 8, 9] Kst Kret) =
  Te44 test Kst Kret ar nr mr tr vr gr no mo to v := by kernel_rfl
noncomputable def T44_0 (test : Bool → Prop → Prop → Prop) (Kst : KS) (Kret : KR) (ar nr mr : Nat) (tr : Nat → Int) (vr : Nat → Int) (gr : Nat → Int) (no mo : Nat) (to : Nat → Bool) (v : Int) (x0 : Int) (x1 : List Bool) : Prop :=
  test (decide (x0 < (↑nr : Int)))
 (test (decide ((0 : Int) ≤ x0 ∧ x0 < (↑nr : Int)))
 (test (decide (Int.toNat x0 + ar < mr))
 (test (decide (Int.toNat x0 + ar < mr))
 (test (decide (Int.toNat x0 + ar < mr))
 (test (decide (v ≥ tr (Int.toNat x0 + ar)))
 (test (decide (v ≥ tr (Int.toNat x0 + ar)))
 (test (decide ((0 : Int) ≤ x0 ∧ x0 < (↑(List.length x1) : Int)))
 (test (decide (Int.toNat x0 < List.length x1))
 (test (lim IntKind.i64 (x0 + (1 : Int)))
 (Kst (hd Try.f70 0) ([PV.int IntKind.i64 v, PV.ptr (PA.mk (2) (0) (0) (0)),
 PV.loose (PA.mk (0) (3) ar (0)) nr, PV.int IntKind.i64 (↑nr : Int),
 PV.int IntKind.i64 (x0 + (1 : Int))]) ([[(1, true,
 Blk.cols (List.length x1)
 [Col.bool fun j => bif Nat.beq j (Int.toNat x0) then true else S.at' x1 j]),
 (0, false,
 Blk.cols mr
 [Col.int IntKind.i64 tr, Col.int IntKind.i64 vr, Col.int IntKind.i64 gr]),
 (2, true,
 Blk.cells
 [PV.loose (PA.mk (0) (3) ar (0)) nr,
 PV.own (1) (1) (List.length x1)])]]) (5))
 (False))
 (False))
 (False))
 (test (decide ((0 : Int) ≤ x0 ∧ x0 < (↑(List.length x1) : Int)))
 (test (decide (Int.toNat x0 < List.length x1))
 (test (lim IntKind.i64 (x0 + (1 : Int)))
 (Kst (hd Try.f70 0) ([PV.int IntKind.i64 v, PV.ptr (PA.mk (2) (0) (0) (0)),
 PV.loose (PA.mk (0) (3) ar (0)) nr, PV.int IntKind.i64 (↑nr : Int),
 PV.int IntKind.i64 (x0 + (1 : Int))]) ([[(1, true,
 Blk.cols (List.length x1)
 [Col.bool fun j => bif Nat.beq j (Int.toNat x0) then false else S.at' x1 j]),
 (0, false,
 Blk.cols mr
 [Col.int IntKind.i64 tr, Col.int IntKind.i64 vr, Col.int IntKind.i64 gr]),
 (2, true,
 Blk.cells
 [PV.loose (PA.mk (0) (3) ar (0)) nr,
 PV.own (1) (1) (List.length x1)])]]) (5))
 (False))
 (False))
 (False)))
 (test (decide (v ≤ vr (Int.toNat x0 + ar)))
 (test (decide (v ≥ tr (Int.toNat x0 + ar)))
 (test (decide ((0 : Int) ≤ x0 ∧ x0 < (↑(List.length x1) : Int)))
 (test (decide (Int.toNat x0 < List.length x1))
 (test (lim IntKind.i64 (x0 + (1 : Int)))
 (Kst (hd Try.f70 0) ([PV.int IntKind.i64 v, PV.ptr (PA.mk (2) (0) (0) (0)),
 PV.loose (PA.mk (0) (3) ar (0)) nr, PV.int IntKind.i64 (↑nr : Int),
 PV.int IntKind.i64 (x0 + (1 : Int))]) ([[(1, true,
 Blk.cols (List.length x1)
 [Col.bool fun j => bif Nat.beq j (Int.toNat x0) then true else S.at' x1 j]),
 (0, false,
 Blk.cols mr
 [Col.int IntKind.i64 tr, Col.int IntKind.i64 vr, Col.int IntKind.i64 gr]),
 (2, true,
 Blk.cells
 [PV.loose (PA.mk (0) (3) ar (0)) nr,
 PV.own (1) (1) (List.length x1)])]]) (5))
 (False))
 (False))
 (False))
 (test (decide ((0 : Int) ≤ x0 ∧ x0 < (↑(List.length x1) : Int)))
 (test (decide (Int.toNat x0 < List.length x1))
 (test (lim IntKind.i64 (x0 + (1 : Int)))
 (Kst (hd Try.f70 0) ([PV.int IntKind.i64 v, PV.ptr (PA.mk (2) (0) (0) (0)),
 PV.loose (PA.mk (0) (3) ar (0)) nr, PV.int IntKind.i64 (↑nr : Int),
 PV.int IntKind.i64 (x0 + (1 : Int))]) ([[(1, true,
 Blk.cols (List.length x1)
 [Col.bool fun j => bif Nat.beq j (Int.toNat x0) then false else S.at' x1 j]),
 (0, false,
 Blk.cols mr
 [Col.int IntKind.i64 tr, Col.int IntKind.i64 vr, Col.int IntKind.i64 gr]),
 (2, true,
 Blk.cells
 [PV.loose (PA.mk (0) (3) ar (0)) nr,
 PV.own (1) (1) (List.length x1)])]]) (5))
 (False))
 (False))
 (False)))
 (test (lim IntKind.i64 (x0 + (1 : Int)))
 (Kst (hd Try.f70 0) ([PV.int IntKind.i64 v, PV.ptr (PA.mk (2) (0) (0) (0)),
 PV.loose (PA.mk (0) (3) ar (0)) nr, PV.int IntKind.i64 (↑nr : Int),
 PV.int IntKind.i64 (x0 + (1 : Int))]) ([[(1, true, Blk.cols (List.length x1) [Col.bool fun j => S.at' x1 j]),
 (0, false,
 Blk.cols mr
 [Col.int IntKind.i64 tr, Col.int IntKind.i64 vr, Col.int IntKind.i64 gr]),
 (2, true,
 Blk.cells
 [PV.loose (PA.mk (0) (3) ar (0)) nr,
 PV.own (1) (1) (List.length x1)])]]) (5))
 (False))))
 (False))
 (False))
 (False))
 (False))
 (Kret (PV.tup []) ([[(1, true, Blk.cols (List.length x1) [Col.bool fun j => S.at' x1 j]),
 (0, false,
 Blk.cols mr
 [Col.int IntKind.i64 tr, Col.int IntKind.i64 vr, Col.int IntKind.i64 gr])]]) (3))
theorem t44_0 (test : Bool → Prop → Prop → Prop) (Kst : KS) (Kret : KR) (ar nr mr : Nat) (tr : Nat → Int) (vr : Nat → Int) (gr : Nat → Int) (no mo : Nat) (to : Nat → Bool) (v : Int) (x0 : Int) (x1 : List Bool) : run test Try.env true noX true 400 ⟨70, hd Try.f70 0, zipT [1, 2, 7, 8, 9] [PV.int IntKind.i64 v, PV.ptr (PA.mk (2) (0) (0) (0)),
 PV.loose (PA.mk (0) (3) ar (0)) nr, PV.int IntKind.i64 (↑nr : Int),
 PV.int IntKind.i64 x0], [[(2, (true, Blk.cells
 [PV.loose (PA.mk (0) (3) ar (0)) nr,
 PV.own (1) (1) (List.length x1)]))], [(0, (false, .cols mr [.int .i64 tr, .int .i64 vr, .int .i64 gr])), (1, (true, Blk.cols (List.length x1) [Col.bool fun j => S.at' x1 j]))]], 3⟩ (proj 2 [1, 2, 7, 8, 9] Kst Kret) =
  T44_0 test Kst Kret ar nr mr tr vr gr no mo to v x0 x1 := by kernel_rfl
theorem be44 (ar nr mr : Nat) (tr : Nat → Int) (vr : Nat → Int) (gr : Nat → Int) (no mo : Nat) (to : Nat → Bool) (v : Int) (Kst : KS) (Kret : KR) (x : St44 ⊕ Rt44) (hS : HS 2 400 ((I44 ar nr mr tr vr gr no mo to v)) Kst x) (hR : HR 2 400 ((V44 ar nr mr tr vr gr no mo to v)) (fun r => [newL (2 + 1) ((N44 ar nr mr tr vr gr no mo to v) r) ++ [(0, (false, .cols mr [.int .i64 tr, .int .i64 vr, .int .i64 gr])), (1, (true, ((W44 ar nr mr tr vr gr no mo to v) r 1)))]]) Kret x) (h : (some (.inl (.h0 ((0 : Int)) (S.mkl no fun j => to j))) : Option (St44 ⊕ Rt44)) = some x) : Te44 cond Kst Kret ar nr mr tr vr gr no mo to v := by
  unfold Te44
  exact stop_at hS _ h (fun n => bif Nat.beq n 2 then 2 else n) rfl rfl rfl ⟨(rn_int rfl), ⟨(rn_ptr (use_own rfl) rfl rfl), ⟨(rn_loose (use_lo rfl) rfl rfl rfl), ⟨(rn_int rfl), ⟨(rn_int rfl), trivial⟩⟩⟩⟩⟩ rfl (entl_b (use_own rfl) rfl (by simp) (rb_cells ⟨(rn_loose (use_lo rfl) rfl rfl rfl), (rn_own (use_lo rfl) rfl mkl_len), trivial⟩) (entl_bor (use_lo rfl) rfl rfl (entl_new (use_lo rfl) rfl (Nat.le_of_eq mkl_len) (rcs_bool (fun _ hj => col_mkl (fun (t : Bool) => t) hj) rcs_nil) entl_nil)))
theorem b44_0 (ar nr mr : Nat) (tr : Nat → Int) (vr : Nat → Int) (gr : Nat → Int) (no mo : Nat) (to : Nat → Bool) (v : Int) (Kst : KS) (Kret : KR) (x : St44 ⊕ Rt44) (hS : HS 2 400 ((I44 ar nr mr tr vr gr no mo to v)) Kst x) (hR : HR 2 400 ((V44 ar nr mr tr vr gr no mo to v)) (fun r => [newL (2 + 1) ((N44 ar nr mr tr vr gr no mo to v) r) ++ [(0, (false, .cols mr [.int .i64 tr, .int .i64 vr, .int .i64 gr])), (1, (true, ((W44 ar nr mr tr vr gr no mo to v) r 1)))]]) Kret x) (x0 : Int) (x1 : List Bool) (h : (bif (decide (x0 < (↑nr : Int)))
 then (bif (decide ((0 : Int) ≤ x0 ∧ x0 < (↑nr : Int)))
 then (bif (decide (Int.toNat x0 + ar < mr))
 then (bif (decide (v ≥ tr (Int.toNat x0 + ar)))
 then (bif (decide ((0 : Int) ≤ x0 ∧ x0 < (↑(List.length x1) : Int)))
 then (bif (decide (Int.toNat x0 < List.length x1))
 then (bif (lim IntKind.i64 (x0 + (1 : Int)))
 then (some (.inl (.h0 (x0 + (1 : Int)) (S.mkl (List.length x1) fun j => bif Nat.beq j (Int.toNat x0) then true else S.at' x1 j))))
 else (none))
 else (none))
 else (none))
 else (bif (decide (v ≤ vr (Int.toNat x0 + ar)))
 then (bif (decide ((0 : Int) ≤ x0 ∧ x0 < (↑(List.length x1) : Int)))
 then (bif (decide (Int.toNat x0 < List.length x1))
 then (bif (lim IntKind.i64 (x0 + (1 : Int)))
 then (some (.inl (.h0 (x0 + (1 : Int)) (S.mkl (List.length x1) fun j => bif Nat.beq j (Int.toNat x0) then false else S.at' x1 j))))
 else (none))
 else (none))
 else (none))
 else (bif (lim IntKind.i64 (x0 + (1 : Int)))
 then (some (.inl (.h0 (x0 + (1 : Int)) (x1))))
 else (none))))
 else (none))
 else (none))
 else (some (.inr (x1))) : Option (St44 ⊕ Rt44)) = some x) : T44_0 cond Kst Kret ar nr mr tr vr gr no mo to v x0 x1 := by
  unfold T44_0
  exact bif_split h
   (fun c0 h => bif_split h
   (fun c1 h => bif_split h
   (fun c2 h => cond_yes c2 (cond_yes c2 (bif_split h
   (fun c3 h => cond_yes c3 (bif_split h
   (fun c4 h => bif_split h
   (fun c5 h => bif_split h
   (fun c6 h => stop_at hS _ h (fun n => bif Nat.beq n 2 then 2 else n) rfl rfl rfl ⟨(rn_int rfl), ⟨(rn_ptr (use_own rfl) rfl rfl), ⟨(rn_loose (use_lo rfl) rfl rfl rfl), ⟨(rn_int rfl), ⟨(rn_int rfl), trivial⟩⟩⟩⟩⟩ rfl (entl_b (use_own rfl) rfl (by simp) (rb_cells ⟨(rn_loose (use_lo rfl) rfl rfl rfl), (rn_own (use_lo rfl) rfl mkl_len), trivial⟩) (entl_bor (use_lo rfl) rfl rfl (entl_new (use_lo rfl) rfl (Nat.le_of_eq mkl_len) (rcs_bool (fun _ hj => col_mkl (fun (t : Bool) => t) hj) rcs_nil) entl_nil))))
   (fun c6 h => no_some h))
   (fun c5 h => no_some h))
   (fun c4 h => no_some h)))
   (fun c3 h => bif_split h
   (fun c4 h => cond_no c3 (bif_split h
   (fun c5 h => bif_split h
   (fun c6 h => bif_split h
   (fun c7 h => stop_at hS _ h (fun n => bif Nat.beq n 2 then 2 else n) rfl rfl rfl ⟨(rn_int rfl), ⟨(rn_ptr (use_own rfl) rfl rfl), ⟨(rn_loose (use_lo rfl) rfl rfl rfl), ⟨(rn_int rfl), ⟨(rn_int rfl), trivial⟩⟩⟩⟩⟩ rfl (entl_b (use_own rfl) rfl (by simp) (rb_cells ⟨(rn_loose (use_lo rfl) rfl rfl rfl), (rn_own (use_lo rfl) rfl mkl_len), trivial⟩) (entl_bor (use_lo rfl) rfl rfl (entl_new (use_lo rfl) rfl (Nat.le_of_eq mkl_len) (rcs_bool (fun _ hj => col_mkl (fun (t : Bool) => t) hj) rcs_nil) entl_nil))))
   (fun c7 h => no_some h))
   (fun c6 h => no_some h))
   (fun c5 h => no_some h)))
   (fun c4 h => bif_split h
   (fun c5 h => stop_at hS _ h (fun n => bif Nat.beq n 2 then 2 else n) rfl rfl rfl ⟨(rn_int rfl), ⟨(rn_ptr (use_own rfl) rfl rfl), ⟨(rn_loose (use_lo rfl) rfl rfl rfl), ⟨(rn_int rfl), ⟨(rn_int rfl), trivial⟩⟩⟩⟩⟩ rfl (entl_b (use_own rfl) rfl (by simp) (rb_cells ⟨(rn_loose (use_lo rfl) rfl rfl rfl), (rn_own (use_lo rfl) rfl rfl), trivial⟩) (entl_bor (use_lo rfl) rfl rfl (entl_new (use_lo rfl) rfl (Nat.le_of_eq rfl) (rcs_bool (fun _ _ => rfl) rcs_nil) entl_nil))))
   (fun c5 h => no_some h))))))
   (fun c2 h => no_some h))
   (fun c1 h => no_some h))
   (fun c0 h => ret_at hR _ h (fun n => n) rfl rfl rfl (rn_tup trivial) rfl (entl_bor (use_lo rfl) rfl rfl (entl_new (use_lo rfl) rfl (Nat.le_of_eq rfl) (rcs_bool (fun _ _ => rfl) rcs_nil) entl_nil)))
theorem a44 (ar nr mr : Nat) (tr : Nat → Int) (vr : Nat → Int) (gr : Nat → Int) (no mo : Nat) (to : Nat → Bool) (v : Int) {r : Rt44} (h : Goes ((q44 ar nr mr tr vr gr no mo to v)) ((p44 ar nr mr tr vr gr no mo to v)) r) : CallR Try.prog 70 [.agg [.loose ⟨0, 3, ar, 0⟩ nr, .own 1 1 no], .int .i64 v] [[(0, (false, .cols mr [.int .i64 tr, .int .i64 vr, .int .i64 gr])), (1, (true, .cols no [.bool to]))]] 2 ((V44 ar nr mr tr vr gr no mo to v) r) ((fun r => [newL (2 + 1) ((N44 ar nr mr tr vr gr no mo to v) r) ++ [(0, (false, .cols mr [.int .i64 tr, .int .i64 vr, .int .i64 gr])), (1, (true, ((W44 ar nr mr tr vr gr no mo to v) r 1)))]]) r) 400 ∧ ∃ F, Try.prog.funcs[70]? = some F ∧ F.body.isSome = true ∧ (F.name == "runtime.NumGoroutine") = false := by
  refine dec_calls (f := 70) (lo := 2) (hi := 400) (H := [[(0, (false, .cols mr [.int .i64 tr, .int .i64 vr, .int .i64 gr])), (1, (true, .cols no [.bool to]))]]) (args := [.agg [.loose ⟨0, 3, ar, 0⟩ nr, .own 1 1 no], .int .i64 v]) Try.envOk Try.mixed noX_ok ((I44 ar nr mr tr vr gr no mo to v)) ((V44 ar nr mr tr vr gr no mo to v)) (fun r => [newL (2 + 1) ((N44 ar nr mr tr vr gr no mo to v) r) ++ [(0, (false, .cols mr [.int .i64 tr, .int .i64 vr, .int .i64 gr])), (1, (true, ((W44 ar nr mr tr vr gr no mo to v) r 1)))]]) (fn := mkFn Try.f70) (ts := [1, 2, 7, 8, 9]) (n := 400) rfl (by decide) (by simp) (names_of rfl) ?_ ?_ ?_ h
  · intro s; cases s <;> exact ⟨hd_ok _ _, by simp [I44], names_of rfl, Nat.le_of_ble_eq_true rfl⟩
  · intro Kst Kret x hS hR h
    exact Holds.eq (te44 cond Kst Kret ar nr mr tr vr gr no mo to v) (be44 ar nr mr tr vr gr no mo to v Kst Kret x hS hR h)
  · intro Kst Kret x hS hR s h
    cases s with
    | h0 x0 x1 => exact Holds.eq (t44_0 cond Kst Kret ar nr mr tr vr gr no mo to v x0 x1) (b44_0 ar nr mr tr vr gr no mo to v Kst Kret x hS hR x0 x1 h)
noncomputable def k44 : Con := ⟨70, [.agg [.list [.int .i64, .int .i64, .int .i64], .own [.bool]], .one (.plain (.int .i64))], fun (x : ((Nat × Nat × Nat × (Nat → Int) × (Nat → Int) × (Nat → Int) × Unit) × (Nat × Nat × (Nat → Bool) × Unit) × Unit) × Int × Unit) => (fun (ar nr mr : Nat) (tr : Nat → Int) (vr : Nat → Int) (gr : Nat → Int) (no mo : Nat) (to : Nat → Bool) (v : Int) => decide (ar + nr ≤ mr ∧ nr ≤ 1000000 ∧ no = nr)) x.1.1.1 x.1.1.2.1 x.1.1.2.2.1 x.1.1.2.2.2.1 x.1.1.2.2.2.2.1 x.1.1.2.2.2.2.2.1 x.1.2.1.1 x.1.2.1.2.1 x.1.2.1.2.2.1 x.2.1, fun (x : ((Nat × Nat × Nat × (Nat → Int) × (Nat → Int) × (Nat → Int) × Unit) × (Nat × Nat × (Nat → Bool) × Unit) × Unit) × Int × Unit) => (fun (ar nr mr : Nat) (tr : Nat → Int) (vr : Nat → Int) (gr : Nat → Int) (no mo : Nat) (to : Nat → Bool) (v : Int) => (V44 ar nr mr tr vr gr no mo to v) (S.mkl no fun j => S.aft (tr (j + ar)) (vr (j + ar)) (to j) v)) x.1.1.1 x.1.1.2.1 x.1.1.2.2.1 x.1.1.2.2.2.1 x.1.1.2.2.2.2.1 x.1.1.2.2.2.2.2.1 x.1.2.1.1 x.1.2.1.2.1 x.1.2.1.2.2.1 x.2.1, fun (x : ((Nat × Nat × Nat × (Nat → Int) × (Nat → Int) × (Nat → Int) × Unit) × (Nat × Nat × (Nat → Bool) × Unit) × Unit) × Int × Unit) => (fun (ar nr mr : Nat) (tr : Nat → Int) (vr : Nat → Int) (gr : Nat → Int) (no mo : Nat) (to : Nat → Bool) (v : Int) => (N44 ar nr mr tr vr gr no mo to v) (S.mkl no fun j => S.aft (tr (j + ar)) (vr (j + ar)) (to j) v)) x.1.1.1 x.1.1.2.1 x.1.1.2.2.1 x.1.1.2.2.2.1 x.1.1.2.2.2.2.1 x.1.1.2.2.2.2.2.1 x.1.2.1.1 x.1.2.1.2.1 x.1.2.1.2.2.1 x.2.1, fun (x : ((Nat × Nat × Nat × (Nat → Int) × (Nat → Int) × (Nat → Int) × Unit) × (Nat × Nat × (Nat → Bool) × Unit) × Unit) × Int × Unit) => (fun (ar nr mr : Nat) (tr : Nat → Int) (vr : Nat → Int) (gr : Nat → Int) (no mo : Nat) (to : Nat → Bool) (v : Int) => (W44 ar nr mr tr vr gr no mo to v) (S.mkl no fun j => S.aft (tr (j + ar)) (vr (j + ar)) (to j) v)) x.1.1.1 x.1.1.2.1 x.1.1.2.2.1 x.1.1.2.2.2.1 x.1.1.2.2.2.2.1 x.1.1.2.2.2.2.2.1 x.1.2.1.1 x.1.2.1.2.1 x.1.2.1.2.2.1 x.2.1⟩
theorem any_succ {p : Nat → Bool} {n : Nat} : S.any p (n + 1) = (S.any p n || p n) := by simp [S.any, List.range_succ]
theorem s44' (ar nr mr : Nat) (tr : Nat → Int) (vr : Nat → Int) (gr : Nat → Int) (no mo : Nat) (to : Nat → Bool) (v : Int) (hp : ar + nr ≤ mr ∧ nr ≤ 1000000 ∧ no = nr) : ∀ (k i : Nat) (l : List Bool), i + k = nr → Holds (l = (S.mkl no fun j => if j < i then S.aft (tr (j + ar)) (vr (j + ar)) (to j) v else to j)) → Comes (q44 ar nr mr tr vr gr no mo to v) (.h0 (i : Int) l) (S.mkl no fun j => S.aft (tr (j + ar)) (vr (j + ar)) (to j) v) := by
  obtain ⟨hp1, hp2, hp3⟩ := hp
  intro k
  induction k with
  | zero =>
    intro i l hi el
    have hl : l.length = no := by rw [el.get]; exact mkl_len
    apply Comes.of
    show Goes _ _ _
    (first | rw [q44] | unfold q44)
    repeat' first
      | with_reducible refine goes_if (fun h => ?_) (fun h => ?_) <;> (try simp only [lim64, imp_false, decide_eq_true_eq, decide_eq_false_iff_not, Int.toNat_natCast, toNat_pred, toNat_succ, Option.getD_some, Option.getD_none, Bool.not_eq_true', Bool.not_eq_false', Bool.and_eq_true, Bool.or_eq_true, Bool.and_eq_false_iff, Bool.or_eq_false_iff, bne_iff_ne, beq_iff_eq, bne_eq_false_iff_eq, beq_eq_false_iff_ne, ne_eq, not_and, Int.not_le, Int.not_lt, ge_iff_le, gt_iff_lt, Nat.not_lt, Nat.not_le, Bool.not_eq_true, Bool.not_eq_false, Bool.true_eq_false, Bool.false_eq_true, not_false_eq_true, not_true_eq_false] at h)
      | exact goes_none.mpr (by omega)
    all_goals first | (exfalso; omega) | (obtain rfl : nr = i := (by omega);  refine goes_inr.mpr ?_; rw [el.get]; exact mkl_congr fun j hj => if_pos (by omega))
  | succ k ih =>
    intro i l hi el
    have hl : l.length = no := by rw [el.get]; exact mkl_len
    apply Comes.of
    show Goes _ _ _
    (first | rw [q44] | unfold q44)
    repeat' first
      | with_reducible refine goes_if (fun h => ?_) (fun h => ?_) <;> (try simp only [lim64, imp_false, decide_eq_true_eq, decide_eq_false_iff_not, Int.toNat_natCast, toNat_pred, toNat_succ, Option.getD_some, Option.getD_none, Bool.not_eq_true', Bool.not_eq_false', Bool.and_eq_true, Bool.or_eq_true, Bool.and_eq_false_iff, Bool.or_eq_false_iff, bne_iff_ne, beq_iff_eq, bne_eq_false_iff_eq, beq_eq_false_iff_ne, ne_eq, not_and, Int.not_le, Int.not_lt, ge_iff_le, gt_iff_lt, Nat.not_lt, Nat.not_le, Bool.not_eq_true, Bool.not_eq_false, Bool.true_eq_false, Bool.false_eq_true, not_false_eq_true, not_true_eq_false] at h)
      | exact goes_none.mpr (by omega)
    all_goals first
      | (exfalso; omega)
      | (refine ih (i + 1) _ (by omega) ⟨?_⟩; rw [hl, el.get]; exact upd_step (by unfold S.aft; simp only [Bool.cond_eq_ite, decide_eq_true_eq, Int.toNat_natCast]; (repeat' split) <;> first | rfl | omega)) | (refine ih (i + 1) _ (by omega) ⟨?_⟩; rw [el.get]; exact same_step (by unfold S.aft; simp only [Bool.cond_eq_ite, decide_eq_true_eq, Int.toNat_natCast]; (repeat' split) <;> first | rfl | omega))
      | (refine ih (i + 1) _ (by omega) ⟨?_⟩ <;> (simp only [Bool.cond_eq_ite, decide_eq_true_eq, ← el.get]; (repeat' split) <;> first | rfl | omega | (exfalso; omega) | (exfalso; simp_all; done) | (exfalso; simp_all; omega) | simp_all))
theorem s44 (ar nr mr : Nat) (tr : Nat → Int) (vr : Nat → Int) (gr : Nat → Int) (no mo : Nat) (to : Nat → Bool) (v : Int) (hp : ar + nr ≤ mr ∧ nr ≤ 1000000 ∧ no = nr) : Goes ((q44 ar nr mr tr vr gr no mo to v)) ((p44 ar nr mr tr vr gr no mo to v)) (S.mkl no fun j => S.aft (tr (j + ar)) (vr (j + ar)) (to j) v) := by
  have hm := s44' ar nr mr tr vr gr no mo to v hp nr 0 (S.mkl no fun j => to j) (by omega) ⟨upd_none⟩
  show Goes _ _ _
  unfold p44
  repeat' first
    | with_reducible refine goes_if (fun h => ?_) (fun h => ?_) <;> (try simp only [lim64, imp_false, decide_eq_true_eq, decide_eq_false_iff_not, Int.toNat_natCast, toNat_pred, toNat_succ, Option.getD_some, Option.getD_none, Bool.not_eq_true', Bool.not_eq_false', Bool.and_eq_true, Bool.or_eq_true, Bool.and_eq_false_iff, Bool.or_eq_false_iff, bne_iff_ne, beq_iff_eq, bne_eq_false_iff_eq, beq_eq_false_iff_ne, ne_eq, not_and, Int.not_le, Int.not_lt, ge_iff_le, gt_iff_lt, Nat.not_lt, Nat.not_le, Bool.not_eq_true, Bool.not_eq_false, Bool.true_eq_false, Bool.false_eq_true, not_false_eq_true, not_true_eq_false] at h)
    | exact goes_none.mpr (by omega)
  all_goals first | (exfalso; omega) | exact hm
theorem k44_ok : k44.ok Try.prog := by
  intro x hx
  obtain ⟨⟨⟨ar, nr, mr, tr, vr, gr, _⟩, ⟨no, mo, to, _⟩, _⟩, v, _⟩ := x
  obtain ⟨h1, h2⟩ := a44 ar nr mr tr vr gr no mo to v (s44 ar nr mr tr vr gr no mo to v (of_dec hx rfl))
  exact ⟨⟨400, (by decide : 2 + 1 + 0 ≤ 400), h1⟩, h2⟩
noncomputable def xC (test : Bool → Prop → Prop → Prop) : Ext := consX test [k21, k22, k25, k37, k38, k42, k45, k28, k49, k44, k17, k18]
theorem xC_ok : ExtOk Try.prog (xC cond) := consX_ok ⟨k21_ok, k22_ok, k25_ok, k37_ok, k38_ok, k42_ok, k45_ok, k28_ok, k49_ok, k44_ok, k17_ok, k18_ok, trivial⟩
inductive St34 where
  | h0 (x0 : Int)
abbrev Rt34 := Bool × Int
noncomputable def V34 (ar nr mr : Nat) (tr : Nat → Int) (vr : Nat → Int) (gr : Nat → Int) (ao no mo : Nat) (to : Nat → Bool) (al nl ml : Nat) (tl : Nat → Int) (r : Rt34) : PV := PV.tup [PV.bool r.1, PV.int IntKind.i64 r.2]
noncomputable def N34 (ar nr mr : Nat) (tr : Nat → Int) (vr : Nat → Int) (gr : Nat → Int) (ao no mo : Nat) (to : Nat → Bool) (al nl ml : Nat) (tl : Nat → Int) (r : Rt34) : List Blk := []
noncomputable def I34 (ar nr mr : Nat) (tr : Nat → Int) (vr : Nat → Int) (gr : Nat → Int) (ao no mo : Nat) (to : Nat → Bool) (al nl ml : Nat) (tl : Nat → Int) : St34 → Hd
  | .h0 x0 => ⟨hd Try.f43 0, [PV.loose (PA.mk (2) (1) al (0)) nl,
 PV.loose (PA.mk (0) (3) ar (0)) nr, PV.int IntKind.i64 (↑nr : Int),
 PV.int IntKind.i64 x0], [[], [(0, (false, .cols mr [.int .i64 tr, .int .i64 vr, .int .i64 gr])), (1, (false, .cols mo [.bool to])), (2, (false, .cols ml [.int .i64 tl]))]], 3⟩
noncomputable def q34 (ar nr mr : Nat) (tr : Nat → Int) (vr : Nat → Int) (gr : Nat → Int) (ao no mo : Nat) (to : Nat → Bool) (al nl ml : Nat) (tl : Nat → Int) : St34 → Option (St34 ⊕ Rt34)
  | .h0 x0 => bif (decide (x0 < (↑nr : Int)))
 then (bif (decide ((0 : Int) ≤ x0 ∧ x0 < (↑nr : Int)))
 then (bif (decide (Int.toNat x0 + ar < mr))
 then (bif (decide (al + nl ≤ ml ∧ nl ≤ 1000000))
 then (bif (S.any
 (fun j => decide (tl (j + al) ≥ tr (Int.toNat x0 + ar) ∨ tl (j + al) ≤ vr (Int.toNat x0 + ar))) nl)
 then (bif (lim IntKind.i64 (x0 + (1 : Int)))
 then (some (.inl (.h0 (x0 + (1 : Int)))))
 else (none))
 else (some (.inr (false, (0 : Int)))))
 else (none))
 else (none))
 else (none))
 else (some (.inr (true, (0 : Int))))
noncomputable def p34 (ar nr mr : Nat) (tr : Nat → Int) (vr : Nat → Int) (gr : Nat → Int) (ao no mo : Nat) (to : Nat → Bool) (al nl ml : Nat) (tl : Nat → Int) : Option (St34 ⊕ Rt34) := bif (decide (ar + nr ≤ mr ∧ nr ≤ 1000000 ∧ al + nl ≤ ml ∧ nl ≤ 1000000))
 then (bif ((S.histE nr (fun j => tr (j + ar)) (fun j => vr (j + ar)) (fun j => gr (j + ar)) no nl
 fun j => tl (j + al)) !=
 (0 : Int))
 then (some (.inr (false, S.histE nr (fun j => tr (j + ar)) (fun j => vr (j + ar)) (fun j => gr (j + ar)) no nl
 fun j => tl (j + al))))
 else (some (.inl (.h0 ((0 : Int))))))
 else (none)
noncomputable def Te34 (test : Bool → Prop → Prop → Prop) (Kst : KS) (Kret : KR) (ar nr mr : Nat) (tr : Nat → Int) (vr : Nat → Int) (gr : Nat → Int) (ao no mo : Nat) (to : Nat → Bool) (al nl ml : Nat) (tl : Nat → Int) : Prop :=
  test (decide (ar + nr ≤ mr ∧ nr ≤ 1000000 ∧ al + nl ≤ ml ∧ nl ≤ 1000000))
 (test ((S.histE nr (fun j => tr (j + ar)) (fun j => vr (j + ar)) (fun j => gr (j + ar)) no nl
 fun j => tl (j + al)) !=
 (0 : Int))
 (Kret (PV.tup
 [PV.tf false,
 PV.int IntKind.i64
 (S.histE nr (fun j => tr (j + ar)) (fun j => vr (j + ar)) (fun j => gr (j + ar)) no
 nl fun j => tl (j + al))]) ([[(2, false, Blk.cols ml [Col.int IntKind.i64 tl]),
 (1, false, Blk.cols mo [Col.bool to]),
 (0, false,
 Blk.cols mr
 [Col.int IntKind.i64 tr, Col.int IntKind.i64 vr, Col.int IntKind.i64 gr])]]) (5))
 (Kst (hd Try.f43 0) ([PV.loose (PA.mk (2) (1) al (0)) nl,
 PV.loose (PA.mk (0) (3) ar (0)) nr, PV.int IntKind.i64 (↑nr : Int),
 PV.int IntKind.i64 (0 : Int)]) ([[(2, false, Blk.cols ml [Col.int IntKind.i64 tl]),
 (1, false, Blk.cols mo [Col.bool to]),
 (0, false,
 Blk.cols mr
 [Col.int IntKind.i64 tr, Col.int IntKind.i64 vr, Col.int IntKind.i64 gr])]]) (5)))
 (False)
theorem te34 (test : Bool → Prop → Prop → Prop) (Kst : KS) (Kret : KR) (ar nr mr : Nat) (tr : Nat → Int) (vr : Nat → Int) (gr : Nat → Int) (ao no mo : Nat) (to : Nat → Bool) (al nl ml : Nat) (tl : Nat → Int) : run test Try.env true (xC test) true 400 ⟨43, [.cd (mkFn Try.f43).body], argT 0 [.agg [.loose ⟨0, 3, ar, 0⟩ nr, .loose ⟨1, 1, ao, 0⟩ no], .loose ⟨2, 1, al, 0⟩ nl], [[], [(0, (false, .cols mr [.int .i64 tr, .int .i64 vr, .int .i64 gr])), (1, (false, .cols mo [.bool to])), (2, (false, .cols ml [.int .i64 tl]))]], 3⟩ (proj 3 [1, 16, 17, 18] Kst Kret) =
  Te34 test Kst Kret ar nr mr tr vr gr ao no mo to al nl ml tl := by kernel_rfl
noncomputable def T34_0 (test : Bool → Prop → Prop → Prop) (Kst : KS) (Kret : KR) (ar nr mr : Nat) (tr : Nat → Int) (vr : Nat → Int) (gr : Nat → Int) (ao no mo : Nat) (to : Nat → Bool) (al nl ml : Nat) (tl : Nat → Int) (x0 : Int) : Prop :=
  test (decide (x0 < (↑nr : Int)))
 (test (decide ((0 : Int) ≤ x0 ∧ x0 < (↑nr : Int)))
 (test (decide (Int.toNat x0 + ar < mr))
 (test (decide (Int.toNat x0 + ar < mr))
 (test (decide (Int.toNat x0 + ar < mr))
 (test (decide (al + nl ≤ ml ∧ nl ≤ 1000000))
 (test (S.any
 (fun j => decide (tl (j + al) ≥ tr (Int.toNat x0 + ar) ∨ tl (j + al) ≤ vr (Int.toNat x0 + ar))) nl)
 (test (lim IntKind.i64 (x0 + (1 : Int)))
 (Kst (hd Try.f43 0) ([PV.loose (PA.mk (2) (1) al (0)) nl,
 PV.loose (PA.mk (0) (3) ar (0)) nr, PV.int IntKind.i64 (↑nr : Int),
 PV.int IntKind.i64 (x0 + (1 : Int))]) ([[(2, false, Blk.cols ml [Col.int IntKind.i64 tl]),
 (1, false, Blk.cols mo [Col.bool to]),
 (0, false,
 Blk.cols mr
 [Col.int IntKind.i64 tr, Col.int IntKind.i64 vr, Col.int IntKind.i64 gr])]]) (5))
 (False))
 (Kret (PV.tup [PV.tf false, PV.int IntKind.i64 (0 : Int)]) ([[(2, false, Blk.cols ml [Col.int IntKind.i64 tl]),
 (1, false, Blk.cols mo [Col.bool to]),
 (0, false,
 Blk.cols mr
 [Col.int IntKind.i64 tr, Col.int IntKind.i64 vr, Col.int IntKind.i64 gr])]]) (5)))
 (False))
 (False))
 (False))
 (False))
 (False))
 (Kret (PV.tup [PV.tf true, PV.int IntKind.i64 (0 : Int)]) ([[(2, false, Blk.cols ml [Col.int IntKind.i64 tl]),
 (1, false, Blk.cols mo [Col.bool to]),
 (0, false,
 Blk.cols mr
 [Col.int IntKind.i64 tr, Col.int IntKind.i64 vr, Col.int IntKind.i64 gr])]]) (3))
theorem t34_0 (test : Bool → Prop → Prop → Prop) (Kst : KS) (Kret : KR) (ar nr mr : Nat) (tr : Nat → Int) (vr : Nat → Int) (gr : Nat → Int) (ao no mo : Nat) (to : Nat → Bool) (al nl ml : Nat) (tl : Nat → Int) (x0 : Int) : run test Try.env true (xC test) true 400 ⟨43, hd Try.f43 0, zipT [1, 16, 17, 18] [PV.loose (PA.mk (2) (1) al (0)) nl,
 PV.loose (PA.mk (0) (3) ar (0)) nr, PV.int IntKind.i64 (↑nr : Int),
 PV.int IntKind.i64 x0], [[], [(0, (false, .cols mr [.int .i64 tr, .int .i64 vr, .int .i64 gr])), (1, (false, .cols mo [.bool to])), (2, (false, .cols ml [.int .i64 tl]))]], 3⟩ (proj 3 [1, 16, 17, 18] Kst Kret) =
  T34_0 test Kst Kret ar nr mr tr vr gr ao no mo to al nl ml tl x0 := by kernel_rfl
theorem be34 (ar nr mr : Nat) (tr : Nat → Int) (vr : Nat → Int) (gr : Nat → Int) (ao no mo : Nat) (to : Nat → Bool) (al nl ml : Nat) (tl : Nat → Int) (Kst : KS) (Kret : KR) (x : St34 ⊕ Rt34) (hS : HS 3 400 ((I34 ar nr mr tr vr gr ao no mo to al nl ml tl)) Kst x) (hR : HR 3 400 ((V34 ar nr mr tr vr gr ao no mo to al nl ml tl)) (fun r => [newL (3 + 1) ((N34 ar nr mr tr vr gr ao no mo to al nl ml tl) r) ++ [(0, (false, .cols mr [.int .i64 tr, .int .i64 vr, .int .i64 gr])), (1, (false, .cols mo [.bool to])), (2, (false, .cols ml [.int .i64 tl]))]]) Kret x) (h : (bif (decide (ar + nr ≤ mr ∧ nr ≤ 1000000 ∧ al + nl ≤ ml ∧ nl ≤ 1000000))
 then (bif ((S.histE nr (fun j => tr (j + ar)) (fun j => vr (j + ar)) (fun j => gr (j + ar)) no nl
 fun j => tl (j + al)) !=
 (0 : Int))
 then (some (.inr (false, S.histE nr (fun j => tr (j + ar)) (fun j => vr (j + ar)) (fun j => gr (j + ar)) no nl
 fun j => tl (j + al))))
 else (some (.inl (.h0 ((0 : Int))))))
 else (none) : Option (St34 ⊕ Rt34)) = some x) : Te34 cond Kst Kret ar nr mr tr vr gr ao no mo to al nl ml tl := by
  unfold Te34
  exact bif_split h
   (fun c0 h => bif_split h
   (fun c1 h => ret_at hR _ h (fun n => n) rfl rfl rfl (rn_tup ⟨(rn_bool_tf rfl), (rn_int rfl), trivial⟩) rfl (entl_bor (use_lo rfl) rfl rfl (entl_bor (use_lo rfl) rfl rfl (entl_bor (use_lo rfl) rfl rfl entl_nil))))
   (fun c1 h => stop_at hS _ h (fun n => n) rfl rfl rfl ⟨(rn_loose (use_lo rfl) rfl rfl rfl), ⟨(rn_loose (use_lo rfl) rfl rfl rfl), ⟨(rn_int rfl), ⟨(rn_int rfl), trivial⟩⟩⟩⟩ rfl (entl_bor (use_lo rfl) rfl rfl (entl_bor (use_lo rfl) rfl rfl (entl_bor (use_lo rfl) rfl rfl entl_nil)))))
   (fun c0 h => no_some h)
theorem b34_0 (ar nr mr : Nat) (tr : Nat → Int) (vr : Nat → Int) (gr : Nat → Int) (ao no mo : Nat) (to : Nat → Bool) (al nl ml : Nat) (tl : Nat → Int) (Kst : KS) (Kret : KR) (x : St34 ⊕ Rt34) (hS : HS 3 400 ((I34 ar nr mr tr vr gr ao no mo to al nl ml tl)) Kst x) (hR : HR 3 400 ((V34 ar nr mr tr vr gr ao no mo to al nl ml tl)) (fun r => [newL (3 + 1) ((N34 ar nr mr tr vr gr ao no mo to al nl ml tl) r) ++ [(0, (false, .cols mr [.int .i64 tr, .int .i64 vr, .int .i64 gr])), (1, (false, .cols mo [.bool to])), (2, (false, .cols ml [.int .i64 tl]))]]) Kret x) (x0 : Int) (h : (bif (decide (x0 < (↑nr : Int)))
 then (bif (decide ((0 : Int) ≤ x0 ∧ x0 < (↑nr : Int)))
 then (bif (decide (Int.toNat x0 + ar < mr))
 then (bif (decide (al + nl ≤ ml ∧ nl ≤ 1000000))
 then (bif (S.any
 (fun j => decide (tl (j + al) ≥ tr (Int.toNat x0 + ar) ∨ tl (j + al) ≤ vr (Int.toNat x0 + ar))) nl)
 then (bif (lim IntKind.i64 (x0 + (1 : Int)))
 then (some (.inl (.h0 (x0 + (1 : Int)))))
 else (none))
 else (some (.inr (false, (0 : Int)))))
 else (none))
 else (none))
 else (none))
 else (some (.inr (true, (0 : Int)))) : Option (St34 ⊕ Rt34)) = some x) : T34_0 cond Kst Kret ar nr mr tr vr gr ao no mo to al nl ml tl x0 := by
  unfold T34_0
  exact bif_split h
   (fun c0 h => bif_split h
   (fun c1 h => bif_split h
   (fun c2 h => cond_yes c2 (cond_yes c2 (bif_split h
   (fun c3 h => bif_split h
   (fun c4 h => bif_split h
   (fun c5 h => stop_at hS _ h (fun n => n) rfl rfl rfl ⟨(rn_loose (use_lo rfl) rfl rfl rfl), ⟨(rn_loose (use_lo rfl) rfl rfl rfl), ⟨(rn_int rfl), ⟨(rn_int rfl), trivial⟩⟩⟩⟩ rfl (entl_bor (use_lo rfl) rfl rfl (entl_bor (use_lo rfl) rfl rfl (entl_bor (use_lo rfl) rfl rfl entl_nil))))
   (fun c5 h => no_some h))
   (fun c4 h => ret_at hR _ h (fun n => n) rfl rfl rfl (rn_tup ⟨(rn_bool_tf rfl), (rn_int rfl), trivial⟩) rfl (entl_bor (use_lo rfl) rfl rfl (entl_bor (use_lo rfl) rfl rfl (entl_bor (use_lo rfl) rfl rfl entl_nil)))))
   (fun c3 h => no_some h))))
   (fun c2 h => no_some h))
   (fun c1 h => no_some h))
   (fun c0 h => ret_at hR _ h (fun n => n) rfl rfl rfl (rn_tup ⟨(rn_bool_tf rfl), (rn_int rfl), trivial⟩) rfl (entl_bor (use_lo rfl) rfl rfl (entl_bor (use_lo rfl) rfl rfl (entl_bor (use_lo rfl) rfl rfl entl_nil))))
theorem a34 (ar nr mr : Nat) (tr : Nat → Int) (vr : Nat → Int) (gr : Nat → Int) (ao no mo : Nat) (to : Nat → Bool) (al nl ml : Nat) (tl : Nat → Int) {r : Rt34} (h : Goes ((q34 ar nr mr tr vr gr ao no mo to al nl ml tl)) ((p34 ar nr mr tr vr gr ao no mo to al nl ml tl)) r) : CallR Try.prog 43 [.agg [.loose ⟨0, 3, ar, 0⟩ nr, .loose ⟨1, 1, ao, 0⟩ no], .loose ⟨2, 1, al, 0⟩ nl] [[(0, (false, .cols mr [.int .i64 tr, .int .i64 vr, .int .i64 gr])), (1, (false, .cols mo [.bool to])), (2, (false, .cols ml [.int .i64 tl]))]] 3 ((V34 ar nr mr tr vr gr ao no mo to al nl ml tl) r) ((fun r => [newL (3 + 1) ((N34 ar nr mr tr vr gr ao no mo to al nl ml tl) r) ++ [(0, (false, .cols mr [.int .i64 tr, .int .i64 vr, .int .i64 gr])), (1, (false, .cols mo [.bool to])), (2, (false, .cols ml [.int .i64 tl]))]]) r) 400 ∧ ∃ F, Try.prog.funcs[43]? = some F ∧ F.body.isSome = true ∧ (F.name == "runtime.NumGoroutine") = false := by
  refine dec_calls (f := 43) (lo := 3) (hi := 400) (H := [[(0, (false, .cols mr [.int .i64 tr, .int .i64 vr, .int .i64 gr])), (1, (false, .cols mo [.bool to])), (2, (false, .cols ml [.int .i64 tl]))]]) (args := [.agg [.loose ⟨0, 3, ar, 0⟩ nr, .loose ⟨1, 1, ao, 0⟩ no], .loose ⟨2, 1, al, 0⟩ nl]) Try.envOk Try.mixed xC_ok ((I34 ar nr mr tr vr gr ao no mo to al nl ml tl)) ((V34 ar nr mr tr vr gr ao no mo to al nl ml tl)) (fun r => [newL (3 + 1) ((N34 ar nr mr tr vr gr ao no mo to al nl ml tl) r) ++ [(0, (false, .cols mr [.int .i64 tr, .int .i64 vr, .int .i64 gr])), (1, (false, .cols mo [.bool to])), (2, (false, .cols ml [.int .i64 tl]))]]) (fn := mkFn Try.f43) (ts := [1, 16, 17, 18]) (n := 400) rfl (by decide) (by simp) (names_of rfl) ?_ ?_ ?_ h
  · intro s; cases s <;> exact ⟨hd_ok _ _, by simp [I34], names_of rfl, Nat.le_of_ble_eq_true rfl⟩
  · intro Kst Kret x hS hR h
    exact Holds.eq (te34 cond Kst Kret ar nr mr tr vr gr ao no mo to al nl ml tl) (be34 ar nr mr tr vr gr ao no mo to al nl ml tl Kst Kret x hS hR h)
  · intro Kst Kret x hS hR s h
    cases s with
    | h0 x0 => exact Holds.eq (t34_0 cond Kst Kret ar nr mr tr vr gr ao no mo to al nl ml tl x0) (b34_0 ar nr mr tr vr gr ao no mo to al nl ml tl Kst Kret x hS hR x0 h)
noncomputable def k34 : Con := ⟨43, [.agg [.list [.int .i64, .int .i64, .int .i64], .list [.bool]], .one (.list [.int .i64])], fun (x : ((Nat × Nat × Nat × (Nat → Int) × (Nat → Int) × (Nat → Int) × Unit) × (Nat × Nat × Nat × (Nat → Bool) × Unit) × Unit) × (Nat × Nat × Nat × (Nat → Int) × Unit) × Unit) => (fun (ar nr mr : Nat) (tr : Nat → Int) (vr : Nat → Int) (gr : Nat → Int) (ao no mo : Nat) (to : Nat → Bool) (al nl ml : Nat) (tl : Nat → Int) => decide (ar + nr ≤ mr ∧ nr ≤ 1000000 ∧ ao + no ≤ mo ∧ no ≤ 1000000 ∧ al + nl ≤ ml ∧ nl ≤ 1000000)) x.1.1.1 x.1.1.2.1 x.1.1.2.2.1 x.1.1.2.2.2.1 x.1.1.2.2.2.2.1 x.1.1.2.2.2.2.2.1 x.1.2.1.1 x.1.2.1.2.1 x.1.2.1.2.2.1 x.1.2.1.2.2.2.1 x.2.1.1 x.2.1.2.1 x.2.1.2.2.1 x.2.1.2.2.2.1, fun (x : ((Nat × Nat × Nat × (Nat → Int) × (Nat → Int) × (Nat → Int) × Unit) × (Nat × Nat × Nat × (Nat → Bool) × Unit) × Unit) × (Nat × Nat × Nat × (Nat → Int) × Unit) × Unit) => (fun (ar nr mr : Nat) (tr : Nat → Int) (vr : Nat → Int) (gr : Nat → Int) (ao no mo : Nat) (to : Nat → Bool) (al nl ml : Nat) (tl : Nat → Int) => (V34 ar nr mr tr vr gr ao no mo to al nl ml tl) (S.erS nr (fun j => tr (j + ar)) (fun j => vr (j + ar)) (fun j => gr (j + ar)) no nl (fun j => tl (j + al)))) x.1.1.1 x.1.1.2.1 x.1.1.2.2.1 x.1.1.2.2.2.1 x.1.1.2.2.2.2.1 x.1.1.2.2.2.2.2.1 x.1.2.1.1 x.1.2.1.2.1 x.1.2.1.2.2.1 x.1.2.1.2.2.2.1 x.2.1.1 x.2.1.2.1 x.2.1.2.2.1 x.2.1.2.2.2.1, fun (x : ((Nat × Nat × Nat × (Nat → Int) × (Nat → Int) × (Nat → Int) × Unit) × (Nat × Nat × Nat × (Nat → Bool) × Unit) × Unit) × (Nat × Nat × Nat × (Nat → Int) × Unit) × Unit) => (fun (ar nr mr : Nat) (tr : Nat → Int) (vr : Nat → Int) (gr : Nat → Int) (ao no mo : Nat) (to : Nat → Bool) (al nl ml : Nat) (tl : Nat → Int) => (N34 ar nr mr tr vr gr ao no mo to al nl ml tl) (S.erS nr (fun j => tr (j + ar)) (fun j => vr (j + ar)) (fun j => gr (j + ar)) no nl (fun j => tl (j + al)))) x.1.1.1 x.1.1.2.1 x.1.1.2.2.1 x.1.1.2.2.2.1 x.1.1.2.2.2.2.1 x.1.1.2.2.2.2.2.1 x.1.2.1.1 x.1.2.1.2.1 x.1.2.1.2.2.1 x.1.2.1.2.2.2.1 x.2.1.1 x.2.1.2.1 x.2.1.2.2.1 x.2.1.2.2.2.1, fun _ _ => .dead⟩
theorem s34' (ar nr mr : Nat) (tr : Nat → Int) (vr : Nat → Int) (gr : Nat → Int) (ao no mo : Nat) (to : Nat → Bool) (al nl ml : Nat) (tl : Nat → Int) (hp : ar + nr ≤ mr ∧ nr ≤ 1000000 ∧ ao + no ≤ mo ∧ no ≤ 1000000 ∧ al + nl ≤ ml ∧ nl ≤ 1000000) : ∀ k i : Nat, i + k = nr → Comes (q34 ar nr mr tr vr gr ao no mo to al nl ml tl) (.h0 (i : Int)) ((S.erB (fun j => tr (j + ar)) (fun j => vr (j + ar)) nl (fun j => tl (j + al)) i k, 0)) := by
  obtain ⟨hp1, hp2, hp3, hp4, hp5, hp6⟩ := hp
  intro k
  induction k with
  | zero =>
    intro i hi
    apply Comes.of
    show Goes _ _ _
    (first | rw [q34] | unfold q34)
    repeat' first
      | with_reducible refine goes_if (fun h => ?_) (fun h => ?_) <;> (try simp only [lim64, imp_false, decide_eq_true_eq, decide_eq_false_iff_not, Int.toNat_natCast, toNat_pred, toNat_succ, Option.getD_some, Option.getD_none, Bool.not_eq_true', Bool.not_eq_false', Bool.and_eq_true, Bool.or_eq_true, Bool.and_eq_false_iff, Bool.or_eq_false_iff, bne_iff_ne, beq_iff_eq, bne_eq_false_iff_eq, beq_eq_false_iff_ne, ne_eq, not_and, Int.not_le, Int.not_lt, ge_iff_le, gt_iff_lt, Nat.not_lt, Nat.not_le, Bool.not_eq_true, Bool.not_eq_false, Bool.true_eq_false, Bool.false_eq_true, not_false_eq_true, not_true_eq_false] at h)
      | exact goes_none.mpr (by omega)
    all_goals first | (exfalso; omega) | rfl | (refine Eq.mpr (congrArg (Comes _ _) ?_) True; simp only [S.erB]; (repeat' split) <;> first | rfl | omega | (exfalso; omega) | (exfalso; simp_all; done) | (exfalso; simp_all; omega) | simp_all) | (refine goes_inr.mpr ?_; simp only [S.erB]; (repeat' split) <;> first | rfl | omega | (exfalso; omega) | (exfalso; simp_all; done) | (exfalso; simp_all; omega) | simp_all)
  | succ k ih =>
    intro i hi
    have ih := ih (i + 1) (by omega)
    apply Comes.of
    show Goes _ _ _
    (first | rw [q34] | unfold q34)
    repeat' first
      | with_reducible refine goes_if (fun h => ?_) (fun h => ?_) <;> (try simp only [lim64, imp_false, decide_eq_true_eq, decide_eq_false_iff_not, Int.toNat_natCast, toNat_pred, toNat_succ, Option.getD_some, Option.getD_none, Bool.not_eq_true', Bool.not_eq_false', Bool.and_eq_true, Bool.or_eq_true, Bool.and_eq_false_iff, Bool.or_eq_false_iff, bne_iff_ne, beq_iff_eq, bne_eq_false_iff_eq, beq_eq_false_iff_ne, ne_eq, not_and, Int.not_le, Int.not_lt, ge_iff_le, gt_iff_lt, Nat.not_lt, Nat.not_le, Bool.not_eq_true, Bool.not_eq_false, Bool.true_eq_false, Bool.false_eq_true, not_false_eq_true, not_true_eq_false] at h)
      | exact goes_none.mpr (by omega)
    all_goals first | (exfalso; omega) | rfl | (refine Eq.mpr (congrArg (Comes _ _) ?_) ih; simp only [S.erB]; (repeat' split) <;> first | rfl | omega | (exfalso; omega) | (exfalso; simp_all; done) | (exfalso; simp_all; omega) | simp_all) | (refine goes_inr.mpr ?_; simp only [S.erB]; (repeat' split) <;> first | rfl | omega | (exfalso; omega) | (exfalso; simp_all; done) | (exfalso; simp_all; omega) | simp_all)
theorem s34 (ar nr mr : Nat) (tr : Nat → Int) (vr : Nat → Int) (gr : Nat → Int) (ao no mo : Nat) (to : Nat → Bool) (al nl ml : Nat) (tl : Nat → Int) (hp : ar + nr ≤ mr ∧ nr ≤ 1000000 ∧ ao + no ≤ mo ∧ no ≤ 1000000 ∧ al + nl ≤ ml ∧ nl ≤ 1000000) : Goes ((q34 ar nr mr tr vr gr ao no mo to al nl ml tl)) ((p34 ar nr mr tr vr gr ao no mo to al nl ml tl)) (S.erS nr (fun j => tr (j + ar)) (fun j => vr (j + ar)) (fun j => gr (j + ar)) no nl (fun j => tl (j + al))) := by
  unfold S.erS
  by_cases hv : S.histE nr (fun j => tr (j + ar)) (fun j => vr (j + ar)) (fun j => gr (j + ar)) no nl (fun j => tl (j + al)) = 0
  · have hm := s34' ar nr mr tr vr gr ao no mo to al nl ml tl hp nr 0 (by omega)
    obtain ⟨hp1, hp2, hp3, hp4, hp5, hp6⟩ := hp
    rw [if_pos hv]
    show Goes _ _ _
    unfold p34
    repeat' first
      | with_reducible refine goes_if (fun h => ?_) (fun h => ?_) <;> (try simp only [lim64, imp_false, decide_eq_true_eq, decide_eq_false_iff_not, Int.toNat_natCast, toNat_pred, toNat_succ, Option.getD_some, Option.getD_none, Bool.not_eq_true', Bool.not_eq_false', Bool.and_eq_true, Bool.or_eq_true, Bool.and_eq_false_iff, Bool.or_eq_false_iff, bne_iff_ne, beq_iff_eq, bne_eq_false_iff_eq, beq_eq_false_iff_ne, ne_eq, not_and, Int.not_le, Int.not_lt, ge_iff_le, gt_iff_lt, Nat.not_lt, Nat.not_le, Bool.not_eq_true, Bool.not_eq_false, Bool.true_eq_false, Bool.false_eq_true, not_false_eq_true, not_true_eq_false] at h)
      | exact goes_none.mpr (by omega)
    all_goals first | (exfalso; omega) | (exfalso; exact absurd hv (by assumption)) | exact hm
  · obtain ⟨hp1, hp2, hp3, hp4, hp5, hp6⟩ := hp
    rw [if_neg hv]
    show Goes _ _ _
    unfold p34
    repeat' first
      | with_reducible refine goes_if (fun h => ?_) (fun h => ?_) <;> (try simp only [lim64, imp_false, decide_eq_true_eq, decide_eq_false_iff_not, Int.toNat_natCast, toNat_pred, toNat_succ, Option.getD_some, Option.getD_none, Bool.not_eq_true', Bool.not_eq_false', Bool.and_eq_true, Bool.or_eq_true, Bool.and_eq_false_iff, Bool.or_eq_false_iff, bne_iff_ne, beq_iff_eq, bne_eq_false_iff_eq, beq_eq_false_iff_ne, ne_eq, not_and, Int.not_le, Int.not_lt, ge_iff_le, gt_iff_lt, Nat.not_lt, Nat.not_le, Bool.not_eq_true, Bool.not_eq_false, Bool.true_eq_false, Bool.false_eq_true, not_false_eq_true, not_true_eq_false] at h)
      | exact goes_none.mpr (by omega)
    all_goals first | (exfalso; omega) | (exfalso; exact hv (by assumption)) | rfl
theorem k34_ok : k34.ok Try.prog := by
  intro x hx
  obtain ⟨⟨⟨ar, nr, mr, tr, vr, gr, _⟩, ⟨ao, no, mo, to, _⟩, _⟩, ⟨al, nl, ml, tl, _⟩, _⟩ := x
  obtain ⟨h1, h2⟩ := a34 ar nr mr tr vr gr ao no mo to al nl ml tl (s34 ar nr mr tr vr gr ao no mo to al nl ml tl (of_dec hx rfl))
  exact ⟨⟨400, (by decide : 3 + 1 + 0 ≤ 400), h1⟩, h2⟩
inductive St35 where
  | h0 (x0 : Int)
  | h1 (x0 : Int) (x1 : Bool) (x2 : Int)
abbrev Rt35 := Bool × Int
noncomputable def V35 (ar nr mr : Nat) (tr : Nat → Int) (vr : Nat → Int) (gr : Nat → Int) (ao no mo : Nat) (to : Nat → Bool) (al nl ml : Nat) (tl : Nat → Int) (r : Rt35) : PV := PV.tup [PV.bool r.1, PV.int IntKind.i64 r.2]
noncomputable def N35 (ar nr mr : Nat) (tr : Nat → Int) (vr : Nat → Int) (gr : Nat → Int) (ao no mo : Nat) (to : Nat → Bool) (al nl ml : Nat) (tl : Nat → Int) (r : Rt35) : List Blk := []
noncomputable def I35 (ar nr mr : Nat) (tr : Nat → Int) (vr : Nat → Int) (gr : Nat → Int) (ao no mo : Nat) (to : Nat → Bool) (al nl ml : Nat) (tl : Nat → Int) : St35 → Hd
  | .h0 x0 => ⟨hd Try.f45 0, [PV.loose (PA.mk (2) (1) al (0)) nl,
 PV.ptr (PA.mk (3) (0) (0) (0)), PV.int IntKind.i64 x0,
 PV.unk, PV.unk], [[(3, (true, Blk.cells
 [PV.loose (PA.mk (0) (3) ar (0)) nr,
 PV.loose (PA.mk (1) (1) ao (0)) no]))], [(0, (false, .cols mr [.int .i64 tr, .int .i64 vr, .int .i64 gr])), (1, (false, .cols mo [.bool to])), (2, (false, .cols ml [.int .i64 tl]))]], 4⟩
  | .h1 x0 x1 x2 => ⟨hd Try.f45 1, [PV.loose (PA.mk (2) (1) al (0)) nl,
 PV.ptr (PA.mk (3) (0) (0) (0)), PV.int IntKind.i64 x0,
 PV.bool x1, PV.int IntKind.i64 x2], [[(3, (true, Blk.cells
 [PV.loose (PA.mk (0) (3) ar (0)) nr,
 PV.loose (PA.mk (1) (1) ao (0)) no]))], [(0, (false, .cols mr [.int .i64 tr, .int .i64 vr, .int .i64 gr])), (1, (false, .cols mo [.bool to])), (2, (false, .cols ml [.int .i64 tl]))]], 4⟩
noncomputable def q35 (ar nr mr : Nat) (tr : Nat → Int) (vr : Nat → Int) (gr : Nat → Int) (ao no mo : Nat) (to : Nat → Bool) (al nl ml : Nat) (tl : Nat → Int) : St35 → Option (St35 ⊕ Rt35)
  | .h0 x0 => bif (decide (x0 < (↑nr : Int)))
 then (some (.inl (.h1 (x0) (false) ((0 : Int)))))
 else (some (.inr (true, (0 : Int))))
  | .h1 x0 x1 x2 => bif (decide (x2 < (↑nl : Int)))
 then (bif (x1)
 then (bif (lim IntKind.i64 (x2 + (1 : Int)))
 then (some (.inl (.h1 (x0) (true) (x2 + (1 : Int)))))
 else (none))
 else (bif (decide ((0 : Int) ≤ x2 ∧ x2 < (↑nl : Int)))
 then (bif (decide (Int.toNat x2 + al < ml))
 then (bif (decide ((0 : Int) ≤ x0 ∧ x0 < (↑nr : Int)))
 then (bif (decide (Int.toNat x0 + ar < mr))
 then (bif (decide (tl (Int.toNat x2 + al) ≥ tr (Int.toNat x0 + ar)))
 then (bif (lim IntKind.i64 (x2 + (1 : Int)))
 then (some (.inl (.h1 (x0) (true) (x2 + (1 : Int)))))
 else (none))
 else (bif (decide (tl (Int.toNat x2 + al) ≤ vr (Int.toNat x0 + ar)))
 then (bif (lim IntKind.i64 (x2 + (1 : Int)))
 then (some (.inl (.h1 (x0) (true) (x2 + (1 : Int)))))
 else (none))
 else (bif (lim IntKind.i64 (x2 + (1 : Int)))
 then (some (.inl (.h1 (x0) (false) (x2 + (1 : Int)))))
 else (none))))
 else (none))
 else (none))
 else (none))
 else (none)))
 else (bif (x1)
 then (bif (lim IntKind.i64 (x0 + (1 : Int)))
 then (some (.inl (.h0 (x0 + (1 : Int)))))
 else (none))
 else (some (.inr (false, (0 : Int)))))
noncomputable def p35 (ar nr mr : Nat) (tr : Nat → Int) (vr : Nat → Int) (gr : Nat → Int) (ao no mo : Nat) (to : Nat → Bool) (al nl ml : Nat) (tl : Nat → Int) : Option (St35 ⊕ Rt35) := bif (decide (ar + nr ≤ mr ∧ nr ≤ 1000000 ∧ al + nl ≤ ml ∧ nl ≤ 1000000))
 then (bif ((S.histE nr (fun j => tr (j + ar)) (fun j => vr (j + ar)) (fun j => gr (j + ar)) no nl
 fun j => tl (j + al)) !=
 (0 : Int))
 then (some (.inr (false, S.histE nr (fun j => tr (j + ar)) (fun j => vr (j + ar)) (fun j => gr (j + ar)) no nl
 fun j => tl (j + al))))
 else (some (.inl (.h0 ((0 : Int))))))
 else (none)
noncomputable def Te35 (test : Bool → Prop → Prop → Prop) (Kst : KS) (Kret : KR) (ar nr mr : Nat) (tr : Nat → Int) (vr : Nat → Int) (gr : Nat → Int) (ao no mo : Nat) (to : Nat → Bool) (al nl ml : Nat) (tl : Nat → Int) : Prop :=
  test (decide (ar + nr ≤ mr ∧ nr ≤ 1000000 ∧ al + nl ≤ ml ∧ nl ≤ 1000000))
 (test ((S.histE nr (fun j => tr (j + ar)) (fun j => vr (j + ar)) (fun j => gr (j + ar)) no nl
 fun j => tl (j + al)) !=
 (0 : Int))
 (Kret (PV.tup
 [PV.tf false,
 PV.int IntKind.i64
 (S.histE nr (fun j => tr (j + ar)) (fun j => vr (j + ar)) (fun j => gr (j + ar)) no
 nl fun j => tl (j + al))]) ([[(2, false, Blk.cols ml [Col.int IntKind.i64 tl]),
 (1, false, Blk.cols mo [Col.bool to]),
 (0, false,
 Blk.cols mr
 [Col.int IntKind.i64 tr, Col.int IntKind.i64 vr, Col.int IntKind.i64 gr])]]) (5))
 (Kst (hd Try.f45 0) ([PV.loose (PA.mk (2) (1) al (0)) nl,
 PV.ptr (PA.mk (3) (0) (0) (0)), PV.int IntKind.i64 (0 : Int),
 PV.unk, PV.unk]) ([[(2, false, Blk.cols ml [Col.int IntKind.i64 tl]),
 (1, false, Blk.cols mo [Col.bool to]),
 (0, false,
 Blk.cols mr
 [Col.int IntKind.i64 tr, Col.int IntKind.i64 vr, Col.int IntKind.i64 gr]),
 (3, true,
 Blk.cells
 [PV.loose (PA.mk (0) (3) ar (0)) nr,
 PV.loose (PA.mk (1) (1) ao (0)) no])]]) (5)))
 (False)
theorem te35 (test : Bool → Prop → Prop → Prop) (Kst : KS) (Kret : KR) (ar nr mr : Nat) (tr : Nat → Int) (vr : Nat → Int) (gr : Nat → Int) (ao no mo : Nat) (to : Nat → Bool) (al nl ml : Nat) (tl : Nat → Int) : run test Try.env true (xC test) true 400 ⟨45, [.cd (mkFn Try.f45).body], argT 0 [.agg [.loose ⟨0, 3, ar, 0⟩ nr, .loose ⟨1, 1, ao, 0⟩ no], .loose ⟨2, 1, al, 0⟩ nl], [[], [(0, (false, .cols mr [.int .i64 tr, .int .i64 vr, .int .i64 gr])), (1, (false, .cols mo [.bool to])), (2, (false, .cols ml [.int .i64 tl]))]], 3⟩ (proj 3 [1, 2, 7, 8, 9] Kst Kret) =
  Te35 test Kst Kret ar nr mr tr vr gr ao no mo to al nl ml tl := by kernel_rfl
noncomputable def T35_0 (test : Bool → Prop → Prop → Prop) (Kst : KS) (Kret : KR) (ar nr mr : Nat) (tr : Nat → Int) (vr : Nat → Int) (gr : Nat → Int) (ao no mo : Nat) (to : Nat → Bool) (al nl ml : Nat) (tl : Nat → Int) (x0 : Int) : Prop :=
  test (decide (x0 < (↑nr : Int)))
 (Kst (hd Try.f45 1) ([PV.loose (PA.mk (2) (1) al (0)) nl,
 PV.ptr (PA.mk (3) (0) (0) (0)), PV.int IntKind.i64 x0,
 PV.tf false, PV.int IntKind.i64 (0 : Int)]) ([[(2, false, Blk.cols ml [Col.int IntKind.i64 tl]),
 (1, false, Blk.cols mo [Col.bool to]),
 (0, false,
 Blk.cols mr
 [Col.int IntKind.i64 tr, Col.int IntKind.i64 vr, Col.int IntKind.i64 gr]),
 (3, true,
 Blk.cells
 [PV.loose (PA.mk (0) (3) ar (0)) nr,
 PV.loose (PA.mk (1) (1) ao (0)) no])]]) (4))
 (Kret (PV.tup [PV.tf true, PV.int IntKind.i64 (0 : Int)]) ([[(2, false, Blk.cols ml [Col.int IntKind.i64 tl]),
 (1, false, Blk.cols mo [Col.bool to]),
 (0, false,
 Blk.cols mr
 [Col.int IntKind.i64 tr, Col.int IntKind.i64 vr, Col.int IntKind.i64 gr])]]) (4))
theorem t35_0 (test : Bool → Prop → Prop → Prop) (Kst : KS) (Kret : KR) (ar nr mr : Nat) (tr : Nat → Int) (vr : Nat → Int) (gr : Nat → Int) (ao no mo : Nat) (to : Nat → Bool) (al nl ml : Nat) (tl : Nat → Int) (x0 : Int) : run test Try.env true (xC test) true 400 ⟨45, hd Try.f45 0, zipT [1, 2, 7, 8, 9] [PV.loose (PA.mk (2) (1) al (0)) nl,
 PV.ptr (PA.mk (3) (0) (0) (0)), PV.int IntKind.i64 x0,
 PV.unk, PV.unk], [[(3, (true, Blk.cells
 [PV.loose (PA.mk (0) (3) ar (0)) nr,
 PV.loose (PA.mk (1) (1) ao (0)) no]))], [(0, (false, .cols mr [.int .i64 tr, .int .i64 vr, .int .i64 gr])), (1, (false, .cols mo [.bool to])), (2, (false, .cols ml [.int .i64 tl]))]], 4⟩ (proj 3 [1, 2, 7, 8, 9] Kst Kret) =
  T35_0 test Kst Kret ar nr mr tr vr gr ao no mo to al nl ml tl x0 := by kernel_rfl
noncomputable def T35_1 (test : Bool → Prop → Prop → Prop) (Kst : KS) (Kret : KR) (ar nr mr : Nat) (tr : Nat → Int) (vr : Nat → Int) (gr : Nat → Int) (ao no mo : Nat) (to : Nat → Bool) (al nl ml : Nat) (tl : Nat → Int) (x0 : Int) (x1 : Bool) (x2 : Int) : Prop :=
  test (decide (x2 < (↑nl : Int)))
 (test (x1)
 (test (lim IntKind.i64 (x2 + (1 : Int)))
 (Kst (hd Try.f45 1) ([PV.loose (PA.mk (2) (1) al (0)) nl,
 PV.ptr (PA.mk (3) (0) (0) (0)), PV.int IntKind.i64 x0,
 PV.tf true, PV.int IntKind.i64 (x2 + (1 : Int))]) ([[(2, false, Blk.cols ml [Col.int IntKind.i64 tl]),
 (1, false, Blk.cols mo [Col.bool to]),
 (0, false,
 Blk.cols mr
 [Col.int IntKind.i64 tr, Col.int IntKind.i64 vr, Col.int IntKind.i64 gr]),
 (3, true,
 Blk.cells
 [PV.loose (PA.mk (0) (3) ar (0)) nr,
 PV.loose (PA.mk (1) (1) ao (0)) no])]]) (4))
 (False))
 (test (decide ((0 : Int) ≤ x2 ∧ x2 < (↑nl : Int)))
 (test (decide (Int.toNat x2 + al < ml))
 (test (decide ((0 : Int) ≤ x0 ∧ x0 < (↑nr : Int)))
 (test (decide (Int.toNat x0 + ar < mr))
 (test (decide (tl (Int.toNat x2 + al) ≥ tr (Int.toNat x0 + ar)))
 (test (lim IntKind.i64 (x2 + (1 : Int)))
 (Kst (hd Try.f45 1) ([PV.loose (PA.mk (2) (1) al (0)) nl,
 PV.ptr (PA.mk (3) (0) (0) (0)), PV.int IntKind.i64 x0,
 PV.tf true, PV.int IntKind.i64 (x2 + (1 : Int))]) ([[(2, false, Blk.cols ml [Col.int IntKind.i64 tl]),
 (1, false, Blk.cols mo [Col.bool to]),
 (0, false,
 Blk.cols mr
 [Col.int IntKind.i64 tr, Col.int IntKind.i64 vr, Col.int IntKind.i64 gr]),
 (3, true,
 Blk.cells
 [PV.loose (PA.mk (0) (3) ar (0)) nr,
 PV.loose (PA.mk (1) (1) ao (0)) no])]]) (4))
 (False))
 (test (decide ((0 : Int) ≤ x2 ∧ x2 < (↑nl : Int)))
 (test (decide (Int.toNat x2 + al < ml))
 (test (decide ((0 : Int) ≤ x0 ∧ x0 < (↑nr : Int)))
 (test (decide (Int.toNat x0 + ar < mr))
 (test (decide (tl (Int.toNat x2 + al) ≤ vr (Int.toNat x0 + ar)))
 (test (lim IntKind.i64 (x2 + (1 : Int)))
 (Kst (hd Try.f45 1) ([PV.loose (PA.mk (2) (1) al (0)) nl,
 PV.ptr (PA.mk (3) (0) (0) (0)), PV.int IntKind.i64 x0,
 PV.tf true, PV.int IntKind.i64 (x2 + (1 : Int))]) ([[(2, false, Blk.cols ml [Col.int IntKind.i64 tl]),
 (1, false, Blk.cols mo [Col.bool to]),
 (0, false,
 Blk.cols mr
 [Col.int IntKind.i64 tr, Col.int IntKind.i64 vr, Col.int IntKind.i64 gr]),
 (3, true,
 Blk.cells
 [PV.loose (PA.mk (0) (3) ar (0)) nr,
 PV.loose (PA.mk (1) (1) ao (0)) no])]]) (4))
 (False))
 (test (lim IntKind.i64 (x2 + (1 : Int)))
 (Kst (hd Try.f45 1) ([PV.loose (PA.mk (2) (1) al (0)) nl,
 PV.ptr (PA.mk (3) (0) (0) (0)), PV.int IntKind.i64 x0,
 PV.tf false, PV.int IntKind.i64 (x2 + (1 : Int))]) ([[(2, false, Blk.cols ml [Col.int IntKind.i64 tl]),
 (1, false, Blk.cols mo [Col.bool to]),
 (0, false,
 Blk.cols mr
 [Col.int IntKind.i64 tr, Col.int IntKind.i64 vr, Col.int IntKind.i64 gr]),
 (3, true,
 Blk.cells
 [PV.loose (PA.mk (0) (3) ar (0)) nr,
 PV.loose (PA.mk (1) (1) ao (0)) no])]]) (4))
 (False)))
 (False))
 (False))
 (False))
 (False)))
 (False))
 (False))
 (False))
 (False)))
 (test (x1)
 (test (lim IntKind.i64 (x0 + (1 : Int)))
 (Kst (hd Try.f45 0) ([PV.loose (PA.mk (2) (1) al (0)) nl,
 PV.ptr (PA.mk (3) (0) (0) (0)),
 PV.int IntKind.i64 (x0 + (1 : Int)), PV.bool x1, PV.int IntKind.i64 x2]) ([[(2, false, Blk.cols ml [Col.int IntKind.i64 tl]),
 (1, false, Blk.cols mo [Col.bool to]),
 (0, false,
 Blk.cols mr
 [Col.int IntKind.i64 tr, Col.int IntKind.i64 vr, Col.int IntKind.i64 gr]),
 (3, true,
 Blk.cells
 [PV.loose (PA.mk (0) (3) ar (0)) nr,
 PV.loose (PA.mk (1) (1) ao (0)) no])]]) (4))
 (False))
 (Kret (PV.tup [PV.tf false, PV.int IntKind.i64 (0 : Int)]) ([[(2, false, Blk.cols ml [Col.int IntKind.i64 tl]),
 (1, false, Blk.cols mo [Col.bool to]),
 (0, false,
 Blk.cols mr
 [Col.int IntKind.i64 tr, Col.int IntKind.i64 vr, Col.int IntKind.i64 gr])]]) (4)))
theorem t35_1 (test : Bool → Prop → Prop → Prop) (Kst : KS) (Kret : KR) (ar nr mr : Nat) (tr : Nat → Int) (vr : Nat → Int) (gr : Nat → Int) (ao no mo : Nat) (to : Nat → Bool) (al nl ml : Nat) (tl : Nat → Int) (x0 : Int) (x1 : Bool) (x2 : Int) : run test Try.env true (xC test) true 400 ⟨45, hd Try.f45 1, zipT [1, 2, 7, 8, 9] [PV.loose (PA.mk (2) (1) al (0)) nl,
 PV.ptr (PA.mk (3) (0) (0) (0)), PV.int IntKind.i64 x0,
 PV.bool x1, PV.int IntKind.i64 x2], [[(3, (true, Blk.cells
 [PV.loose (PA.mk (0) (3) ar (0)) nr,
 PV.loose (PA.mk (1) (1) ao (0)) no]))], [(0, (false, .cols mr [.int .i64 tr, .int .i64 vr, .int .i64 gr])), (1, (false, .cols mo [.bool to])), (2, (false, .cols ml [.int .i64 tl]))]], 4⟩ (proj 3 [1, 2, 7, 8, 9] Kst Kret) =
  T35_1 test Kst Kret ar nr mr tr vr gr ao no mo to al nl ml tl x0 x1 x2 := by kernel_rfl
theorem be35 (ar nr mr : Nat) (tr : Nat → Int) (vr : Nat → Int) (gr : Nat → Int) (ao no mo : Nat) (to : Nat → Bool) (al nl ml : Nat) (tl : Nat → Int) (Kst : KS) (Kret : KR) (x : St35 ⊕ Rt35) (hS : HS 3 400 ((I35 ar nr mr tr vr gr ao no mo to al nl ml tl)) Kst x) (hR : HR 3 400 ((V35 ar nr mr tr vr gr ao no mo to al nl ml tl)) (fun r => [newL (3 + 1) ((N35 ar nr mr tr vr gr ao no mo to al nl ml tl) r) ++ [(0, (false, .cols mr [.int .i64 tr, .int .i64 vr, .int .i64 gr])), (1, (false, .cols mo [.bool to])), (2, (false, .cols ml [.int .i64 tl]))]]) Kret x) (h : (bif (decide (ar + nr ≤ mr ∧ nr ≤ 1000000 ∧ al + nl ≤ ml ∧ nl ≤ 1000000))
 then (bif ((S.histE nr (fun j => tr (j + ar)) (fun j => vr (j + ar)) (fun j => gr (j + ar)) no nl
 fun j => tl (j + al)) !=
 (0 : Int))
 then (some (.inr (false, S.histE nr (fun j => tr (j + ar)) (fun j => vr (j + ar)) (fun j => gr (j + ar)) no nl
 fun j => tl (j + al))))
 else (some (.inl (.h0 ((0 : Int))))))
 else (none) : Option (St35 ⊕ Rt35)) = some x) : Te35 cond Kst Kret ar nr mr tr vr gr ao no mo to al nl ml tl := by
  unfold Te35
  exact bif_split h
   (fun c0 h => bif_split h
   (fun c1 h => ret_at hR _ h (fun n => n) rfl rfl rfl (rn_tup ⟨(rn_bool_tf rfl), (rn_int rfl), trivial⟩) rfl (entl_bor (use_lo rfl) rfl rfl (entl_bor (use_lo rfl) rfl rfl (entl_bor (use_lo rfl) rfl rfl entl_nil))))
   (fun c1 h => stop_at hS _ h (fun n => bif Nat.beq n 3 then 3 else n) rfl rfl rfl ⟨(rn_loose (use_lo rfl) rfl rfl rfl), ⟨(rn_ptr (use_own rfl) rfl rfl), ⟨(rn_int rfl), ⟨(rn_unk _), ⟨(rn_unk _), trivial⟩⟩⟩⟩⟩ rfl (entl_b (use_own rfl) rfl (by simp) (rb_cells ⟨(rn_loose (use_lo rfl) rfl rfl rfl), (rn_loose (use_lo rfl) rfl rfl rfl), trivial⟩) (entl_bor (use_lo rfl) rfl rfl (entl_bor (use_lo rfl) rfl rfl (entl_bor (use_lo rfl) rfl rfl entl_nil))))))
   (fun c0 h => no_some h)
theorem b35_0 (ar nr mr : Nat) (tr : Nat → Int) (vr : Nat → Int) (gr : Nat → Int) (ao no mo : Nat) (to : Nat → Bool) (al nl ml : Nat) (tl : Nat → Int) (Kst : KS) (Kret : KR) (x : St35 ⊕ Rt35) (hS : HS 3 400 ((I35 ar nr mr tr vr gr ao no mo to al nl ml tl)) Kst x) (hR : HR 3 400 ((V35 ar nr mr tr vr gr ao no mo to al nl ml tl)) (fun r => [newL (3 + 1) ((N35 ar nr mr tr vr gr ao no mo to al nl ml tl) r) ++ [(0, (false, .cols mr [.int .i64 tr, .int .i64 vr, .int .i64 gr])), (1, (false, .cols mo [.bool to])), (2, (false, .cols ml [.int .i64 tl]))]]) Kret x) (x0 : Int) (h : (bif (decide (x0 < (↑nr : Int)))
 then (some (.inl (.h1 (x0) (false) ((0 : Int)))))
 else (some (.inr (true, (0 : Int)))) : Option (St35 ⊕ Rt35)) = some x) : T35_0 cond Kst Kret ar nr mr tr vr gr ao no mo to al nl ml tl x0 := by
  unfold T35_0
  exact bif_split h
   (fun c0 h => stop_at hS _ h (fun n => bif Nat.beq n 3 then 3 else n) rfl rfl rfl ⟨(rn_loose (use_lo rfl) rfl rfl rfl), ⟨(rn_ptr (use_own rfl) rfl rfl), ⟨(rn_int rfl), ⟨(rn_bool_tf rfl), ⟨(rn_int rfl), trivial⟩⟩⟩⟩⟩ rfl (entl_b (use_own rfl) rfl (by simp) (rb_cells ⟨(rn_loose (use_lo rfl) rfl rfl rfl), (rn_loose (use_lo rfl) rfl rfl rfl), trivial⟩) (entl_bor (use_lo rfl) rfl rfl (entl_bor (use_lo rfl) rfl rfl (entl_bor (use_lo rfl) rfl rfl entl_nil)))))
   (fun c0 h => ret_at hR _ h (fun n => n) rfl rfl rfl (rn_tup ⟨(rn_bool_tf rfl), (rn_int rfl), trivial⟩) rfl (entl_bor (use_lo rfl) rfl rfl (entl_bor (use_lo rfl) rfl rfl (entl_bor (use_lo rfl) rfl rfl entl_nil))))
theorem b35_1 (ar nr mr : Nat) (tr : Nat → Int) (vr : Nat → Int) (gr : Nat → Int) (ao no mo : Nat) (to : Nat → Bool) (al nl ml : Nat) (tl : Nat → Int) (Kst : KS) (Kret : KR) (x : St35 ⊕ Rt35) (hS : HS 3 400 ((I35 ar nr mr tr vr gr ao no mo to al nl ml tl)) Kst x) (hR : HR 3 400 ((V35 ar nr mr tr vr gr ao no mo to al nl ml tl)) (fun r => [newL (3 + 1) ((N35 ar nr mr tr vr gr ao no mo to al nl ml tl) r) ++ [(0, (false, .cols mr [.int .i64 tr, .int .i64 vr, .int .i64 gr])), (1, (false, .cols mo [.bool to])), (2, (false, .cols ml [.int .i64 tl]))]]) Kret x) (x0 : Int) (x1 : Bool) (x2 : Int) (h : (bif (decide (x2 < (↑nl : Int)))
 then (bif (x1)
 then (bif (lim IntKind.i64 (x2 + (1 : Int)))
 then (some (.inl (.h1 (x0) (true) (x2 + (1 : Int)))))
 else (none))
 else (bif (decide ((0 : Int) ≤ x2 ∧ x2 < (↑nl : Int)))
 then (bif (decide (Int.toNat x2 + al < ml))
 then (bif (decide ((0 : Int) ≤ x0 ∧ x0 < (↑nr : Int)))
 then (bif (decide (Int.toNat x0 + ar < mr))
 then (bif (decide (tl (Int.toNat x2 + al) ≥ tr (Int.toNat x0 + ar)))
 then (bif (lim IntKind.i64 (x2 + (1 : Int)))
 then (some (.inl (.h1 (x0) (true) (x2 + (1 : Int)))))
 else (none))
 else (bif (decide (tl (Int.toNat x2 + al) ≤ vr (Int.toNat x0 + ar)))
 then (bif (lim IntKind.i64 (x2 + (1 : Int)))
 then (some (.inl (.h1 (x0) (true) (x2 + (1 : Int)))))
 else (none))
 else (bif (lim IntKind.i64 (x2 + (1 : Int)))
 then (some (.inl (.h1 (x0) (false) (x2 + (1 : Int)))))
 else (none))))
 else (none))
 else (none))
 else (none))
 else (none)))
 else (bif (x1)
 then (bif (lim IntKind.i64 (x0 + (1 : Int)))
 then (some (.inl (.h0 (x0 + (1 : Int)))))
 else (none))
 else (some (.inr (false, (0 : Int))))) : Option (St35 ⊕ Rt35)) = some x) : T35_1 cond Kst Kret ar nr mr tr vr gr ao no mo to al nl ml tl x0 x1 x2 := by
  unfold T35_1
  exact bif_split h
   (fun c0 h => bif_split h
   (fun c1 h => bif_split h
   (fun c2 h => stop_at hS _ h (fun n => bif Nat.beq n 3 then 3 else n) rfl rfl rfl ⟨(rn_loose (use_lo rfl) rfl rfl rfl), ⟨(rn_ptr (use_own rfl) rfl rfl), ⟨(rn_int rfl), ⟨(rn_bool_tf rfl), ⟨(rn_int rfl), trivial⟩⟩⟩⟩⟩ rfl (entl_b (use_own rfl) rfl (by simp) (rb_cells ⟨(rn_loose (use_lo rfl) rfl rfl rfl), (rn_loose (use_lo rfl) rfl rfl rfl), trivial⟩) (entl_bor (use_lo rfl) rfl rfl (entl_bor (use_lo rfl) rfl rfl (entl_bor (use_lo rfl) rfl rfl entl_nil)))))
   (fun c2 h => no_some h))
   (fun c1 h => bif_split h
   (fun c2 h => bif_split h
   (fun c3 h => bif_split h
   (fun c4 h => bif_split h
   (fun c5 h => bif_split h
   (fun c6 h => bif_split h
   (fun c7 h => stop_at hS _ h (fun n => bif Nat.beq n 3 then 3 else n) rfl rfl rfl ⟨(rn_loose (use_lo rfl) rfl rfl rfl), ⟨(rn_ptr (use_own rfl) rfl rfl), ⟨(rn_int rfl), ⟨(rn_bool_tf rfl), ⟨(rn_int rfl), trivial⟩⟩⟩⟩⟩ rfl (entl_b (use_own rfl) rfl (by simp) (rb_cells ⟨(rn_loose (use_lo rfl) rfl rfl rfl), (rn_loose (use_lo rfl) rfl rfl rfl), trivial⟩) (entl_bor (use_lo rfl) rfl rfl (entl_bor (use_lo rfl) rfl rfl (entl_bor (use_lo rfl) rfl rfl entl_nil)))))
   (fun c7 h => no_some h))
   (fun c6 h => cond_yes c2 (cond_yes c3 (cond_yes c4 (cond_yes c5 (bif_split h
   (fun c7 h => bif_split h
   (fun c8 h => stop_at hS _ h (fun n => bif Nat.beq n 3 then 3 else n) rfl rfl rfl ⟨(rn_loose (use_lo rfl) rfl rfl rfl), ⟨(rn_ptr (use_own rfl) rfl rfl), ⟨(rn_int rfl), ⟨(rn_bool_tf rfl), ⟨(rn_int rfl), trivial⟩⟩⟩⟩⟩ rfl (entl_b (use_own rfl) rfl (by simp) (rb_cells ⟨(rn_loose (use_lo rfl) rfl rfl rfl), (rn_loose (use_lo rfl) rfl rfl rfl), trivial⟩) (entl_bor (use_lo rfl) rfl rfl (entl_bor (use_lo rfl) rfl rfl (entl_bor (use_lo rfl) rfl rfl entl_nil)))))
   (fun c8 h => no_some h))
   (fun c7 h => bif_split h
   (fun c8 h => stop_at hS _ h (fun n => bif Nat.beq n 3 then 3 else n) rfl rfl rfl ⟨(rn_loose (use_lo rfl) rfl rfl rfl), ⟨(rn_ptr (use_own rfl) rfl rfl), ⟨(rn_int rfl), ⟨(rn_bool_tf rfl), ⟨(rn_int rfl), trivial⟩⟩⟩⟩⟩ rfl (entl_b (use_own rfl) rfl (by simp) (rb_cells ⟨(rn_loose (use_lo rfl) rfl rfl rfl), (rn_loose (use_lo rfl) rfl rfl rfl), trivial⟩) (entl_bor (use_lo rfl) rfl rfl (entl_bor (use_lo rfl) rfl rfl (entl_bor (use_lo rfl) rfl rfl entl_nil)))))
   (fun c8 h => no_some h))))))))
   (fun c5 h => no_some h))
   (fun c4 h => no_some h))
   (fun c3 h => no_some h))
   (fun c2 h => no_some h)))
   (fun c0 h => bif_split h
   (fun c1 h => bif_split h
   (fun c2 h => stop_at hS _ h (fun n => bif Nat.beq n 3 then 3 else n) rfl rfl rfl ⟨(rn_loose (use_lo rfl) rfl rfl rfl), ⟨(rn_ptr (use_own rfl) rfl rfl), ⟨(rn_int rfl), ⟨(rn_unk _), ⟨(rn_unk _), trivial⟩⟩⟩⟩⟩ rfl (entl_b (use_own rfl) rfl (by simp) (rb_cells ⟨(rn_loose (use_lo rfl) rfl rfl rfl), (rn_loose (use_lo rfl) rfl rfl rfl), trivial⟩) (entl_bor (use_lo rfl) rfl rfl (entl_bor (use_lo rfl) rfl rfl (entl_bor (use_lo rfl) rfl rfl entl_nil)))))
   (fun c2 h => no_some h))
   (fun c1 h => ret_at hR _ h (fun n => n) rfl rfl rfl (rn_tup ⟨(rn_bool_tf rfl), (rn_int rfl), trivial⟩) rfl (entl_bor (use_lo rfl) rfl rfl (entl_bor (use_lo rfl) rfl rfl (entl_bor (use_lo rfl) rfl rfl entl_nil)))))
theorem a35 (ar nr mr : Nat) (tr : Nat → Int) (vr : Nat → Int) (gr : Nat → Int) (ao no mo : Nat) (to : Nat → Bool) (al nl ml : Nat) (tl : Nat → Int) {r : Rt35} (h : Goes ((q35 ar nr mr tr vr gr ao no mo to al nl ml tl)) ((p35 ar nr mr tr vr gr ao no mo to al nl ml tl)) r) : CallR Try.prog 45 [.agg [.loose ⟨0, 3, ar, 0⟩ nr, .loose ⟨1, 1, ao, 0⟩ no], .loose ⟨2, 1, al, 0⟩ nl] [[(0, (false, .cols mr [.int .i64 tr, .int .i64 vr, .int .i64 gr])), (1, (false, .cols mo [.bool to])), (2, (false, .cols ml [.int .i64 tl]))]] 3 ((V35 ar nr mr tr vr gr ao no mo to al nl ml tl) r) ((fun r => [newL (3 + 1) ((N35 ar nr mr tr vr gr ao no mo to al nl ml tl) r) ++ [(0, (false, .cols mr [.int .i64 tr, .int .i64 vr, .int .i64 gr])), (1, (false, .cols mo [.bool to])), (2, (false, .cols ml [.int .i64 tl]))]]) r) 400 ∧ ∃ F, Try.prog.funcs[45]? = some F ∧ F.body.isSome = true ∧ (F.name == "runtime.NumGoroutine") = false := by
  refine dec_calls (f := 45) (lo := 3) (hi := 400) (H := [[(0, (false, .cols mr [.int .i64 tr, .int .i64 vr, .int .i64 gr])), (1, (false, .cols mo [.bool to])), (2, (false, .cols ml [.int .i64 tl]))]]) (args := [.agg [.loose ⟨0, 3, ar, 0⟩ nr, .loose ⟨1, 1, ao, 0⟩ no], .loose ⟨2, 1, al, 0⟩ nl]) Try.envOk Try.mixed xC_ok ((I35 ar nr mr tr vr gr ao no mo to al nl ml tl)) ((V35 ar nr mr tr vr gr ao no mo to al nl ml tl)) (fun r => [newL (3 + 1) ((N35 ar nr mr tr vr gr ao no mo to al nl ml tl) r) ++ [(0, (false, .cols mr [.int .i64 tr, .int .i64 vr, .int .i64 gr])), (1, (false, .cols mo [.bool to])), (2, (false, .cols ml [.int .i64 tl]))]]) (fn := mkFn Try.f45) (ts := [1, 2, 7, 8, 9]) (n := 400) rfl (by decide) (by simp) (names_of rfl) ?_ ?_ ?_ h
  · intro s; cases s <;> exact ⟨hd_ok _ _, by simp [I35], names_of rfl, Nat.le_of_ble_eq_true rfl⟩
  · intro Kst Kret x hS hR h
    exact Holds.eq (te35 cond Kst Kret ar nr mr tr vr gr ao no mo to al nl ml tl) (be35 ar nr mr tr vr gr ao no mo to al nl ml tl Kst Kret x hS hR h)
  · intro Kst Kret x hS hR s h
    cases s with
    | h0 x0 => exact Holds.eq (t35_0 cond Kst Kret ar nr mr tr vr gr ao no mo to al nl ml tl x0) (b35_0 ar nr mr tr vr gr ao no mo to al nl ml tl Kst Kret x hS hR x0 h)
    | h1 x0 x1 x2 => exact Holds.eq (t35_1 cond Kst Kret ar nr mr tr vr gr ao no mo to al nl ml tl x0 x1 x2) (b35_1 ar nr mr tr vr gr ao no mo to al nl ml tl Kst Kret x hS hR x0 x1 x2 h)
noncomputable def k35 : Con := ⟨45, [.agg [.list [.int .i64, .int .i64, .int .i64], .list [.bool]], .one (.list [.int .i64])], fun (x : ((Nat × Nat × Nat × (Nat → Int) × (Nat → Int) × (Nat → Int) × Unit) × (Nat × Nat × Nat × (Nat → Bool) × Unit) × Unit) × (Nat × Nat × Nat × (Nat → Int) × Unit) × Unit) => (fun (ar nr mr : Nat) (tr : Nat → Int) (vr : Nat → Int) (gr : Nat → Int) (ao no mo : Nat) (to : Nat → Bool) (al nl ml : Nat) (tl : Nat → Int) => decide (ar + nr ≤ mr ∧ nr ≤ 1000000 ∧ ao + no ≤ mo ∧ no ≤ 1000000 ∧ al + nl ≤ ml ∧ nl ≤ 1000000)) x.1.1.1 x.1.1.2.1 x.1.1.2.2.1 x.1.1.2.2.2.1 x.1.1.2.2.2.2.1 x.1.1.2.2.2.2.2.1 x.1.2.1.1 x.1.2.1.2.1 x.1.2.1.2.2.1 x.1.2.1.2.2.2.1 x.2.1.1 x.2.1.2.1 x.2.1.2.2.1 x.2.1.2.2.2.1, fun (x : ((Nat × Nat × Nat × (Nat → Int) × (Nat → Int) × (Nat → Int) × Unit) × (Nat × Nat × Nat × (Nat → Bool) × Unit) × Unit) × (Nat × Nat × Nat × (Nat → Int) × Unit) × Unit) => (fun (ar nr mr : Nat) (tr : Nat → Int) (vr : Nat → Int) (gr : Nat → Int) (ao no mo : Nat) (to : Nat → Bool) (al nl ml : Nat) (tl : Nat → Int) => (V35 ar nr mr tr vr gr ao no mo to al nl ml tl) (S.erS nr (fun j => tr (j + ar)) (fun j => vr (j + ar)) (fun j => gr (j + ar)) no nl (fun j => tl (j + al)))) x.1.1.1 x.1.1.2.1 x.1.1.2.2.1 x.1.1.2.2.2.1 x.1.1.2.2.2.2.1 x.1.1.2.2.2.2.2.1 x.1.2.1.1 x.1.2.1.2.1 x.1.2.1.2.2.1 x.1.2.1.2.2.2.1 x.2.1.1 x.2.1.2.1 x.2.1.2.2.1 x.2.1.2.2.2.1, fun (x : ((Nat × Nat × Nat × (Nat → Int) × (Nat → Int) × (Nat → Int) × Unit) × (Nat × Nat × Nat × (Nat → Bool) × Unit) × Unit) × (Nat × Nat × Nat × (Nat → Int) × Unit) × Unit) => (fun (ar nr mr : Nat) (tr : Nat → Int) (vr : Nat → Int) (gr : Nat → Int) (ao no mo : Nat) (to : Nat → Bool) (al nl ml : Nat) (tl : Nat → Int) => (N35 ar nr mr tr vr gr ao no mo to al nl ml tl) (S.erS nr (fun j => tr (j + ar)) (fun j => vr (j + ar)) (fun j => gr (j + ar)) no nl (fun j => tl (j + al)))) x.1.1.1 x.1.1.2.1 x.1.1.2.2.1 x.1.1.2.2.2.1 x.1.1.2.2.2.2.1 x.1.1.2.2.2.2.2.1 x.1.2.1.1 x.1.2.1.2.1 x.1.2.1.2.2.1 x.1.2.1.2.2.2.1 x.2.1.1 x.2.1.2.1 x.2.1.2.2.1 x.2.1.2.2.2.1, fun _ _ => .dead⟩
end Go.Ev
