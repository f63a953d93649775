/-
  The parts that the statement needs, 2 of 2.
-/
import Derived.Test.YtjgllldbpmmodaaV5061
namespace Go.Ev
open Go.Proofs
open Go.RowKit Go.Shelf Go.Sort
set_option linter.unusedVariables false
set_option linter.unusedSimpArgs false
set_option maxRecDepth 100000
theorem a524 (ad nd md : Nat) (td : NI) (vd : Nat → ByteArray) (gd wd : NI) (cy st : Int) {r : Rt524} (h : Goes ((q524 ad nd md td vd gd wd cy st)) ((p524 ad nd md td vd gd wd cy st)) r) : CallR Try.prog 24 [.loose ⟨0, 4, ad, 0⟩ nd, .int .i64 cy, .int .i64 st] [[(0, (false, .cols md [.int .i64 td, .str vd, .int .i64 gd, .int .i64 wd]))]] 1 ((V524 ad nd md td vd gd wd cy st) r) ((J524 ad nd md td vd gd wd cy st) r) 400 ∧ ∃ F, Try.prog.funcs[24]? = some F ∧ F.body.isSome = true ∧ (F.name == "runtime.NumGoroutine") = false := by
  refine dec_calls (sy := true) (f := 24) (lo := 1) (hi := 400) (H := [[(0, (false, .cols md [.int .i64 td, .str vd, .int .i64 gd, .int .i64 wd]))]]) (args := [.loose ⟨0, 4, ad, 0⟩ nd, .int .i64 cy, .int .i64 st]) Try.envOk Try.mixed xT_ok ((I524 ad nd md td vd gd wd cy st)) ((V524 ad nd md td vd gd wd cy st)) (J524 ad nd md td vd gd wd cy st) (fn := mkFn Try.f24) (ts := [0, 1, 2, 9, 10]) (n := 400) rfl (by decide) (by simp) (names_of rfl) ?_ ?_ ?_ h
  · intro s; cases s <;> exact ⟨hd_ok _ _, by simp [I524], names_of rfl, Nat.le_of_ble_eq_true rfl⟩
  · intro Kst Kret x hS hR h
    exact Holds.eq (te524 cond Kst Kret ad nd md td vd gd wd cy st) (be524 ad nd md td vd gd wd cy st Kst Kret x hS hR h)
  · intro Kst Kret x hS hR s h
    cases s with
    | h0 x0 x1 => exact Holds.eq (t524_0 cond Kst Kret ad nd md td vd gd wd cy st x0 x1) (b524_0 ad nd md td vd gd wd cy st Kst Kret x hS hR x0 x1 h)
noncomputable abbrev w524 {α : Type} (g : Nat → Nat → Nat → (Nat → Int) → (Nat → ByteArray) → (Nat → Int) → (Nat → Int) → Int → Int → α) (x : (Nat × Nat × Nat × (Nat → Int) × (Nat → ByteArray) × (Nat → Int) × (Nat → Int) × Unit) × Int × Int × Unit) : α := g x.1.1 x.1.2.1 x.1.2.2.1 x.1.2.2.2.1 x.1.2.2.2.2.1 x.1.2.2.2.2.2.1 x.1.2.2.2.2.2.2.1 x.2.1 x.2.2.1
noncomputable def k524  : Con := ⟨24, [.one (.list [.int .i64, .str, .int .i64, .int .i64]), .one (.plain (.int .i64)), .one (.plain (.int .i64))], w524 (fun ad nd md td vd gd wd cy st => decide (ad + nd ≤ md ∧ nd ≤ 1000000)), w524 (fun ad nd md td vd gd wd cy st => (V524 ad nd md td vd gd wd cy st) ((S.telS nd (fun j => td (j + ad)) (fun j => vd (j + ad)) (fun j => gd (j + ad)) (fun j => wd (j + ad)) cy st).1, (S.telS nd (fun j => td (j + ad)) (fun j => vd (j + ad)) (fun j => gd (j + ad)) (fun j => wd (j + ad)) cy st).2)), w524 (fun ad nd md td vd gd wd cy st => (N524 ad nd md td vd gd wd cy st) ((S.telS nd (fun j => td (j + ad)) (fun j => vd (j + ad)) (fun j => gd (j + ad)) (fun j => wd (j + ad)) cy st).1, (S.telS nd (fun j => td (j + ad)) (fun j => vd (j + ad)) (fun j => gd (j + ad)) (fun j => wd (j + ad)) cy st).2)), fun _ _ => .dead⟩
theorem s524' (ad nd md : Nat) (td : Nat → Int) (vd : Nat → ByteArray) (gd wd : Nat → Int) (cy st : Int) (hp : ad + nd ≤ md ∧ nd ≤ 1000000) (hn : nd ≤ 100) (hc : ∀ j, j < nd → 0 ≤ gd (j + ad) ∧ gd (j + ad) ≤ 1099511627776) (hst : 0 ≤ st ∧ st ≤ 1099511627776) : ∀ k i : Nat, i + k = nd → (∀ j, j < i → (fun j => decide (st + gd (j + ad) ≤ 1099511627776)) j = true) → Comes (q524 ad nd md td vd gd wd cy st) (.h0 (i : Int) (S.sortE (S.mkl i (fun j => S.evT (fun j => td (j + ad)) (fun j => gd (j + ad)) (fun j => wd (j + ad)) cy st j)))) (if S.all (fun j => decide (st + gd (j + ad) ≤ 1099511627776)) nd = true then ((0 : Int), S.sortE (S.mkl nd (fun j => S.evT (fun j => td (j + ad)) (fun j => gd (j + ad)) (fun j => wd (j + ad)) cy st j))) else (6, [])) := by
  obtain ⟨hp1, hp2⟩ := hp
  intro k
  induction k with
  | zero =>
    intro i hi hj
    obtain rfl : nd = i := by omega
    rw [if_pos (all_iff.mpr hj)]
    have hl : List.length (S.sortE (S.mkl nd (fun j => S.evT (fun j => td (j + ad)) (fun j => gd (j + ad)) (fun j => wd (j + ad)) cy st j))) = nd := by rw [sortE_len, mkl_len]
    skip
    generalize (S.sortE (S.mkl nd (fun j => S.evT (fun j => td (j + ad)) (fun j => gd (j + ad)) (fun j => wd (j + ad)) cy st j))) = L at *
    apply Comes.of
    show Goes _ _ _
    rw [q524]
    skip
    repeat' (first | with_reducible refine goes_if (fun h => ?_) (fun h => ?_) <;> (try simp only [SH] at h) | exact goes_none.mpr (by omega))
    all_goals first | (exfalso; omega) | exact goes_inr.mpr rfl
  | succ k ih =>
    intro i hi hj
    have hci := hc i (by omega)
    by_cases h0 : st + gd (i + ad) ≤ 1099511627776
    · have ih := ih (i + 1) (by omega) (fun j h => by
        by_cases e : j = i
        · subst e; exact decide_eq_true h0
        · exact hj j (by omega))
      have e2 : ((i + 1 : Nat) : Int) = (i : Int) + 1 := by omega
      rw [e2] at ih
      clear hj hc
      have hl : List.length (S.sortE (S.mkl i (fun j => S.evT (fun j => td (j + ad)) (fun j => gd (j + ad)) (fun j => wd (j + ad)) cy st j))) = i := by rw [sortE_len, mkl_len]
      have hF : S.mkl i (fun j => (S.at' (S.sortE (S.mkl i (fun j => S.evT (fun j => td (j + ad)) (fun j => gd (j + ad)) (fun j => wd (j + ad)) cy st j))) j)) = (S.sortE (S.mkl i (fun j => S.evT (fun j => td (j + ad)) (fun j => gd (j + ad)) (fun j => wd (j + ad)) cy st j))) := sortE_at mkl_len
      have hs := put_sort (F := fun j => S.at' (S.sortE (S.mkl i (fun j => S.evT (fun j => td (j + ad)) (fun j => gd (j + ad)) (fun j => wd (j + ad)) cy st j))) j) (e := (fun j => S.evT (fun j => td (j + ad)) (fun j => gd (j + ad)) (fun j => wd (j + ad)) cy st j) i) hF
      rw [← sortE_snoc, ← mkl_succ] at hs
      rw [← hs] at ih
      clear hs hF
      have eG : (fun j => S.evT (fun j => td (j + ad)) (fun j => gd (j + ad)) (fun j => wd (j + ad)) cy st j) i = (st + gd (i + ad), td (i + ad), cy, wd (i + ad), 0) := rfl
      rw [eG] at ih
      clear eG
      generalize (if S.all (fun j => decide (st + gd (j + ad) ≤ 1099511627776)) nd = true then ((0 : Int), S.sortE (S.mkl nd (fun j => S.evT (fun j => td (j + ad)) (fun j => gd (j + ad)) (fun j => wd (j + ad)) cy st j))) else (6, [])) = R at *
      apply Comes.of
      show Goes _ _ _
      rw [q524]
      simp only [Int.toNat_natCast, hl]
      generalize (S.sortE (S.mkl i (fun j => S.evT (fun j => td (j + ad)) (fun j => gd (j + ad)) (fun j => wd (j + ad)) cy st j))) = L at *
      have eL : (fun j => ((S.at' L j).1, (S.at' L j).2.1, (S.at' L j).2.2.1, (S.at' L j).2.2.2.1, (S.at' L j).2.2.2.2)) = fun j => S.at' L j := rfl
      rw [eL]
      generalize (S.mkl (i + 1) fun j => S.inF (fun j => S.at' L j) _ _ j) = L2 at *
      clear eL
      repeat' (first | with_reducible refine goes_if (fun h => ?_) (fun h => ?_) <;> (try simp only [SH] at h) | exact goes_none.mpr (by omega))
      all_goals first | (exfalso; omega) | exact ih
    · rw [if_neg (all_no (i := i) (by omega) (decide_eq_false h0))]
      have hl : List.length (S.sortE (S.mkl i (fun j => S.evT (fun j => td (j + ad)) (fun j => gd (j + ad)) (fun j => wd (j + ad)) cy st j))) = i := by rw [sortE_len, mkl_len]
      clear hj hc
      generalize (S.sortE (S.mkl i (fun j => S.evT (fun j => td (j + ad)) (fun j => gd (j + ad)) (fun j => wd (j + ad)) cy st j))) = L at *
      apply Comes.of
      show Goes _ _ _
      rw [q524]
      simp only [Int.toNat_natCast]
      generalize (S.mkl _ _ : List (Int × Int × Int × Int × Int)) = L2 at *
      repeat' (first | with_reducible refine goes_if (fun h => ?_) (fun h => ?_) <;> (try simp only [SH] at h) | exact goes_none.mpr (by omega))
      all_goals first | (exfalso; omega) | exact goes_inr.mpr rfl
theorem s524 (ad nd md : Nat) (td : Nat → Int) (vd : Nat → ByteArray) (gd wd : Nat → Int) (cy st : Int) (hp : ad + nd ≤ md ∧ nd ≤ 1000000) : Goes ((q524 ad nd md td vd gd wd cy st)) ((p524 ad nd md td vd gd wd cy st)) (((S.telS nd (fun j => td (j + ad)) (fun j => vd (j + ad)) (fun j => gd (j + ad)) (fun j => wd (j + ad)) cy st).1, (S.telS nd (fun j => td (j + ad)) (fun j => vd (j + ad)) (fun j => gd (j + ad)) (fun j => wd (j + ad)) cy st).2)) := by
  have hp' := hp
  have c1 : ad + nd ≤ md ∧ nd ≤ 1000000 := hp
  have hd := defS_ok (n := nd) (a := fun j => td (j + ad)) (b := fun j => vd (j + ad)) (c := fun j => gd (j + ad)) (d := fun j => wd (j + ad))
  have hm := fun h : S.defS nd (fun j => td (j + ad)) (fun j => vd (j + ad)) (fun j => gd (j + ad)) (fun j => wd (j + ad)) = 0 => fun hst => s524' ad nd md td vd gd wd cy st hp' (hd h).1 (hd h).2 hst nd 0 (by omega) (fun j h => by omega)
  have e0 : (S.sortE (S.mkl 0 (fun j => S.evT (fun j => td (j + ad)) (fun j => gd (j + ad)) (fun j => wd (j + ad)) cy st j))) = [] := sortE_nil
  rw [e0] at hm
  show Goes _ _ (S.telS nd (fun j => td (j + ad)) (fun j => vd (j + ad)) (fun j => gd (j + ad)) (fun j => wd (j + ad)) cy st)
  unfold S.telS
  clear hd
  generalize (if S.all (fun j => decide (st + gd (j + ad) ≤ 1099511627776)) nd = true then ((0 : Int), S.sortE (S.mkl nd (fun j => S.evT (fun j => td (j + ad)) (fun j => gd (j + ad)) (fun j => wd (j + ad)) cy st j))) else (6, [])) = R at *
  unfold p524
  generalize S.defS nd (fun j => td (j + ad)) (fun j => vd (j + ad)) (fun j => gd (j + ad)) (fun j => wd (j + ad)) = E at *
  simp only [decide_eq_true c1, cond_true]
  by_cases h0 : E = 0
  · have hm2 := hm h0
    subst h0
    rw [if_pos rfl]
    repeat' (first | with_reducible refine goes_if (fun h => ?_) (fun h => ?_) <;> (try simp only [SH] at h) | exact goes_none.mpr (by omega))
    all_goals first
      | (exfalso; omega)
      | (exfalso; simp at *; done)
      | (rw [if_neg (by omega)]; exact goes_inr.mpr rfl)
      | (rw [if_pos (by omega)]; exact hm2 (by omega))
  · rw [if_neg h0]
    exact goes_ok (by simpa using h0) (goes_inr.mpr rfl)
theorem k524_ok  : k524.ok Try.prog := by
  intro x hx
  obtain ⟨⟨ad, nd, md, td, vd, gd, wd, _⟩, cy, st, _⟩ := x
  obtain ⟨h1, h2⟩ := a524 ad nd md td vd gd wd cy st (s524 ad nd md td vd gd wd cy st (of_dec hx rfl))
  exact ⟨⟨400, (by decide : 1 + 1 + 1 ≤ 400), h1⟩, h2⟩
noncomputable abbrev w523 {α : Type} (g : Nat → Nat → Nat → (Nat → Int) → (Nat → ByteArray) → (Nat → Int) → (Nat → Int) → α) (x : (Nat × Nat × Nat × (Nat → Int) × (Nat → ByteArray) × (Nat → Int) × (Nat → Int) × Unit) × Unit) : α := g x.1.1 x.1.2.1 x.1.2.2.1 x.1.2.2.2.1 x.1.2.2.2.2.1 x.1.2.2.2.2.2.1 x.1.2.2.2.2.2.2.1
noncomputable def k523  : Con := ⟨23, [.one (.list [.int .i64, .str, .int .i64, .int .i64])], w523 (fun aa na ma ta va ga wa => decide (aa + na ≤ ma ∧ na ≤ 1000000)), w523 (fun aa na ma ta va ga wa => .own 2 4 na), w523 (fun aa na ma ta va ga wa => [.cols na [.int .i64 (fun j => ta (j + aa)), .str (fun j => va (j + aa)), .int .i64 (fun j => ga (j + aa)), .int .i64 (fun j => wa (j + aa))]]), fun _ _ => .dead⟩
theorem e523s (test : Bool → Prop → Prop → Prop) (Kst : List It → List PV → Heap → Nat → Prop) (Kret : PV → Heap → Nat → Prop) (aa na ma : Nat) (ta : Nat → Int) (va : Nat → ByteArray) (ga wa : Nat → Int) :
  (run test Try.env true noX true 300 ⟨23, [.cd (mkFn Try.f23).body], argT 0 [.sl ⟨0, 4, aa, 0⟩ na], [[], [(0, (false, .cols ma [.int .i64 ta, .str va, .int .i64 ga, .int .i64 wa]))]], 1⟩ (proj 1 [] Kst Kret)) =
  (test (decide (0 + na ≤ 1000000))
  (test true
    (test (decide (aa + na ≤ ma))
      (Kret (PV.own (2) (4) (0 + na))
        [[(0, false,
              Blk.cols ma [Col.int IntKind.i64 ta, Col.str va, Col.int IntKind.i64 ga, Col.int IntKind.i64 wa]),
            (2, true,
              Blk.cols (0 + na)
                [Col.int IntKind.i64 fun j => ta (j + aa), Col.str fun j => va (j + aa),
                  Col.int IntKind.i64 fun j => ga (j + aa), Col.int IntKind.i64 fun j => wa (j + aa)])]]
        (3))
      False)
    False)
  False) := by kernel_rfl
theorem c523s (aa na ma : Nat) (ta : NI) (va : Nat → ByteArray) (ga wa : NI) (hp : aa + na ≤ ma ∧ na ≤ 1000000) (h0 : 0 < na) : CallR Try.prog 23 [.sl ⟨0, 4, aa, 0⟩ na] [[(0, (false, .cols ma [.int .i64 ta, .str va, .int .i64 ga, .int .i64 wa]))]] 1 (.own 2 4 na) [(2, (true, .cols na [.int .i64 (fun j => ta (j + aa)), .str (fun j => va (j + aa)), .int .i64 (fun j => ga (j + aa)), .int .i64 (fun j => wa (j + aa))])) :: [(0, (false, .cols ma [.int .i64 ta, .str va, .int .i64 ga, .int .i64 wa]))]] 40 ∧ ∃ F, Try.prog.funcs[23]? = some F ∧ F.body.isSome = true ∧ (F.name == "runtime.NumGoroutine") = false := by
  refine @ret_eq _ _ Try.envOk Try.mixed _ noX_ok 23 (mkFn Try.f23) [.sl ⟨0, 4, aa, 0⟩ na] [[(0, (false, .cols ma [.int .i64 ta, .str va, .int .i64 ga, .int .i64 wa]))]] [(2, (true, .cols na [.int .i64 (fun j => ta (j + aa)), .str (fun j => va (j + aa)), .int .i64 (fun j => ga (j + aa)), .int .i64 (fun j => wa (j + aa))])) :: [(0, (false, .cols ma [.int .i64 ta, .str va, .int .i64 ga, .int .i64 wa]))]] 1 40 (.own 2 4 na) true 300 rfl (by decide) (by simp) (names_of rfl) _ (e523s cond _ _ aa na ma ta va ga wa) ?_
  repeat' first
    | with_reducible refine cond_yes rfl ?_
    | with_reducible refine cond_no rfl ?_
    | (with_reducible refine cond_intro (fun h => ?_) (fun h => ?_)) <;> (try simp only [lim64, decide_eq_true_eq, decide_eq_false_iff_not, reduceCtorEq, Int.toNat_natCast, Bool.not_eq_true', Bool.not_eq_false', Bool.and_eq_true, Bool.or_eq_true, Bool.and_eq_false_iff, Bool.or_eq_false_iff, bne_iff_ne, beq_iff_eq, bne_eq_false_iff_eq, beq_eq_false_iff_ne, ne_eq] at h)
  all_goals first
    | with_reducible apply ret_k
    | omega
  repeat' first
    | with_reducible exact rns_nil
    | with_reducible refine rns_cons ?_ ?_
    | with_reducible refine rn_tup ?_
    | with_reducible refine rn_agg ?_
    | with_reducible refine rn_int ?_
    | with_reducible refine rn_tf ?_
    | with_reducible refine rn_bool_tf ?_
    | with_reducible refine rn_bool ?_
    | with_reducible refine rn_str ?_
    | with_reducible exact rn_nils
    | with_reducible refine rn_own_nils ?_
    | with_reducible refine rn_own ?_ ?_ ?_
    | with_reducible refine rn_own_sl ?_ ?_ ?_ ?_ ?_
    | with_reducible refine rn_own_loose ?_ ?_ ?_ ?_
    | with_reducible refine rn_loose ?_ ?_ ?_ ?_
    | with_reducible refine rn_loose_sl ?_ ?_ ?_ ?_
    | exact use_lo rfl
    | exact use_own rfl
    | exact nm_k rfl
    | exact nm_lo rfl
    | ((with_reducible refine (id : pos _ = pos _ → _) ?_); exact rfl)
    | ((with_reducible refine (id : pos _ = 0 → _) ?_); exact rfl)
    | ((with_reducible refine (id : Nat.ble _ _ = true → _) ?_); exact rfl)
    | ((with_reducible refine (id : injL _ _ = true → _) ?_); exact rfl)
    | ((with_reducible refine (id : plainC _ = true → _) ?_); exact rfl)
    | ((with_reducible refine (id : hget _ _ = some _ → _) ?_); exact rfl)
    | with_reducible exact (id : (_ : Bool) = true → _ = true)
    | with_reducible exact entl_nil
    | with_reducible refine entl_bor ?_ ?_ ?_ ?_
    | refine entl_new (use_own rfl) (by rfl) ?_ ?_ ?_
    | refine entl_rows (use_own rfl) (by rfl) rfl ?_ (nthc_all ?_) ?_
    | refine entl_zero (use_own rfl) (by rfl) (by simp) (by omega) ?_
    | with_reducible exact rcs_nil
    | with_reducible refine rcs_int (fun j hj => ?_) ?_
    | with_reducible refine rcs_bool (fun j hj => ?_) ?_
    | with_reducible refine rcs_str (fun j hj => ?_) ?_
    | refine entl_fresh (k := 2) (use_own rfl) (fresh_ok (n := 39) rfl) ?_
    | with_reducible rfl
  all_goals try exact (0 : Nat)
  all_goals try ((with_reducible refine (id : injL _ _ = true → _) ?_); exact rfl)
  all_goals first
    | omega
    | skip
theorem e523z (test : Bool → Prop → Prop → Prop) (Kst : List It → List PV → Heap → Nat → Prop) (Kret : PV → Heap → Nat → Prop) (aa na ma : Nat) (ta : Nat → Int) (va : Nat → ByteArray) (ga wa : Nat → Int) :
  (run test Try.env true noX true 300 ⟨23, [.cd (mkFn Try.f23).body], argT 0 [.zer true], [[], [(0, (false, .cols ma [.int .i64 ta, .str va, .int .i64 ga, .int .i64 wa]))]], 1⟩ (proj 1 [] Kst Kret)) =
  (Kret (PV.own (1) (4) (0))
  [[(0, false,
        Blk.cols ma [Col.int IntKind.i64 ta, Col.str va, Col.int IntKind.i64 ga, Col.int IntKind.i64 wa]),
      (1, true, Blk.cells [])]]
  (2)) := by kernel_rfl
theorem c523z (aa na ma : Nat) (ta : NI) (va : Nat → ByteArray) (ga wa : NI) (hp : aa + na ≤ ma ∧ na ≤ 1000000) (h0 : na = 0) : CallR Try.prog 23 [.zer true] [[(0, (false, .cols ma [.int .i64 ta, .str va, .int .i64 ga, .int .i64 wa]))]] 1 (.own 2 4 na) [(2, (true, .cols na [.int .i64 (fun j => ta (j + aa)), .str (fun j => va (j + aa)), .int .i64 (fun j => ga (j + aa)), .int .i64 (fun j => wa (j + aa))])) :: [(0, (false, .cols ma [.int .i64 ta, .str va, .int .i64 ga, .int .i64 wa]))]] 40 ∧ ∃ F, Try.prog.funcs[23]? = some F ∧ F.body.isSome = true ∧ (F.name == "runtime.NumGoroutine") = false := by
  refine @ret_eq _ _ Try.envOk Try.mixed _ noX_ok 23 (mkFn Try.f23) [.zer true] [[(0, (false, .cols ma [.int .i64 ta, .str va, .int .i64 ga, .int .i64 wa]))]] [(2, (true, .cols na [.int .i64 (fun j => ta (j + aa)), .str (fun j => va (j + aa)), .int .i64 (fun j => ga (j + aa)), .int .i64 (fun j => wa (j + aa))])) :: [(0, (false, .cols ma [.int .i64 ta, .str va, .int .i64 ga, .int .i64 wa]))]] 1 40 (.own 2 4 na) true 300 rfl (by decide) (by simp) (names_of rfl) _ (e523z cond _ _ aa na ma ta va ga wa) ?_
  repeat' first
    | with_reducible refine cond_yes rfl ?_
    | with_reducible refine cond_no rfl ?_
    | (with_reducible refine cond_intro (fun h => ?_) (fun h => ?_)) <;> (try simp only [lim64, decide_eq_true_eq, decide_eq_false_iff_not, reduceCtorEq, Int.toNat_natCast, Bool.not_eq_true', Bool.not_eq_false', Bool.and_eq_true, Bool.or_eq_true, Bool.and_eq_false_iff, Bool.or_eq_false_iff, bne_iff_ne, beq_iff_eq, bne_eq_false_iff_eq, beq_eq_false_iff_ne, ne_eq] at h)
  all_goals first
    | with_reducible apply ret_k
    | omega
  repeat' first
    | with_reducible exact rns_nil
    | with_reducible refine rns_cons ?_ ?_
    | with_reducible refine rn_tup ?_
    | with_reducible refine rn_agg ?_
    | with_reducible refine rn_int ?_
    | with_reducible refine rn_tf ?_
    | with_reducible refine rn_bool_tf ?_
    | with_reducible refine rn_bool ?_
    | with_reducible refine rn_str ?_
    | with_reducible exact rn_nils
    | with_reducible refine rn_own_nils ?_
    | with_reducible refine rn_own ?_ ?_ ?_
    | with_reducible refine rn_own_sl ?_ ?_ ?_ ?_ ?_
    | with_reducible refine rn_own_loose ?_ ?_ ?_ ?_
    | with_reducible refine rn_loose ?_ ?_ ?_ ?_
    | with_reducible refine rn_loose_sl ?_ ?_ ?_ ?_
    | exact use_lo rfl
    | exact use_own rfl
    | exact nm_k rfl
    | exact nm_lo rfl
    | ((with_reducible refine (id : pos _ = pos _ → _) ?_); exact rfl)
    | ((with_reducible refine (id : pos _ = 0 → _) ?_); exact rfl)
    | ((with_reducible refine (id : Nat.ble _ _ = true → _) ?_); exact rfl)
    | ((with_reducible refine (id : injL _ _ = true → _) ?_); exact rfl)
    | ((with_reducible refine (id : plainC _ = true → _) ?_); exact rfl)
    | ((with_reducible refine (id : hget _ _ = some _ → _) ?_); exact rfl)
    | with_reducible exact (id : (_ : Bool) = true → _ = true)
    | with_reducible exact entl_nil
    | with_reducible refine entl_bor ?_ ?_ ?_ ?_
    | refine entl_new (use_own rfl) (by rfl) ?_ ?_ ?_
    | refine entl_rows (use_own rfl) (by rfl) rfl ?_ (nthc_all ?_) ?_
    | refine entl_zero (use_own rfl) (by rfl) (by simp) (by omega) ?_
    | with_reducible exact rcs_nil
    | with_reducible refine rcs_int (fun j hj => ?_) ?_
    | with_reducible refine rcs_bool (fun j hj => ?_) ?_
    | with_reducible refine rcs_str (fun j hj => ?_) ?_
    | refine entl_fresh (k := 2) (use_own rfl) (fresh_ok (n := 39) rfl) ?_
    | with_reducible rfl
  all_goals try exact (0 : Nat)
  all_goals try ((with_reducible refine (id : injL _ _ = true → _) ?_); exact rfl)
  all_goals first
    | omega
    | skip
theorem e523y (test : Bool → Prop → Prop → Prop) (Kst : List It → List PV → Heap → Nat → Prop) (Kret : PV → Heap → Nat → Prop) (aa na ma : Nat) (ta : Nat → Int) (va : Nat → ByteArray) (ga wa : Nat → Int) :
  (run test Try.env true noX true 300 ⟨23, [.cd (mkFn Try.f23).body], argT 0 [.zer false], [[], [(0, (false, .cols ma [.int .i64 ta, .str va, .int .i64 ga, .int .i64 wa]))]], 1⟩ (proj 1 [] Kst Kret)) =
  (Kret PV.nils
  [[(0, false,
        Blk.cols ma [Col.int IntKind.i64 ta, Col.str va, Col.int IntKind.i64 ga, Col.int IntKind.i64 wa])]]
  (1)) := by kernel_rfl
theorem c523y (aa na ma : Nat) (ta : NI) (va : Nat → ByteArray) (ga wa : NI) (hp : aa + na ≤ ma ∧ na ≤ 1000000) (h0 : na = 0) : CallR Try.prog 23 [.zer false] [[(0, (false, .cols ma [.int .i64 ta, .str va, .int .i64 ga, .int .i64 wa]))]] 1 (.own 2 4 na) [(2, (true, .cols na [.int .i64 (fun j => ta (j + aa)), .str (fun j => va (j + aa)), .int .i64 (fun j => ga (j + aa)), .int .i64 (fun j => wa (j + aa))])) :: [(0, (false, .cols ma [.int .i64 ta, .str va, .int .i64 ga, .int .i64 wa]))]] 40 ∧ ∃ F, Try.prog.funcs[23]? = some F ∧ F.body.isSome = true ∧ (F.name == "runtime.NumGoroutine") = false := by
  refine @ret_eq _ _ Try.envOk Try.mixed _ noX_ok 23 (mkFn Try.f23) [.zer false] [[(0, (false, .cols ma [.int .i64 ta, .str va, .int .i64 ga, .int .i64 wa]))]] [(2, (true, .cols na [.int .i64 (fun j => ta (j + aa)), .str (fun j => va (j + aa)), .int .i64 (fun j => ga (j + aa)), .int .i64 (fun j => wa (j + aa))])) :: [(0, (false, .cols ma [.int .i64 ta, .str va, .int .i64 ga, .int .i64 wa]))]] 1 40 (.own 2 4 na) true 300 rfl (by decide) (by simp) (names_of rfl) _ (e523y cond _ _ aa na ma ta va ga wa) ?_
  repeat' first
    | with_reducible refine cond_yes rfl ?_
    | with_reducible refine cond_no rfl ?_
    | (with_reducible refine cond_intro (fun h => ?_) (fun h => ?_)) <;> (try simp only [lim64, decide_eq_true_eq, decide_eq_false_iff_not, reduceCtorEq, Int.toNat_natCast, Bool.not_eq_true', Bool.not_eq_false', Bool.and_eq_true, Bool.or_eq_true, Bool.and_eq_false_iff, Bool.or_eq_false_iff, bne_iff_ne, beq_iff_eq, bne_eq_false_iff_eq, beq_eq_false_iff_ne, ne_eq] at h)
  all_goals first
    | with_reducible apply ret_k
    | omega
  repeat' first
    | with_reducible exact rns_nil
    | with_reducible refine rns_cons ?_ ?_
    | with_reducible refine rn_tup ?_
    | with_reducible refine rn_agg ?_
    | with_reducible refine rn_int ?_
    | with_reducible refine rn_tf ?_
    | with_reducible refine rn_bool_tf ?_
    | with_reducible refine rn_bool ?_
    | with_reducible refine rn_str ?_
    | with_reducible exact rn_nils
    | with_reducible refine rn_own_nils ?_
    | with_reducible refine rn_own ?_ ?_ ?_
    | with_reducible refine rn_own_sl ?_ ?_ ?_ ?_ ?_
    | with_reducible refine rn_own_loose ?_ ?_ ?_ ?_
    | with_reducible refine rn_loose ?_ ?_ ?_ ?_
    | with_reducible refine rn_loose_sl ?_ ?_ ?_ ?_
    | exact use_lo rfl
    | exact use_own rfl
    | exact nm_k rfl
    | exact nm_lo rfl
    | ((with_reducible refine (id : pos _ = pos _ → _) ?_); exact rfl)
    | ((with_reducible refine (id : pos _ = 0 → _) ?_); exact rfl)
    | ((with_reducible refine (id : Nat.ble _ _ = true → _) ?_); exact rfl)
    | ((with_reducible refine (id : injL _ _ = true → _) ?_); exact rfl)
    | ((with_reducible refine (id : plainC _ = true → _) ?_); exact rfl)
    | ((with_reducible refine (id : hget _ _ = some _ → _) ?_); exact rfl)
    | with_reducible exact (id : (_ : Bool) = true → _ = true)
    | with_reducible exact entl_nil
    | with_reducible refine entl_bor ?_ ?_ ?_ ?_
    | refine entl_new (use_own rfl) (by rfl) ?_ ?_ ?_
    | refine entl_rows (use_own rfl) (by rfl) rfl ?_ (nthc_all ?_) ?_
    | refine entl_zero (use_own rfl) (by rfl) (by simp) (by omega) ?_
    | with_reducible exact rcs_nil
    | with_reducible refine rcs_int (fun j hj => ?_) ?_
    | with_reducible refine rcs_bool (fun j hj => ?_) ?_
    | with_reducible refine rcs_str (fun j hj => ?_) ?_
    | refine entl_fresh (k := 2) (use_own rfl) (fresh_ok (n := 39) rfl) ?_
    | with_reducible rfl
  all_goals try exact (0 : Nat)
  all_goals try ((with_reducible refine (id : injL _ _ = true → _) ?_); exact rfl)
  all_goals first
    | omega
    | skip
theorem c523 (aa na ma : Nat) (ta : NI) (va : Nat → ByteArray) (ga wa : NI) (hp : aa + na ≤ ma ∧ na ≤ 1000000) : CallR Try.prog 23 [.loose ⟨0, 4, aa, 0⟩ na] [[(0, (false, .cols ma [.int .i64 ta, .str va, .int .i64 ga, .int .i64 wa]))]] 1 (.own 2 4 na) [(2, (true, .cols na [.int .i64 (fun j => ta (j + aa)), .str (fun j => va (j + aa)), .int .i64 (fun j => ga (j + aa)), .int .i64 (fun j => wa (j + aa))])) :: [(0, (false, .cols ma [.int .i64 ta, .str va, .int .i64 ga, .int .i64 wa]))]] 40 ∧ ∃ F, Try.prog.funcs[23]? = some F ∧ F.body.isSome = true ∧ (F.name == "runtime.NumGoroutine") = false :=
  ⟨loose_cases (fun h => (c523s aa na ma ta va ga wa hp h).1) (fun h b => by cases b; exact (c523y aa na ma ta va ga wa hp h).1; exact (c523z aa na ma ta va ga wa hp h).1), by
    rcases Nat.eq_zero_or_pos na with h | h
    · exact (c523y aa na ma ta va ga wa hp h).2
    · exact (c523s aa na ma ta va ga wa hp h).2⟩
theorem k523_ok  : k523.ok Try.prog := by
  intro x hx
  obtain ⟨⟨aa, na, ma, ta, va, ga, wa, _⟩, _⟩ := x
  have hp : aa + na ≤ ma ∧ na ≤ 1000000 := of_decide_eq_true hx
  obtain ⟨h1, h2⟩ := c523 aa na ma ta va ga wa hp
  exact ⟨⟨40, (by decide : 1 + 1 + 1 ≤ 40), h1⟩, h2⟩
noncomputable def xU (test : Bool → Prop → Prop → Prop) : Ext := consX test [k12, k21, k523, k522, k524, k620]
theorem xU_ok  : ExtOk Try.prog (xU cond) := consX_ok ⟨k12_ok, k21_ok, k523_ok, k522_ok, k524_ok, k620_ok, trivial⟩
theorem samL_self  {n : Nat} {a b c d e : Nat → Int} : S.samL n a b c d e n a b c d e = true := decide_eq_true rfl
theorem telS_len  {n : Nat} {a : Nat → Int} {b : Nat → ByteArray} {c d : Nat → Int} {cy st : Int} : (S.telS n a b c d cy st).2.length ≤ n := by
  unfold S.telS
  (repeat' split) <;> first | exact Nat.zero_le _ | (show (S.sortE _).length ≤ n; rw [sortE_len, mkl_len]; exact Nat.le_refl _)
noncomputable abbrev c506_e_0 (ad nd : Nat) (td : NI) (vd : Nat → ByteArray) (gd wd : NI) (cy st : Int) := Prod.snd (S.telS nd (fun j => td (j + ad)) (fun j => vd (j + ad)) (fun j => gd (j + ad)) (fun j => wd (j + ad)) cy st)
noncomputable abbrev c506_e_1 (ad nd : Nat) (td : NI) (vd : Nat → ByteArray) (gd wd : NI) (cy st : Int) := S.samL (List.length (Prod.snd (S.telS nd (fun j => td (j + ad)) (fun j => vd (j + ad)) (fun j => gd (j + ad)) (fun j => wd (j + ad)) cy st))) (fun j => Prod.fst (S.at' (Prod.snd (S.telS nd (fun j => td (j + ad)) (fun j => vd (j + ad)) (fun j => gd (j + ad)) (fun j => wd (j + ad)) cy st)) j)) (fun j => Prod.fst (Prod.snd (S.at' (c506_e_0 ad nd td vd gd wd cy st) j))) (fun j => Prod.fst (Prod.snd (Prod.snd (S.at' (c506_e_0 ad nd td vd gd wd cy st) j)))) (fun j => Prod.fst (Prod.snd (Prod.snd (Prod.snd (S.at' (c506_e_0 ad nd td vd gd wd cy st) j))))) (fun j => Prod.snd (Prod.snd (Prod.snd (Prod.snd (S.at' (c506_e_0 ad nd td vd gd wd cy st) j))))) (List.length (Prod.snd (S.telS nd (fun j => td (j + ad)) (fun j => vd (j + ad)) (fun j => gd (j + ad)) (fun j => wd (j + ad)) cy st))) (fun j => Prod.fst (S.at' (Prod.snd (S.telS nd (fun j => td (j + ad)) (fun j => vd (j + ad)) (fun j => gd (j + ad)) (fun j => wd (j + ad)) cy st)) j)) (fun j => Prod.fst (Prod.snd (S.at' (c506_e_0 ad nd td vd gd wd cy st) j))) (fun j => Prod.fst (Prod.snd (Prod.snd (S.at' (c506_e_0 ad nd td vd gd wd cy st) j)))) (fun j => Prod.fst (Prod.snd (Prod.snd (Prod.snd (S.at' (c506_e_0 ad nd td vd gd wd cy st) j))))) fun j => Prod.snd (Prod.snd (Prod.snd (Prod.snd (S.at' (c506_e_0 ad nd td vd gd wd cy st) j))))
abbrev St506  := Empty
abbrev Rt506  := Bool
noncomputable def V506 (ad nd md : Nat) (td : NI) (vd : Nat → ByteArray) (gd wd : NI) (cy st : Int) (r : Rt506) : PV := PV.bool r
noncomputable def N506 (ad nd md : Nat) (td : NI) (vd : Nat → ByteArray) (gd wd : NI) (cy st : Int) (r : Rt506) : List Blk := []
noncomputable def I506 (ad nd md : Nat) (td : NI) (vd : Nat → ByteArray) (gd wd : NI) (cy st : Int) : St506 → Hd := fun s => s.elim
noncomputable def q506 (ad nd md : Nat) (td : NI) (vd : Nat → ByteArray) (gd wd : NI) (cy st : Int) : St506 → Option (St506 ⊕ Rt506) := fun s => s.elim
noncomputable def p506 (ad nd md : Nat) (td : NI) (vd : Nat → ByteArray) (gd wd : NI) (cy st : Int) : Option (St506 ⊕ Rt506) := bif (decide ((↑nd : Int) > 110)) then (some (.inr (true))) else (bif (decide (ad + nd ≤ md ∧ nd ≤ 1000000)) then (bif (S.any (fun j => decide ((↑(ByteArray.size (vd (j + ad))) : Int) > 40)) nd) then (some (.inr (true))) else (bif (decide (0 + nd ≤ nd ∧ nd ≤ 1000000)) then (bif (Prod.fst (S.telS nd (fun j => td (j + ad)) (fun j => vd (j + ad)) (fun j => gd (j + ad)) (fun j => wd (j + ad)) cy st) == Prod.fst (S.telS nd (fun j => td (j + ad)) (fun j => vd (j + ad)) (fun j => gd (j + ad)) (fun j => wd (j + ad)) cy st)) then (bif (decide (0 + List.length (c506_e_0 ad nd td vd gd wd cy st) ≤ List.length (Prod.snd (S.telS nd (fun j => td (j + ad)) (fun j => vd (j + ad)) (fun j => gd (j + ad)) (fun j => wd (j + ad)) cy st)) ∧ List.length (c506_e_0 ad nd td vd gd wd cy st) ≤ 1000000 ∧ 0 + List.length (c506_e_0 ad nd td vd gd wd cy st) ≤ List.length (c506_e_0 ad nd td vd gd wd cy st) ∧ List.length (c506_e_0 ad nd td vd gd wd cy st) ≤ 1000000)) then (bif (c506_e_1 ad nd td vd gd wd cy st) then (some (.inr (true))) else (some (.inr (false)))) else (none)) else (some (.inr (false)))) else (none))) else (none))
noncomputable abbrev u506_e_0 (md : Nat) (td : Nat → Int) (vd : Nat → ByteArray) (gd wd : Nat → Int) := [[(0, false, Blk.cols md [Col.int IntKind.i64 td, Col.str vd, Col.int IntKind.i64 gd, Col.int IntKind.i64 wd])]]
def Te506 (test : TT) (Kst : KS) (Kret : KR) (ad nd md : Nat) (td : NI) (vd : Nat → ByteArray) (gd wd : NI) (cy st : Int) : Prop := test (true) (test (true) (test (decide ((↑nd : Int) > 110)) (test (true) (test (true) (Kret (PV.tf true) (u506_e_0 md td vd gd wd) (3)) (Kret (PV.tf false) (u506_e_0 md td vd gd wd) (3))) (False)) (test (decide (ad + nd ≤ md ∧ nd ≤ 1000000)) (test (S.any (fun j => decide ((↑(ByteArray.size (vd (j + ad))) : Int) > 40)) nd) (test (true) (test (true) (Kret (PV.tf true) (u506_e_0 md td vd gd wd) (4)) (Kret (PV.tf false) (u506_e_0 md td vd gd wd) (4))) (False)) (test (decide (ad + nd ≤ md ∧ nd ≤ 1000000)) (test (decide (0 + nd ≤ nd ∧ nd ≤ 1000000)) (test (decide (ad + nd ≤ md ∧ nd ≤ 1000000)) (test ((S.telS nd (fun j => td (j + ad)) (fun j => vd (j + ad)) (fun j => gd (j + ad)) (fun j => wd (j + ad)) cy st).1 == (S.telS nd (fun j => td (j + ad)) (fun j => vd (j + ad)) (fun j => gd (j + ad)) (fun j => wd (j + ad)) cy st).1) (test (decide (0 + List.length (c506_e_0 ad nd td vd gd wd cy st) ≤ List.length (S.telS nd (fun j => td (j + ad)) (fun j => vd (j + ad)) (fun j => gd (j + ad)) (fun j => wd (j + ad)) cy st).2 ∧ List.length (c506_e_0 ad nd td vd gd wd cy st) ≤ 1000000 ∧ 0 + List.length (c506_e_0 ad nd td vd gd wd cy st) ≤ List.length (c506_e_0 ad nd td vd gd wd cy st) ∧ List.length (c506_e_0 ad nd td vd gd wd cy st) ≤ 1000000)) (test (c506_e_1 ad nd td vd gd wd cy st) (Kret (PV.tf true) (u506_e_0 md td vd gd wd) (10)) (Kret (PV.tf false) (u506_e_0 md td vd gd wd) (10))) (False)) (Kret (PV.tf false) (u506_e_0 md td vd gd wd) (9))) (False)) (False)) (False))) (False))) (test (true) (test (true) (Kret (PV.tf true) (u506_e_0 md td vd gd wd) (3)) (Kret (PV.tf false) (u506_e_0 md td vd gd wd) (3))) (False))) (False)
theorem te506 (test : TT) (Kst : KS) (Kret : KR) (ad nd md : Nat) (td : NI) (vd : Nat → ByteArray) (gd wd : NI) (cy st : Int) : run test Try.env true (xU test) true 400 ⟨6, [.cd (mkFn Try.f6).body], argT 0 [.loose ⟨0, 4, ad, 0⟩ nd, .int .i64 cy, .int .i64 st], [[], [(0, (false, .cols md [.int .i64 td, .str vd, .int .i64 gd, .int .i64 wd]))]], 1⟩ (proj 1 [] Kst Kret) =
  Te506 test Kst Kret ad nd md td vd gd wd cy st := by kernel_rfl
noncomputable abbrev J506 (ad nd md : Nat) (td : NI) (vd : Nat → ByteArray) (gd : NI) (wd : NI) (cy : Int) (st : Int) : Rt506 → Heap := fun r => [newL (1 + 1) ((N506 ad nd md td vd gd wd cy st) r) ++ [(0, (false, .cols md [.int .i64 td, .str vd, .int .i64 gd, .int .i64 wd]))]]
attribute [local irreducible] Int.subNatNat in
theorem be506 (ad nd md : Nat) (td : NI) (vd : Nat → ByteArray) (gd wd : NI) (cy st : Int) (Kst : KS) (Kret : KR) (x : St506 ⊕ Rt506) (hS : HS 1 400 ((I506 ad nd md td vd gd wd cy st)) Kst x) (hR : HR 1 400 ((V506 ad nd md td vd gd wd cy st)) (J506 ad nd md td vd gd wd cy st) Kret x) (h : p506 ad nd md td vd gd wd cy st = some x) : Te506 cond Kst Kret ad nd md td vd gd wd cy st := by
  unfold Te506
  unfold p506 at h
  exact cond_yes rfl (cond_yes rfl (bif_split h (fun c0 h => cond_yes rfl (cond_yes rfl (ret_at hR _ h (fun n => n) rfl rfl rfl (rn_bool_tf rfl) rfl (entl_bor (use_lo rfl) rfl rfl entl_nil)))) (fun c0 h => bif_split h (fun c1 h => bif_split h (fun c2 h => cond_yes rfl (cond_yes rfl (ret_at hR _ h (fun n => n) rfl rfl rfl (rn_bool_tf rfl) rfl (entl_bor (use_lo rfl) rfl rfl entl_nil)))) (fun c2 h => cond_yes c1 (bif_split h (fun c3 h => cond_yes c1 (bif_split h (fun c4 h => bif_split h (fun c5 h => bif_split h (fun c6 h => ret_at hR _ h (fun n => n) rfl rfl rfl (rn_bool_tf rfl) rfl (entl_bor (use_lo rfl) rfl rfl entl_nil)) (fun c6 h => ret_at hR _ h (fun n => n) rfl rfl rfl (rn_bool_tf rfl) rfl (entl_bor (use_lo rfl) rfl rfl entl_nil))) (fun c5 h => no_some h)) (fun c4 h => ret_at hR _ h (fun n => n) rfl rfl rfl (rn_bool_tf rfl) rfl (entl_bor (use_lo rfl) rfl rfl entl_nil)))) (fun c3 h => no_some h)))) (fun c1 h => no_some h))))
theorem a506 (ad nd md : Nat) (td : NI) (vd : Nat → ByteArray) (gd wd : NI) (cy st : Int) {r : Rt506} (h : Goes ((q506 ad nd md td vd gd wd cy st)) ((p506 ad nd md td vd gd wd cy st)) r) : CallR Try.prog 6 [.loose ⟨0, 4, ad, 0⟩ nd, .int .i64 cy, .int .i64 st] [[(0, (false, .cols md [.int .i64 td, .str vd, .int .i64 gd, .int .i64 wd]))]] 1 ((V506 ad nd md td vd gd wd cy st) r) ((J506 ad nd md td vd gd wd cy st) r) 400 ∧ ∃ F, Try.prog.funcs[6]? = some F ∧ F.body.isSome = true ∧ (F.name == "runtime.NumGoroutine") = false := by
  refine dec_calls (sy := true) (f := 6) (lo := 1) (hi := 400) (H := [[(0, (false, .cols md [.int .i64 td, .str vd, .int .i64 gd, .int .i64 wd]))]]) (args := [.loose ⟨0, 4, ad, 0⟩ nd, .int .i64 cy, .int .i64 st]) Try.envOk Try.mixed xU_ok ((I506 ad nd md td vd gd wd cy st)) ((V506 ad nd md td vd gd wd cy st)) (J506 ad nd md td vd gd wd cy st) (fn := mkFn Try.f6) (ts := []) (n := 400) rfl (by decide) (by simp) (names_of rfl) ?_ ?_ ?_ h
  · intro s; exact s.elim
  · intro Kst Kret x hS hR h
    exact Holds.eq (te506 cond Kst Kret ad nd md td vd gd wd cy st) (be506 ad nd md td vd gd wd cy st Kst Kret x hS hR h)
  · intro Kst Kret x hS hR s h; exact s.elim
noncomputable abbrev w506 {α : Type} (g : Nat → Nat → Nat → (Nat → Int) → (Nat → ByteArray) → (Nat → Int) → (Nat → Int) → Int → Int → α) (x : (Nat × Nat × Nat × (Nat → Int) × (Nat → ByteArray) × (Nat → Int) × (Nat → Int) × Unit) × Int × Int × Unit) : α := g x.1.1 x.1.2.1 x.1.2.2.1 x.1.2.2.2.1 x.1.2.2.2.2.1 x.1.2.2.2.2.2.1 x.1.2.2.2.2.2.2.1 x.2.1 x.2.2.1
noncomputable def k506  : Con := ⟨6, [.one (.list [.int .i64, .str, .int .i64, .int .i64]), .one (.plain (.int .i64)), .one (.plain (.int .i64))], w506 (fun ad nd md td vd gd wd cy st => decide (ad + nd ≤ md)), w506 (fun ad nd md td vd gd wd cy st => (V506 ad nd md td vd gd wd cy st) (true)), w506 (fun ad nd md td vd gd wd cy st => (N506 ad nd md td vd gd wd cy st) (true)), fun _ _ => .dead⟩
theorem s506 (ad nd md : Nat) (td : Nat → Int) (vd : Nat → ByteArray) (gd wd : Nat → Int) (cy st : Int) (hp : ad + nd ≤ md) : Goes ((q506 ad nd md td vd gd wd cy st)) ((p506 ad nd md td vd gd wd cy st)) (true) := by
  have lA := @telS_len nd (fun j => td (j + ad)) (fun j => vd (j + ad)) (fun j => gd (j + ad)) (fun j => wd (j + ad)) cy st
  unfold p506
  simp only [c506_e_0, c506_e_1]
  simp only [Nat.zero_add]
  generalize S.telS nd (fun j => td (j + ad)) (fun j => vd (j + ad)) (fun j => gd (j + ad)) (fun j => wd (j + ad)) cy st = A at *
  repeat' (first | with_reducible refine goes_if (fun h => ?_) (fun h => ?_) <;> (try simp only [SH] at h) | exact goes_none.mpr (by omega))
  all_goals first
    | exact goes_inr.mpr rfl
    | (exfalso; omega)
    | (exfalso; simp only [samL_self, beq_self_eq_true, Bool.and_self, Bool.true_eq_false, ne_eq, not_true_eq_false] at *; done)
    | (exfalso; simp_all [samL_self]; done)
theorem k506_ok  : k506.ok Try.prog := by
  intro x hx
  obtain ⟨⟨ad, nd, md, td, vd, gd, wd, _⟩, cy, st, _⟩ := x
  obtain ⟨h1, h2⟩ := a506 ad nd md td vd gd wd cy st (s506 ad nd md td vd gd wd cy st (of_dec hx rfl))
  exact ⟨⟨400, (by decide : 1 + 1 + 0 ≤ 400), h1⟩, h2⟩
theorem pre506  {x : SsI k506.ss} (hx : ssFits k506.ss x) : k506.pre (ssj k506.ss x) = true := by
  obtain ⟨⟨n, t0, t1, t2, t3, u'⟩, c0, c1, u''⟩ := x
  exact decide_eq_true (Nat.le_of_eq (Nat.zero_add _))
end Go.Ev
