/-
  The parts that the statement needs, 2 of 2.
-/
import Derived.Test.YtndklmcnndilgaaV1091
namespace Go.Ev
open Go.Proofs
open Go.IntWalk
set_option linter.unusedVariables false
set_option linter.unusedSimpArgs false
set_option maxRecDepth 100000
attribute [local irreducible] Int.subNatNat in
theorem b132_1 (al nl ml : Nat) (tl : NI) (rp fi : Int) (Kst : KS) (Kret : KR) (x : St132 ⊕ Rt132) (hS : HS 1 400 ((I132 al nl ml tl rp fi)) Kst x) (hR : HR 1 400 ((V132 al nl ml tl rp fi)) (J132 al nl ml tl rp fi) Kret x) (x0 : List Int) (h : q132 al nl ml tl rp fi (.h1 x0) = some x) : T132_1 cond Kst Kret al nl ml tl rp fi x0 := by
  unfold T132_1
  rw [q132] at h
  refine bif_split h (fun c0 h => bif_split h (fun c1 h => bif_split h (fun c2 h => bif_split h (fun c3 h => cond_yes rfl (stop_at hS _ h (fun n => bif Nat.beq n 1 then 1 else bif Nat.beq n 2 then 2 else bif Nat.beq n 3 then 3 else bif Nat.beq n 4 then 6 else n) rfl rfl rfl ⟨(rn_ptr (use_own rfl) rfl rfl), ⟨(rn_ptr (use_own rfl) rfl rfl), ⟨(rn_ptr (use_own rfl) rfl rfl), ⟨(rn_unk _), trivial⟩⟩⟩⟩ rfl (entl_b (use_own rfl) rfl (by simp) (rb_cells ⟨(rn_loose (use_lo rfl) rfl rfl rfl), (rn_int rfl), (rn_int rfl), trivial⟩) (entl_b (use_own rfl) rfl (by simp) (rb_cells ⟨(rn_str rfl), rn_nils, (rn_int rfl), (rn_int rfl), trivial⟩) (entl_b (use_own rfl) rfl (by simp) (rb_cells ⟨(rn_str rfl), (rn_own (use_own rfl) rfl (snoc_len' rfl)), (rn_int rfl), (rn_int rfl), trivial⟩) (entl_new (use_own rfl) rfl (Nat.le_of_eq (snoc_len' rfl)) (rcs_int (col_snoc' (fun (t : Int) => t) rfl (fun _ _ => rfl)) rcs_nil) (entl_bor (use_lo rfl) rfl rfl entl_nil))))))) (fun c3 h => ?_)) (fun c2 h => ?_)) (fun c1 h => ?_)) (fun c0 h => bif_split h (fun c1 h => cond_no rfl (bif_split h (fun c2 h => bif_split h (fun c3 h => bif_split h (fun c4 h => bif_split h (fun c5 h => bif_split h (fun c6 h => ?_) (fun c6 h => ?_)) (fun c5 h => ?_)) (fun c4 h => ?_)) (fun c3 h => ?_)) (fun c2 h => ?_))) (fun c1 h => ?_))
  all_goals first
    | exact no_some h
    | exact ret_at hR _ h (fun n => bif Nat.beq n 2 then 4 else n) rfl rfl rfl (rn_agg ⟨(rn_str rfl), (rn_own (use_own rfl) rfl rfl), (rn_int rfl), (rn_int rfl), trivial⟩) rfl (entl_new (use_own rfl) rfl (Nat.le_of_eq rfl) (rcs_int (fun _ _ => rfl) rcs_nil) (entl_bor (use_lo rfl) rfl rfl entl_nil))
theorem a132 (al nl ml : Nat) (tl : NI) (rp fi : Int) {r : Rt132} (h : Goes ((q132 al nl ml tl rp fi)) ((p132 al nl ml tl rp fi)) r) : CallR Try.prog 32 [.agg [.loose ⟨0, 1, al, 0⟩ nl, .int .u8 rp, .int .u8 fi]] [[(0, (false, .cols ml [.int .u8 tl]))]] 1 ((V132 al nl ml tl rp fi) r) ((J132 al nl ml tl rp fi) r) 400 ∧ ∃ F, Try.prog.funcs[32]? = some F ∧ F.body.isSome = true ∧ (F.name == "runtime.NumGoroutine") = false := by
  refine dec_calls (f := 32) (lo := 1) (hi := 400) (H := [[(0, (false, .cols ml [.int .u8 tl]))]]) (args := [.agg [.loose ⟨0, 1, al, 0⟩ nl, .int .u8 rp, .int .u8 fi]]) Try.envOk Try.mixed noX_ok ((I132 al nl ml tl rp fi)) ((V132 al nl ml tl rp fi)) (J132 al nl ml tl rp fi) (fn := mkFn Try.f32) (ts := [1, 2, 3, 4]) (n := 400) rfl (by decide) (by simp) (names_of rfl) ?_ ?_ ?_ h
  · intro s; cases s <;> exact ⟨hd_ok _ _, by simp [I132], names_of rfl, Nat.le_of_ble_eq_true rfl⟩
  · intro Kst Kret x hS hR h
    exact Holds.eq (te132 cond Kst Kret al nl ml tl rp fi) (be132 al nl ml tl rp fi Kst Kret x hS hR h)
  · intro Kst Kret x hS hR s h
    cases s with
    | h0 x0 x1 => exact Holds.eq (t132_0 cond Kst Kret al nl ml tl rp fi x0 x1) (b132_0 al nl ml tl rp fi Kst Kret x hS hR x0 x1 h)
    | h1 x0 => exact Holds.eq (t132_1 cond Kst Kret al nl ml tl rp fi x0) (b132_1 al nl ml tl rp fi Kst Kret x hS hR x0 h)
noncomputable abbrev w132 {α : Type} (g : Nat → Nat → Nat → (Nat → Int) → Int → Int → α) (x : ((Nat × Nat × Nat × (Nat → Int) × Unit) × Int × Int × Unit) × Unit) : α := g x.1.1.1 x.1.1.2.1 x.1.1.2.2.1 x.1.1.2.2.2.1 x.1.2.1 x.1.2.2.1
noncomputable def k132  : Con := ⟨32, [.agg [.list [.int .u8], .plain (.int .u8), .plain (.int .u8)]], w132 (fun al nl ml tl rp fi => decide (al + nl ≤ ml ∧ S.bytes nl (fun j => tl (j + al)) = true ∧ (0 ≤ rp ∧ rp ≤ 255) ∧ 0 ≤ fi ∧ fi ≤ 255)), w132 (fun al nl ml tl rp fi => (V132 al nl ml tl rp fi) ((S.crF fi (S.crL nl (fun j => tl (j + al))), (S.crL nl (fun j => tl (j + al)))))), w132 (fun al nl ml tl rp fi => (N132 al nl ml tl rp fi) ((S.crF fi (S.crL nl (fun j => tl (j + al))), (S.crL nl (fun j => tl (j + al)))))), fun _ _ => .dead⟩
theorem s132p (al nl ml : Nat) (tl : Nat → Int) (rp fi : Int) (L : List Int) (hl : L.length ≤ 8) (hf : 0 ≤ fi ∧ fi ≤ 255) : Comes (q132 al nl ml tl rp fi) (.h1 L) (S.crF fi (S.crP L), S.crP L) := by
  have fin : ∀ L : List Int, 2 ≤ L.length → L.length ≤ 8 → Comes (q132 al nl ml tl rp fi) (.h1 L) (S.crF fi L, L) := fun L h1 h2 => by
    have e1 : ((L.length : Int) - 1).toNat = L.length - 1 := by omega
    have hx : 0 ≤ Int.tmod fi 20 ∧ Int.tmod fi 20 < 20 := ⟨Int.tmod_nonneg _ hf.1, Int.tmod_lt_of_pos _ (by decide)⟩
    unfold S.crF
    apply Comes.of
    show Goes _ _ _
    (first | rw [q132] | unfold q132)
    try simp only [e1]
    try show Goes _ _ _
    repeat' (first | with_reducible refine goes_if (fun h => ?_) (fun h => ?_) <;> (try simp only [SH] at h) | exact goes_none.mpr (by omega))
    all_goals first | (exfalso; omega) | (rw [if_pos (by assumption)]; exact goes_inr.mpr rfl) | (rw [if_neg (by assumption)]; exact goes_inr.mpr rfl)
  unfold S.crP
  by_cases h0 : L.length = 0
  · obtain rfl := List.length_eq_zero_iff.mp h0
    exact Comes.next (s' := .h1 [20]) rfl (Comes.next (s' := .h1 [20, 21]) rfl (fin [20, 21] (by decide) (by decide)))
  · rw [if_neg h0]
    by_cases h1 : L.length = 1
    · rw [if_pos h1]
      have hm := fin (S.snoc L 21) (by rw [snoc_len]; omega) (by rw [snoc_len]; omega)
      have e2 : (20 : Int) + (L.length : Int) = 21 := by omega
      apply Comes.of
      show Goes _ _ _
      (first | rw [q132] | unfold q132)
      try simp only [e2]
      try show Goes _ _ _
      repeat' (first | with_reducible refine goes_if (fun h => ?_) (fun h => ?_) <;> (try simp only [SH] at h) | exact goes_none.mpr (by omega))
      all_goals first | (exfalso; omega) | exact hm
    · rw [if_neg h1]
      exact fin L (by omega) hl
theorem s132' (al nl ml : Nat) (tl : Nat → Int) (rp fi : Int) (hp : al + nl ≤ ml ∧ S.bytes nl (fun j => tl (j + al)) = true ∧ (0 ≤ rp ∧ rp ≤ 255) ∧ 0 ≤ fi ∧ fi ≤ 255) : ∀ (k i : Nat) (L : List Int), i + k = min nl 8 → Holds (L = S.crN (fun j => tl (j + al)) i) → Comes (q132 al nl ml tl rp fi) (.h0 (i : Int) L) ((S.crF fi (S.crL nl (fun j => tl (j + al))), (S.crL nl (fun j => tl (j + al))))) := by
  obtain ⟨hp1, hp2, hp3, hp4⟩ := hp
  have h0 := of_decide_eq_true hp2
  intro k
  induction k with
  | zero =>
    intro i L hi eL
    have hl := (crN_ok (t := (fun j => tl (j + al))) (i := i) fun j hj => (h0 j (by omega)).1).2
    rw [← eL.get] at hl
    have hm := s132p al nl ml tl rp fi L (by omega) hp4
    have e : S.crP L = (S.crL nl (fun j => tl (j + al))) := by unfold S.crL; rw [eL.get, show i = min nl 8 by omega]
    rw [e] at hm
    apply Comes.of
    show Goes _ _ _
    (first | rw [q132] | unfold q132)
    repeat' (first | with_reducible refine goes_if (fun h => ?_) (fun h => ?_) <;> (try simp only [SH] at h) | exact goes_none.mpr (by omega))
    all_goals first | (exfalso; omega) | exact hm
  | succ k ih =>
    intro i L hi eL
    have hl := (crN_ok (t := (fun j => tl (j + al))) (i := i) fun j hj => (h0 j (by omega)).1).2
    rw [← eL.get] at hl
    have hb := h0 i (by omega)
    try dsimp only at hb
    have ec : S.crN (fun j => tl (j + al)) (i + 1) = if L.length = 0 then S.snoc L (Int.tmod (tl (i + al)) 20) else if S.at' L (L.length - 1) ≠ Int.tmod (tl (i + al)) 20 then S.snoc L (Int.tmod (tl (i + al)) 20) else L := by rw [eL.get]; rfl
    have ih := fun L' h => ih (i + 1) L' (by omega) ⟨h⟩
    rw [ec] at ih
    have e1 : ((L.length : Int) - 1).toNat = L.length - 1 := by omega
    apply Comes.of
    show Goes _ _ _
    (first | rw [q132] | unfold q132)
    try simp only [e1, Int.toNat_natCast]
    try show Goes _ _ _
    repeat' (first | with_reducible refine goes_if (fun h => ?_) (fun h => ?_) <;> (try simp only [SH] at h) | exact goes_none.mpr (by omega))
    all_goals first
      | (exfalso; omega)
      | (refine ih _ ?_; first | (rw [if_pos (by omega)]; done) | (rw [if_neg (by omega), if_pos (by assumption)]; done) | (rw [if_neg (by omega), if_neg (not_not_intro (by assumption))]; done) | (rw [if_neg (by omega), if_neg (by assumption)]; done))
theorem s132 (al nl ml : Nat) (tl : Nat → Int) (rp fi : Int) (hp : al + nl ≤ ml ∧ S.bytes nl (fun j => tl (j + al)) = true ∧ (0 ≤ rp ∧ rp ≤ 255) ∧ 0 ≤ fi ∧ fi ≤ 255) : Goes ((q132 al nl ml tl rp fi)) ((p132 al nl ml tl rp fi)) ((S.crF fi (S.crL nl (fun j => tl (j + al))), (S.crL nl (fun j => tl (j + al))))) := by
  have hm := s132' al nl ml tl rp fi hp (min nl 8) 0 [] (Nat.zero_add _) ⟨rfl⟩
  obtain ⟨hp1, hp2, hp3, hp4⟩ := hp
  have hx : 0 ≤ Int.tmod rp 3 ∧ Int.tmod rp 3 < 3 := ⟨Int.tmod_nonneg _ hp3.1, Int.tmod_lt_of_pos _ (by decide)⟩
  show Goes _ _ _
  unfold p132
  repeat' (first | with_reducible refine goes_if (fun h => ?_) (fun h => ?_) <;> (try simp only [SH] at h) | exact goes_none.mpr (by omega))
  all_goals first | (exfalso; omega) | exact hm
theorem k132_ok  : k132.ok Try.prog := by
  intro x hx
  obtain ⟨⟨⟨al, nl, ml, tl, _⟩, rp, fi, _⟩, _⟩ := x
  obtain ⟨h1, h2⟩ := a132 al nl ml tl rp fi (s132 al nl ml tl rp fi (of_dec hx rfl))
  exact ⟨⟨400, (by decide : 1 + 1 + 1 ≤ 400), h1⟩, h2⟩
theorem behK_succ  {n nl : Nat} {t l x : Nat → Int} {fl : Int} {i : Nat} : S.behK n t fl nl l x (i + 1) = S.setS n t fl nl l (S.behK n t fl nl l x i) (x i) := rfl
theorem beh_run  {n nl : Nat} {t l x : Nat → Int} {fl : Int} {k : Nat} (h0 : (S.behK n t fl nl l x k).1 = 0) : ∀ i, i < nl → (∀ j, j < i → x (k + j) = l j) → (S.behK n t fl nl l x (k + i)).1 = (i : Int)
  | 0, _, _ => h0
  | i + 1, hi, hx => by
    have ih := beh_run h0 i (by omega) fun j hj => hx j (by omega)
    rw [← Nat.add_assoc, behK_succ, hx i (by omega)]
    unfold S.setS S.prS
    rw [ih, Int.toNat_natCast, if_pos rfl, if_neg (by omega)]
    rfl
theorem beh_all  {n nl : Nat} {t l x : Nat → Int} {fl : Int} {k : Nat} (h0 : (S.behK n t fl nl l x k).1 = 0) (hn : 1 ≤ nl) (hx : ∀ j, j < nl → x (k + j) = l j) : (S.behK n t fl nl l x (k + nl)).1 = 0 ∧ (S.behK n t fl nl l x (k + nl)).2.1 = true ∧ (S.behK n t fl nl l x (k + nl)).2.2.2 = fl := by
  obtain ⟨i, rfl⟩ : ∃ i, nl = i + 1 := ⟨nl - 1, by omega⟩
  have ih := beh_run (l := l) (nl := i + 1) h0 i (by omega) fun j hj => hx j (by omega)
  rw [← Nat.add_assoc, behK_succ, hx i (by omega)]
  unfold S.setS S.prS
  rw [ih, Int.toNat_natCast, if_pos rfl, if_pos (by omega)]
  exact ⟨rfl, rfl, rfl⟩
theorem setE_0  {n : Nat} {x : Nat → Int} (h1 : n ≤ 500) (h2 : ∀ j, j < n → -1099511627776 ≤ x j ∧ x j ≤ 1099511627776) : S.setE n x = 0 := set_0.mpr ⟨h1, h2⟩
theorem sta_is  {n : Nat} {t : Nat → Int} {rp fl : Int} {ns : Nat} {x : Nat → Int} (hs : S.setE ns x = 0) : S.staS 0 n t rp fl ns x = ((if (S.behK n t fl (S.stpL n t rp fl).length (fun j => S.at' (S.stpL n t rp fl) j) x ns).2.1 = true then 3 else if (S.behK n t fl (S.stpL n t rp fl).length (fun j => S.at' (S.stpL n t rp fl) j) x ns).1 > 0 then 2 else if (S.behK n t fl (S.stpL n t rp fl).length (fun j => S.at' (S.stpL n t rp fl) j) x ns).2.2.1 = true then 4 else 1), 0) := by
  unfold S.staS S.behS
  rw [if_pos rfl, if_pos hs]
  rfl
theorem nxt_is  {n : Nat} {t : Nat → Int} {rp fl : Int} {ns : Nat} {x : Nat → Int} (hs : S.setE ns x = 0) : S.nxtS 0 n t rp fl ns x = if (S.behK n t fl (S.stpL n t rp fl).length (fun j => S.at' (S.stpL n t rp fl) j) x ns).2.1 = true ∧ (S.behK n t fl (S.stpL n t rp fl).length (fun j => S.at' (S.stpL n t rp fl) j) x ns).1 = 0 then (0, 8) else (S.at' (S.stpL n t rp fl) (S.behK n t fl (S.stpL n t rp fl).length (fun j => S.at' (S.stpL n t rp fl) j) x ns).1.toNat, 0) := by
  unfold S.nxtS S.behS
  rw [if_pos rfl, if_pos hs]
  rfl
theorem at_le  {n nl : Nat} {t l x : Nat → Int} {fl : Int} (h : ¬ t (n - 1) < fl) : ∀ i, (S.behK n t fl nl l x i).2.1 = true → (S.behK n t fl nl l x i).2.2.2 ≤ fl
  | 0, h0 => by cases h0
  | i + 1, h0 => by
    have ih := at_le (nl := nl) (l := l) (x := x) h i
    rw [behK_succ] at h0 ⊢
    generalize S.behK n t fl nl l x i = a at *
    obtain ⟨a1, a2, a3, a4⟩ := a
    simp only at ih
    unfold S.setS at h0 ⊢
    dsimp only at h0 ⊢
    by_cases hp : S.prS l a1 (x i) = (nl : Int)
    · rw [if_pos hp]; exact Int.le_refl _
    · rw [if_neg hp] at h0 ⊢
      dsimp only at h0 ⊢
      rw [if_pos h0]
      rw [Bool.and_eq_true] at h0
      have ih := ih h0.1
      have h1 := h0.2
      unfold S.ahdB at h1
      rw [if_neg h, decide_eq_true_eq] at h1
      omega
theorem stp_val  {n : Nat} {t : Nat → Int} {rp fl : Int} {m : Int} (hn : 0 < n) (ht : ∀ j, j < n → 0 ≤ t j ∧ t j < m) (hf : 0 ≤ fl ∧ fl < m) : ∀ j, j < (S.stpL n t rp fl).length → 0 ≤ S.at' (S.stpL n t rp fl) j ∧ S.at' (S.stpL n t rp fl) j < m := by
  intro j hj
  unfold S.stpL at hj ⊢
  rw [snoc_len, mkl_len] at hj
  by_cases h : j < n * rp.toNat
  · rw [at_snoc_lt (by rw [mkl_len]; exact h), at_mkl h]
    exact ht _ (Nat.mod_lt _ hn)
  · rw [show j = (S.mkl (n * rp.toNat) fun j => t (j % n)).length by rw [mkl_len]; omega, at_snoc_eq]
    exact hf
noncomputable def xC10 (test : Bool → Prop → Prop → Prop) : Ext := consX test [k111, k132, k113, k124, k127, k25]
theorem xC10_ok  : ExtOk Try.prog (xC10 cond) := consX_ok ⟨k111_ok, k132_ok, k113_ok, k124_ok, k127_ok, k25_ok, trivial⟩
theorem stps_0  {n : Nat} {t : Nat → Int} {rp fl : Int} : S.stpS 0 n t rp fl = (0, S.stpL n t rp fl) := rfl
section
variable {n : Nat} {t : Nat → Int} {rp fl : Int}
theorem dr_0 (h2 : 2 ≤ n ∧ n ≤ 8) (ht : ∀ j, j < n → 0 ≤ t j ∧ t j < 22) (hr : 1 ≤ rp ∧ rp ≤ 3) (hf : 0 ≤ fl ∧ fl < 22) : (3 ≤ (S.stpL n t rp fl).length ∧ (S.stpL n t rp fl).length ≤ 25) ∧ ∀ j, j < (S.stpL n t rp fl).length → 0 ≤ S.at' (S.stpL n t rp fl) j ∧ S.at' (S.stpL n t rp fl) j < 22 := by
  refine ⟨?_, stp_val (by omega) ht hf⟩
  rw [stp_len]
  obtain ⟨r, rfl⟩ := Int.eq_ofNat_of_zero_le (show 0 ≤ rp by omega)
  rw [Int.toNat_natCast]
  have h3 : n * 1 ≤ n * r := Nat.mul_le_mul_left n (by omega)
  have h4 : n * r ≤ 8 * 3 := Nat.mul_le_mul h2.2 (by omega)
  omega
end
section
variable {n : Nat} {t : Nat → Int} {rp fl : Int}
theorem pr_99  {L : List Int} {pr : Int} (h : ∀ j, j < L.length → 0 ≤ S.at' L j ∧ S.at' L j < 22) (h0 : 0 < L.length) (hp : 0 ≤ pr ∧ pr < (L.length : Int)) : S.prS (fun j => S.at' L j) pr 99 = 0 := by
  unfold S.prS
  dsimp only
  have h1 := h pr.toNat (by omega)
  have h2 := h 0 h0
  rw [if_neg (by omega), if_neg (by omega)]
theorem max_le  {m : Int} {k : Nat} (h : ∀ j, j ≤ k → t j < m) : S.maxN t k < m := by
  have := (maxN_le (t := t) (v := m - 1) (n := k)).mpr fun j hj => by have := h j hj; omega
  omega
theorem ag_0 (h2 : 2 ≤ n ∧ n ≤ 8) (ht : ∀ j, j < n → 0 ≤ t j ∧ t j < 22) (hr : 1 ≤ rp ∧ rp ≤ 3) (hf : 0 ≤ fl ∧ fl < 22) {x : Nat → Int} {k : Nat} (hx : x k = 99) :
    (S.behK n t fl (S.stpL n t rp fl).length (fun j => S.at' (S.stpL n t rp fl) j) x (k + 1)).1 = 0 ∧ (S.behK n t fl (S.stpL n t rp fl).length (fun j => S.at' (S.stpL n t rp fl) j) x (k + 1)).2.1 = false := by
  obtain ⟨h3, h4⟩ := dr_0 h2 ht hr hf
  have hb := beh_b (n := n) (t := t) (fl := fl) (l := fun j => S.at' (S.stpL n t rp fl) j) (x := x) (nl := (S.stpL n t rp fl).length) (by omega) k
  have ha := at_le (n := n) (t := t) (fl := fl) (l := fun j => S.at' (S.stpL n t rp fl) j) (x := x) (nl := (S.stpL n t rp fl).length)
  have ha := fun h => ha h k
  rw [behK_succ, hx]
  generalize S.behK n t fl _ _ x k = a at *
  obtain ⟨a1, a2, a3, a4⟩ := a
  simp only at hb ha
  have hp := pr_99 (L := S.stpL n t rp fl) h4 (by omega) hb
  unfold S.setS
  dsimp only
  generalize hq : S.prS _ a1 99 = p
  have hq : p = 0 := hq.symm.trans hp
  subst hq
  have hne : ¬ (0 : Int) = ((S.stpL n t rp fl).length : Int) := by omega
  rw [if_neg hne]
  refine ⟨rfl, ?_⟩
  show (a2 && S.ahdB n t fl a4 99) = false
  cases a2
  · rfl
  · rw [Bool.true_and]
    unfold S.ahdB
    split
    · have := max_le (t := t) (m := 22) (k := n - 1) fun j hj => (ht j (by omega)).2
      exact decide_eq_false (by omega)
    · rename_i h
      have := ha h rfl
      exact decide_eq_false (by omega)
end
inductive St109 where
  | h0 (x0 : Int) (x1 : List Int) (x2 : List Int)
  | h1 (x0 : Int) (x1 : Int) (x2 : List Int) (x3 : List Int) (x4 : List Int)
abbrev Rt109  := Bool
noncomputable def V109 (al nl ml : Nat) (tl : NI) (rp fi : Int) (au nu mu : Nat) (tu : NI) (r : Rt109) : PV := PV.bool r
noncomputable def N109 (al nl ml : Nat) (tl : NI) (rp fi : Int) (au nu mu : Nat) (tu : NI) (r : Rt109) : List Blk := []
noncomputable def I109 (al nl ml : Nat) (tl : NI) (rp fi : Int) (au nu mu : Nat) (tu : NI) : St109 → Hd
  | .h0 x0 x1 x2 => ⟨hd Try.f9 0, [PV.ptr (PA.mk (2) (0) (0) (0)),
 PV.own (4) (1) (List.length x2),
 PV.loose (PA.mk (1) (1) au (0)) nu, PV.int .i64 (↑nu : Int),
 PV.int .i64 x0, PV.unk, PV.unk, PV.unk], [[(2, (true, Blk.cells
 [PV.str (ByteArray.mk #[(99 : UInt8)]), PV.own (3) (1) (List.length x1),
 PV.int .i64 ((1 : Int) + Int.tmod rp (3 : Int)),
 PV.int .i64 (S.crF fi (S.crL nl fun j => tl (j + al)))])), (3, (true, Blk.cols (List.length x1) [Col.int .i64 fun j => S.at' x1 j])), (4, (true, Blk.cols (List.length x2) [Col.int .i64 fun j => S.at' x2 j]))], [(0, (false, .cols ml [.int .u8 tl])), (1, (false, .cols mu [.int .u8 tu]))]], 5⟩
  | .h1 x0 x1 x2 x3 x4 => ⟨hd Try.f9 1, [PV.ptr (PA.mk (2) (0) (0) (0)),
 PV.own (4) (1) (List.length x3), PV.unk, PV.unk, PV.unk,
 PV.own (5) (1) (List.length x4), PV.int .i64 x0, PV.int .i64 x1], [[(2, (true, Blk.cells
 [PV.str (ByteArray.mk #[(99 : UInt8)]), PV.own (3) (1) (List.length x2),
 PV.int .i64 ((1 : Int) + Int.tmod rp (3 : Int)),
 PV.int .i64 (S.crF fi (S.crL nl fun j => tl (j + al)))])), (3, (true, Blk.cols (List.length x2) [Col.int .i64 fun j => S.at' x2 j])), (4, (true, Blk.cols (List.length x3) [Col.int .i64 fun j => S.at' x3 j])), (5, (true, Blk.cols (List.length x4) [Col.int .i64 fun j => S.at' x4 j]))], [(0, (false, .cols ml [.int .u8 tl])), (1, (false, .cols mu [.int .u8 tu]))]], 6⟩
noncomputable def q109 (al nl ml : Nat) (tl : NI) (rp fi : Int) (au nu mu : Nat) (tu : NI) : St109 → Option (St109 ⊕ Rt109) | .h0 x0 x1 x2 => bif (decide (x0 < (↑nu : Int))) then (bif (decide ((0 : Int) ≤ x0 ∧ x0 < (↑nu : Int))) then (bif (decide (Int.toNat x0 + au < mu)) then (bif (lim .i64 (tu (Int.toNat x0 + au))) then (bif (decide (List.length x2 + 1 ≤ 1000000)) then (bif (decide (List.length x2 ≤ List.length x2)) then (bif (lim .i64 (x0 + 1)) then (some (.inl (.h0 (x0 + 1) (x1) (S.snoc x2 (Int.tmod (tu (Int.toNat x0 + au)) (25 : Int)))))) else (none)) else (none)) else (none)) else (none)) else (none)) else (none)) else (bif (decide (List.length x2 + 1 ≤ 1000000)) then (bif (decide (List.length x2 ≤ List.length x2)) then (bif (decide (0 + List.length x1 ≤ List.length x1 ∧ List.length x1 ≤ 1000000)) then (bif (Prod.fst (S.stpS (S.cyE (ByteArray.mk #[(99 : UInt8)]) (List.length x1) (fun j => S.at' x1 j) ((1 : Int) + Int.tmod rp (3 : Int)) (S.crF fi (S.crL nl fun j => tl (j + al)))) (List.length x1) (fun j => S.at' x1 j) ((1 : Int) + Int.tmod rp (3 : Int)) (S.crF fi (S.crL nl fun j => tl (j + al)))) != 0) then (some (.inr (false))) else (some (.inl (.h1 ((↑(List.length (Prod.snd (S.stpS (S.cyE (ByteArray.mk #[(99 : UInt8)]) (List.length x1) (fun j => S.at' x1 j) ((1 : Int) + Int.tmod rp (3 : Int)) (S.crF fi (S.crL nl fun j => tl (j + al)))) (List.length x1) (fun j => S.at' x1 j) ((1 : Int) + Int.tmod rp (3 : Int)) (S.crF fi (S.crL nl fun j => tl (j + al)))))) : Int)) ((0 : Int)) (x1) (S.snoc x2 (99 : Int)) (Prod.snd (S.stpS (S.cyE (ByteArray.mk #[(99 : UInt8)]) (List.length x1) (fun j => S.at' x1 j) ((1 : Int) + Int.tmod rp (3 : Int)) (S.crF fi (S.crL nl fun j => tl (j + al)))) (List.length x1) (fun j => S.at' x1 j) ((1 : Int) + Int.tmod rp (3 : Int)) (S.crF fi (S.crL nl fun j => tl (j + al))))))))) else (none)) else (none)) else (none)) | .h1 x0 x1 x2 x3 x4 => bif (decide (x1 < x0)) then (bif (decide ((0 : Int) ≤ x1 ∧ x1 < (↑(List.length x4) : Int))) then (bif (decide (Int.toNat x1 < List.length x4)) then (bif (decide ((0 + List.length x2 ≤ List.length x2 ∧ List.length x2 ≤ 1000000) ∧ 0 + List.length x3 ≤ List.length x3 ∧ List.length x3 ≤ 1000000)) then (bif (Prod.snd (S.nxtS (S.cyE (ByteArray.mk #[(99 : UInt8)]) (List.length x2) (fun j => S.at' x2 j) ((1 : Int) + Int.tmod rp (3 : Int)) (S.crF fi (S.crL nl fun j => tl (j + al)))) (List.length x2) (fun j => S.at' x2 j) ((1 : Int) + Int.tmod rp (3 : Int)) (S.crF fi (S.crL nl fun j => tl (j + al))) (List.length x3) fun j => S.at' x3 j) != 0) then (some (.inr (false))) else (bif (Prod.fst (S.nxtS (S.cyE (ByteArray.mk #[(99 : UInt8)]) (List.length x2) (fun j => S.at' x2 j) ((1 : Int) + Int.tmod rp (3 : Int)) (S.crF fi (S.crL nl fun j => tl (j + al)))) (List.length x2) (fun j => S.at' x2 j) ((1 : Int) + Int.tmod rp (3 : Int)) (S.crF fi (S.crL nl fun j => tl (j + al))) (List.length x3) fun j => S.at' x3 j) != S.at' x4 (Int.toNat x1)) then (some (.inr (false))) else (bif (decide (List.length x3 + 1 ≤ 1000000)) then (bif (decide (List.length x3 ≤ List.length x3)) then (bif (lim .i64 (x1 + 1)) then (some (.inl (.h1 (x0) (x1 + 1) (x2) (S.snoc x3 (S.at' x4 (Int.toNat x1))) (x4)))) else (none)) else (none)) else (none)))) else (none)) else (none)) else (none)) else (bif (decide ((0 + List.length x2 ≤ List.length x2 ∧ List.length x2 ≤ 1000000) ∧ 0 + List.length x3 ≤ List.length x3 ∧ List.length x3 ≤ 1000000)) then (bif (Prod.snd (S.staS (S.cyE (ByteArray.mk #[(99 : UInt8)]) (List.length x2) (fun j => S.at' x2 j) ((1 : Int) + Int.tmod rp (3 : Int)) (S.crF fi (S.crL nl fun j => tl (j + al)))) (List.length x2) (fun j => S.at' x2 j) ((1 : Int) + Int.tmod rp (3 : Int)) (S.crF fi (S.crL nl fun j => tl (j + al))) (List.length x3) fun j => S.at' x3 j) == 0) then (bif (Prod.fst (S.staS (S.cyE (ByteArray.mk #[(99 : UInt8)]) (List.length x2) (fun j => S.at' x2 j) ((1 : Int) + Int.tmod rp (3 : Int)) (S.crF fi (S.crL nl fun j => tl (j + al)))) (List.length x2) (fun j => S.at' x2 j) ((1 : Int) + Int.tmod rp (3 : Int)) (S.crF fi (S.crL nl fun j => tl (j + al))) (List.length x3) fun j => S.at' x3 j) == 3) then (some (.inr (true))) else (some (.inr (false)))) else (some (.inr (false)))) else (none))
noncomputable def p109 (al nl ml : Nat) (tl : NI) (rp fi : Int) (au nu mu : Nat) (tu : NI) : Option (St109 ⊕ Rt109) := bif (decide ((↑nl : Int) > 20)) then (some (.inr (true))) else (bif (decide ((↑nu : Int) > 30)) then (some (.inr (true))) else (bif (decide (al + nl ≤ ml ∧ (S.bytes nl fun j => tl (j + al)) = true ∧ ((0 : Int) ≤ rp ∧ rp ≤ 255) ∧ (0 : Int) ≤ fi ∧ fi ≤ 255)) then (some (.inl (.h0 ((0 : Int)) (S.crL nl fun j => tl (j + al)) ([])))) else (none)))
noncomputable abbrev u109_e_0 (ml : Nat) (tl : Nat → Int) (mu : Nat) (tu : Nat → Int) := ([[(1, false, Blk.cols mu [Col.int IntKind.u8 tu]), (0, false, Blk.cols ml [Col.int IntKind.u8 tl])]])
def Te109 (test : TT) (Kst : KS) (Kret : KR) (al nl ml : Nat) (tl : NI) (rp fi : Int) (au nu mu : Nat) (tu : NI) : Prop := test (true) (test (true) (test (decide ((↑nl : Int) > 20)) (test (true) (test (true) (Kret (PV.tf true) (u109_e_0 ml tl mu tu) (5)) (Kret (PV.tf false) (u109_e_0 ml tl mu tu) (5))) (False)) (test (decide ((↑nu : Int) > 30)) (test (true) (test (true) (Kret (PV.tf true) (u109_e_0 ml tl mu tu) (5)) (Kret (PV.tf false) (u109_e_0 ml tl mu tu) (5))) (False)) (test (decide (al + nl ≤ ml ∧ (S.bytes nl fun j => tl (j + al)) = true ∧ ((0 : Int) ≤ rp ∧ rp ≤ 255) ∧ (0 : Int) ≤ fi ∧ fi ≤ 255)) (Kst (hd Try.f9 0) ([PV.ptr (PA.mk (6) (0) (0) (0)), PV.nils, PV.loose (PA.mk (1) (1) au (0)) nu, PV.int .i64 (↑nu : Int), PV.int .i64 (0 : Int), PV.unk, PV.unk, PV.unk]) ([[(1, false, Blk.cols mu [Col.int .u8 tu]), (0, false, Blk.cols ml [Col.int .u8 tl]), (6, true, Blk.cells [PV.str (ByteArray.mk #[(99 : UInt8)]), PV.own (5) (1) (List.length (S.crL nl fun j => tl (j + al))), PV.int .i64 ((1 : Int) + Int.tmod rp (3 : Int)), PV.int .i64 (S.crF fi (S.crL nl fun j => tl (j + al)))]), (5, true, Blk.cols (List.length (S.crL nl fun j => tl (j + al))) [Col.int .i64 fun j => S.at' (S.crL nl fun j => tl (j + al)) j])]]) (7)) (False)))) (test (true) (test (true) (Kret (PV.tf true) (u109_e_0 ml tl mu tu) (5)) (Kret (PV.tf false) (u109_e_0 ml tl mu tu) (5))) (False))) (False)
theorem te109 (test : TT) (Kst : KS) (Kret : KR) (al nl ml : Nat) (tl : NI) (rp fi : Int) (au nu mu : Nat) (tu : NI) : run test Try.env true (xC10 test) true 400 ⟨9, [.cd (mkFn Try.f9).body], argT 0 [.agg [.loose ⟨0, 1, al, 0⟩ nl, .int .u8 rp, .int .u8 fi], .loose ⟨1, 1, au, 0⟩ nu], [[], [(0, (false, .cols ml [.int .u8 tl])), (1, (false, .cols mu [.int .u8 tu]))]], 2⟩ (proj 2 [5, 6, 32, 33, 34, 55, 56, 57] Kst Kret) =
  Te109 test Kst Kret al nl ml tl rp fi au nu mu tu := by kernel_rfl
noncomputable abbrev u109_0_0 (al nl : Nat) (tl : Nat → Int) (rp fi : Int) (x1 : List Int) := S.stpS (S.cyE (ByteArray.mk #[(99 : UInt8)]) (List.length x1) (fun j => S.at' x1 j) ((1 : Int) + Int.tmod rp (3 : Int)) (S.crF fi (S.crL nl fun j => tl (j + al)))) (List.length x1) (fun j => S.at' x1 j) ((1 : Int) + Int.tmod rp (3 : Int)) (S.crF fi (S.crL nl fun j => tl (j + al)))
def T109_0 (test : TT) (Kst : KS) (Kret : KR) (al nl ml : Nat) (tl : NI) (rp fi : Int) (au nu mu : Nat) (tu : NI) (x0 : Int) (x1 x2 : List Int) : Prop := test (decide (x0 < (↑nu : Int))) (test (decide ((0 : Int) ≤ x0 ∧ x0 < (↑nu : Int))) (test (decide (Int.toNat x0 + au < mu)) (test (lim .i64 (tu (Int.toNat x0 + au))) (test (false) (False) (test (decide (List.length x2 + 1 ≤ 1000000)) (test (decide (List.length x2 ≤ List.length x2)) (test (true) (test (lim .i64 (x0 + 1)) (Kst (hd Try.f9 0) ([PV.ptr (PA.mk (2) (0) (0) (0)), PV.own (6) (1) (List.length x2 + 1), PV.loose (PA.mk (1) (1) au (0)) nu, PV.int .i64 (↑nu : Int), PV.int .i64 (x0 + 1), PV.unk, PV.unk, PV.unk]) ([[(1, false, Blk.cols mu [Col.int .u8 tu]), (0, false, Blk.cols ml [Col.int .u8 tl]), (6, true, Blk.cols (List.length x2 + 1) [Col.int .i64 fun j => bif Nat.blt j (List.length x2) then S.at' x2 j else Int.tmod (tu (Int.toNat x0 + au)) (25 : Int)]), (2, true, Blk.cells [PV.str (ByteArray.mk #[(99 : UInt8)]), PV.own (3) (1) (List.length x1), PV.int .i64 ((1 : Int) + Int.tmod rp (3 : Int)), PV.int .i64 (S.crF fi (S.crL nl fun j => tl (j + al)))]), (3, true, Blk.cols (List.length x1) [Col.int .i64 fun j => S.at' x1 j])]]) (7)) (False)) (False)) (False)) (False))) (False)) (False)) (False)) (test (decide (List.length x2 + 1 ≤ 1000000)) (test (decide (List.length x2 ≤ List.length x2)) (test (true) (test (decide (0 + List.length x1 ≤ List.length x1 ∧ List.length x1 ≤ 1000000)) (test ((u109_0_0 al nl tl rp fi x1).1 != 0) (Kret (PV.tf false) ([[(1, false, Blk.cols mu [Col.int .u8 tu]), (0, false, Blk.cols ml [Col.int .u8 tl])]]) (9)) (Kst (hd Try.f9 1) ([PV.ptr (PA.mk (2) (0) (0) (0)), PV.own (6) (1) (List.length x2 + 1), PV.loose (PA.mk (1) (1) au (0)) nu, PV.int .i64 (↑nu : Int), PV.int .i64 x0, PV.own (8) (1) (List.length (u109_0_0 al nl tl rp fi x1).2), PV.int .i64 (↑(List.length (u109_0_0 al nl tl rp fi x1).2) : Int), PV.int .i64 (0 : Int)]) ([[(1, false, Blk.cols mu [Col.int .u8 tu]), (0, false, Blk.cols ml [Col.int .u8 tl]), (8, true, Blk.cols (List.length (u109_0_0 al nl tl rp fi x1).2) [Col.int .i64 fun j => S.at' (u109_0_0 al nl tl rp fi x1).2 j]), (6, true, Blk.cols (List.length x2 + 1) [Col.int .i64 fun j => bif Nat.blt j (List.length x2) then S.at' x2 j else (99 : Int)]), (2, true, Blk.cells [PV.str (ByteArray.mk #[(99 : UInt8)]), PV.own (3) (1) (List.length x1), PV.int .i64 ((1 : Int) + Int.tmod rp (3 : Int)), PV.int .i64 (S.crF fi (S.crL nl fun j => tl (j + al)))]), (3, true, Blk.cols (List.length x1) [Col.int .i64 fun j => S.at' x1 j])]]) (9))) (False)) (False)) (False)) (False))
theorem t109_0 (test : TT) (Kst : KS) (Kret : KR) (al nl ml : Nat) (tl : NI) (rp fi : Int) (au nu mu : Nat) (tu : NI) (x0 : Int) (x1 x2 : List Int) : run test Try.env true (xC10 test) true 400 ⟨9, hd Try.f9 0, zipT [5, 6, 32, 33, 34, 55, 56, 57] [PV.ptr (PA.mk (2) (0) (0) (0)),
 PV.own (4) (1) (List.length x2),
 PV.loose (PA.mk (1) (1) au (0)) nu, PV.int .i64 (↑nu : Int),
 PV.int .i64 x0, PV.unk, PV.unk, PV.unk], [[(2, (true, Blk.cells
 [PV.str (ByteArray.mk #[(99 : UInt8)]), PV.own (3) (1) (List.length x1),
 PV.int .i64 ((1 : Int) + Int.tmod rp (3 : Int)),
 PV.int .i64 (S.crF fi (S.crL nl fun j => tl (j + al)))])), (3, (true, Blk.cols (List.length x1) [Col.int .i64 fun j => S.at' x1 j])), (4, (true, Blk.cols (List.length x2) [Col.int .i64 fun j => S.at' x2 j]))], [(0, (false, .cols ml [.int .u8 tl])), (1, (false, .cols mu [.int .u8 tu]))]], 5⟩ (proj 2 [5, 6, 32, 33, 34, 55, 56, 57] Kst Kret) =
  T109_0 test Kst Kret al nl ml tl rp fi au nu mu tu x0 x1 x2 := by kernel_rfl
noncomputable abbrev u109_1_0 (al nl : Nat) (tl : Nat → Int) (rp fi : Int) (x2 : List Int) := S.cyE (ByteArray.mk #[(99 : UInt8)]) (List.length x2) (fun j => S.at' x2 j) ((1 : Int) + Int.tmod rp (3 : Int)) (S.crF fi (S.crL nl fun j => tl (j + al)))
noncomputable abbrev u109_1_1 (ml : Nat) (tl : Nat → Int) (mu : Nat) (tu : Nat → Int) := ([[(1, false, Blk.cols mu [Col.int IntKind.u8 tu]), (0, false, Blk.cols ml [Col.int IntKind.u8 tl])]])
def T109_1 (test : TT) (Kst : KS) (Kret : KR) (al nl ml : Nat) (tl : NI) (rp fi : Int) (au nu mu : Nat) (tu : NI) (x0 x1 : Int) (x2 x3 x4 : List Int) : Prop := test (decide (x1 < x0)) (test (decide ((0 : Int) ≤ x1 ∧ x1 < (↑(List.length x4) : Int))) (test (decide (Int.toNat x1 < List.length x4)) (test (decide ((0 + List.length x2 ≤ List.length x2 ∧ List.length x2 ≤ 1000000) ∧ 0 + List.length x3 ≤ List.length x3 ∧ List.length x3 ≤ 1000000)) (test ((S.nxtS (u109_1_0 al nl tl rp fi x2) (List.length x2) (fun j => S.at' x2 j) ((1 : Int) + Int.tmod rp (3 : Int)) (S.crF fi (S.crL nl fun j => tl (j + al))) (List.length x3) fun j => S.at' x3 j).2 != 0) (Kret (PV.tf false) (u109_1_1 ml tl mu tu) (7)) (test ((S.nxtS (u109_1_0 al nl tl rp fi x2) (List.length x2) (fun j => S.at' x2 j) ((1 : Int) + Int.tmod rp (3 : Int)) (S.crF fi (S.crL nl fun j => tl (j + al))) (List.length x3) fun j => S.at' x3 j).1 != S.at' x4 (Int.toNat x1)) (Kret (PV.tf false) (u109_1_1 ml tl mu tu) (7)) (test (decide (List.length x3 + 1 ≤ 1000000)) (test (decide (List.length x3 ≤ List.length x3)) (test (true) (test (lim .i64 (x1 + 1)) (Kst (hd Try.f9 1) ([PV.ptr (PA.mk (2) (0) (0) (0)), PV.own (8) (1) (List.length x3 + 1), PV.unk, PV.unk, PV.unk, PV.own (5) (1) (List.length x4), PV.int .i64 x0, PV.int .i64 (x1 + 1)]) ([[(1, false, Blk.cols mu [Col.int .u8 tu]), (0, false, Blk.cols ml [Col.int .u8 tl]), (5, true, Blk.cols (List.length x4) [Col.int .i64 fun j => S.at' x4 j]), (8, true, Blk.cols (List.length x3 + 1) [Col.int .i64 fun j => bif Nat.blt j (List.length x3) then S.at' x3 j else S.at' x4 (Int.toNat x1)]), (2, true, Blk.cells [PV.str (ByteArray.mk #[(99 : UInt8)]), PV.own (3) (1) (List.length x2), PV.int .i64 ((1 : Int) + Int.tmod rp (3 : Int)), PV.int .i64 (S.crF fi (S.crL nl fun j => tl (j + al)))]), (3, true, Blk.cols (List.length x2) [Col.int .i64 fun j => S.at' x2 j])]]) (9)) (False)) (False)) (False)) (False)))) (False)) (False)) (False)) (test (decide ((0 + List.length x2 ≤ List.length x2 ∧ List.length x2 ≤ 1000000) ∧ 0 + List.length x3 ≤ List.length x3 ∧ List.length x3 ≤ 1000000)) (test ((S.staS (u109_1_0 al nl tl rp fi x2) (List.length x2) (fun j => S.at' x2 j) ((1 : Int) + Int.tmod rp (3 : Int)) (S.crF fi (S.crL nl fun j => tl (j + al))) (List.length x3) fun j => S.at' x3 j).2 == 0) (test ((S.staS (u109_1_0 al nl tl rp fi x2) (List.length x2) (fun j => S.at' x2 j) ((1 : Int) + Int.tmod rp (3 : Int)) (S.crF fi (S.crL nl fun j => tl (j + al))) (List.length x3) fun j => S.at' x3 j).1 == 3) (Kret (PV.tf true) (u109_1_1 ml tl mu tu) (7)) (Kret (PV.tf false) (u109_1_1 ml tl mu tu) (7))) (Kret (PV.tf false) (u109_1_1 ml tl mu tu) (7))) (False))
theorem t109_1 (test : TT) (Kst : KS) (Kret : KR) (al nl ml : Nat) (tl : NI) (rp fi : Int) (au nu mu : Nat) (tu : NI) (x0 x1 : Int) (x2 x3 x4 : List Int) : run test Try.env true (xC10 test) true 400 ⟨9, hd Try.f9 1, zipT [5, 6, 32, 33, 34, 55, 56, 57] [PV.ptr (PA.mk (2) (0) (0) (0)),
 PV.own (4) (1) (List.length x3), PV.unk, PV.unk, PV.unk,
 PV.own (5) (1) (List.length x4), PV.int .i64 x0, PV.int .i64 x1], [[(2, (true, Blk.cells
 [PV.str (ByteArray.mk #[(99 : UInt8)]), PV.own (3) (1) (List.length x2),
 PV.int .i64 ((1 : Int) + Int.tmod rp (3 : Int)),
 PV.int .i64 (S.crF fi (S.crL nl fun j => tl (j + al)))])), (3, (true, Blk.cols (List.length x2) [Col.int .i64 fun j => S.at' x2 j])), (4, (true, Blk.cols (List.length x3) [Col.int .i64 fun j => S.at' x3 j])), (5, (true, Blk.cols (List.length x4) [Col.int .i64 fun j => S.at' x4 j]))], [(0, (false, .cols ml [.int .u8 tl])), (1, (false, .cols mu [.int .u8 tu]))]], 6⟩ (proj 2 [5, 6, 32, 33, 34, 55, 56, 57] Kst Kret) =
  T109_1 test Kst Kret al nl ml tl rp fi au nu mu tu x0 x1 x2 x3 x4 := by kernel_rfl
noncomputable abbrev J109 (al nl ml : Nat) (tl : NI) (rp : Int) (fi : Int) (au nu mu : Nat) (tu : NI) : Rt109 → Heap := fun r => [newL (2 + 1) ((N109 al nl ml tl rp fi au nu mu tu) r) ++ [(0, (false, .cols ml [.int .u8 tl])), (1, (false, .cols mu [.int .u8 tu]))]]
attribute [local irreducible] Int.subNatNat in
theorem be109 (al nl ml : Nat) (tl : NI) (rp fi : Int) (au nu mu : Nat) (tu : NI) (Kst : KS) (Kret : KR) (x : St109 ⊕ Rt109) (hS : HS 2 400 ((I109 al nl ml tl rp fi au nu mu tu)) Kst x) (hR : HR 2 400 ((V109 al nl ml tl rp fi au nu mu tu)) (J109 al nl ml tl rp fi au nu mu tu) Kret x) (h : p109 al nl ml tl rp fi au nu mu tu = some x) : Te109 cond Kst Kret al nl ml tl rp fi au nu mu tu := by
  unfold Te109
  unfold p109 at h
  exact cond_yes rfl (cond_yes rfl (bif_split h (fun c0 h => cond_yes rfl (cond_yes rfl (ret_at hR _ h (fun n => n) rfl rfl rfl (rn_bool_tf rfl) rfl (entl_bor (use_lo rfl) rfl rfl (entl_bor (use_lo rfl) rfl rfl entl_nil))))) (fun c0 h => bif_split h (fun c1 h => cond_yes rfl (cond_yes rfl (ret_at hR _ h (fun n => n) rfl rfl rfl (rn_bool_tf rfl) rfl (entl_bor (use_lo rfl) rfl rfl (entl_bor (use_lo rfl) rfl rfl entl_nil))))) (fun c1 h => bif_split h (fun c2 h => stop_at hS _ h (fun n => bif Nat.beq n 2 then 6 else bif Nat.beq n 3 then 5 else bif Nat.beq n 4 then 399 else n) rfl rfl rfl ⟨(rn_ptr (use_own rfl) rfl rfl), ⟨(rn_own_nils rfl), ⟨(rn_loose (use_lo rfl) rfl rfl rfl), ⟨(rn_int rfl), ⟨(rn_int rfl), ⟨(rn_unk _), ⟨(rn_unk _), ⟨(rn_unk _), trivial⟩⟩⟩⟩⟩⟩⟩⟩ rfl (entl_b (use_own rfl) rfl (by simp) (rb_cells ⟨(rn_str rfl), (rn_own (use_own rfl) rfl rfl), (rn_int rfl), (rn_int rfl), trivial⟩) (entl_new (use_own rfl) rfl (Nat.le_of_eq rfl) (rcs_int (fun _ _ => rfl) rcs_nil) (entl_fresh (use_own rfl) (fresh_ok rfl) (entl_bor (use_lo rfl) rfl rfl (entl_bor (use_lo rfl) rfl rfl entl_nil)))))) (fun c2 h => no_some h)))))
attribute [local irreducible] Int.subNatNat in
theorem b109_0 (al nl ml : Nat) (tl : NI) (rp fi : Int) (au nu mu : Nat) (tu : NI) (Kst : KS) (Kret : KR) (x : St109 ⊕ Rt109) (hS : HS 2 400 ((I109 al nl ml tl rp fi au nu mu tu)) Kst x) (hR : HR 2 400 ((V109 al nl ml tl rp fi au nu mu tu)) (J109 al nl ml tl rp fi au nu mu tu) Kret x) (x0 : Int) (x1 x2 : List Int) (h : q109 al nl ml tl rp fi au nu mu tu (.h0 x0 x1 x2) = some x) : T109_0 cond Kst Kret al nl ml tl rp fi au nu mu tu x0 x1 x2 := by
  unfold T109_0
  rw [q109] at h
  exact bif_split h (fun c0 h => bif_split h (fun c1 h => bif_split h (fun c2 h => bif_split h (fun c3 h => cond_no rfl (bif_split h (fun c4 h => bif_split h (fun c5 h => cond_yes rfl (bif_split h (fun c6 h => stop_at hS _ h (fun n => bif Nat.beq n 2 then 2 else bif Nat.beq n 3 then 3 else bif Nat.beq n 4 then 6 else n) rfl rfl rfl ⟨(rn_ptr (use_own rfl) rfl rfl), ⟨(rn_own (use_own rfl) rfl (snoc_len' rfl)), ⟨(rn_loose (use_lo rfl) rfl rfl rfl), ⟨(rn_int rfl), ⟨(rn_int rfl), ⟨(rn_unk _), ⟨(rn_unk _), ⟨(rn_unk _), trivial⟩⟩⟩⟩⟩⟩⟩⟩ rfl (entl_b (use_own rfl) rfl (by simp) (rb_cells ⟨(rn_str rfl), (rn_own (use_own rfl) rfl rfl), (rn_int rfl), (rn_int rfl), trivial⟩) (entl_new (use_own rfl) rfl (Nat.le_of_eq rfl) (rcs_int (fun _ _ => rfl) rcs_nil) (entl_new (use_own rfl) rfl (Nat.le_of_eq (snoc_len' rfl)) (rcs_int (col_snoc' (fun (t : Int) => t) rfl (fun _ _ => rfl)) rcs_nil) (entl_bor (use_lo rfl) rfl rfl (entl_bor (use_lo rfl) rfl rfl entl_nil)))))) (fun c6 h => no_some h))) (fun c5 h => no_some h)) (fun c4 h => no_some h))) (fun c3 h => no_some h)) (fun c2 h => no_some h)) (fun c1 h => no_some h)) (fun c0 h => bif_split h (fun c1 h => bif_split h (fun c2 h => cond_yes rfl (bif_split h (fun c3 h => bif_split h (fun c4 h => ret_at hR _ h (fun n => n) rfl rfl rfl (rn_bool_tf rfl) rfl (entl_bor (use_lo rfl) rfl rfl (entl_bor (use_lo rfl) rfl rfl entl_nil))) (fun c4 h => stop_at hS _ h (fun n => bif Nat.beq n 2 then 2 else bif Nat.beq n 3 then 3 else bif Nat.beq n 4 then 6 else bif Nat.beq n 5 then 8 else n) rfl rfl rfl ⟨(rn_ptr (use_own rfl) rfl rfl), ⟨(rn_own (use_own rfl) rfl (snoc_len' rfl)), ⟨(rn_unk _), ⟨(rn_unk _), ⟨(rn_unk _), ⟨(rn_own (use_own rfl) rfl rfl), ⟨(rn_int rfl), ⟨(rn_int rfl), trivial⟩⟩⟩⟩⟩⟩⟩⟩ rfl (entl_b (use_own rfl) rfl (by simp) (rb_cells ⟨(rn_str rfl), (rn_own (use_own rfl) rfl rfl), (rn_int rfl), (rn_int rfl), trivial⟩) (entl_new (use_own rfl) rfl (Nat.le_of_eq rfl) (rcs_int (fun _ _ => rfl) rcs_nil) (entl_new (use_own rfl) rfl (Nat.le_of_eq (snoc_len' rfl)) (rcs_int (col_snoc' (fun (t : Int) => t) rfl (fun _ _ => rfl)) rcs_nil) (entl_new (use_own rfl) rfl (Nat.le_of_eq rfl) (rcs_int (fun _ _ => rfl) rcs_nil) (entl_bor (use_lo rfl) rfl rfl (entl_bor (use_lo rfl) rfl rfl entl_nil)))))))) (fun c3 h => no_some h))) (fun c2 h => no_some h)) (fun c1 h => no_some h))
attribute [local irreducible] Int.subNatNat in
theorem b109_1 (al nl ml : Nat) (tl : NI) (rp fi : Int) (au nu mu : Nat) (tu : NI) (Kst : KS) (Kret : KR) (x : St109 ⊕ Rt109) (hS : HS 2 400 ((I109 al nl ml tl rp fi au nu mu tu)) Kst x) (hR : HR 2 400 ((V109 al nl ml tl rp fi au nu mu tu)) (J109 al nl ml tl rp fi au nu mu tu) Kret x) (x0 x1 : Int) (x2 x3 x4 : List Int) (h : q109 al nl ml tl rp fi au nu mu tu (.h1 x0 x1 x2 x3 x4) = some x) : T109_1 cond Kst Kret al nl ml tl rp fi au nu mu tu x0 x1 x2 x3 x4 := by
  unfold T109_1
  rw [q109] at h
  refine bif_split h (fun c0 h => bif_split h (fun c1 h => bif_split h (fun c2 h => bif_split h (fun c3 h => bif_split h (fun c4 h => ?_) (fun c4 h => bif_split h (fun c5 h => ?_) (fun c5 h => bif_split h (fun c6 h => bif_split h (fun c7 h => cond_yes rfl (bif_split h (fun c8 h => stop_at hS _ h (fun n => bif Nat.beq n 2 then 2 else bif Nat.beq n 3 then 3 else bif Nat.beq n 4 then 8 else bif Nat.beq n 5 then 5 else n) rfl rfl rfl ⟨(rn_ptr (use_own rfl) rfl rfl), ⟨(rn_own (use_own rfl) rfl (snoc_len' rfl)), ⟨(rn_unk _), ⟨(rn_unk _), ⟨(rn_unk _), ⟨(rn_own (use_own rfl) rfl rfl), ⟨(rn_int rfl), ⟨(rn_int rfl), trivial⟩⟩⟩⟩⟩⟩⟩⟩ rfl (entl_b (use_own rfl) rfl (by simp) (rb_cells ⟨(rn_str rfl), (rn_own (use_own rfl) rfl rfl), (rn_int rfl), (rn_int rfl), trivial⟩) (entl_new (use_own rfl) rfl (Nat.le_of_eq rfl) (rcs_int (fun _ _ => rfl) rcs_nil) (entl_new (use_own rfl) rfl (Nat.le_of_eq (snoc_len' rfl)) (rcs_int (col_snoc' (fun (t : Int) => t) rfl (fun _ _ => rfl)) rcs_nil) (entl_new (use_own rfl) rfl (Nat.le_of_eq rfl) (rcs_int (fun _ _ => rfl) rcs_nil) (entl_bor (use_lo rfl) rfl rfl (entl_bor (use_lo rfl) rfl rfl entl_nil))))))) (fun c8 h => ?_))) (fun c7 h => ?_)) (fun c6 h => ?_)))) (fun c3 h => ?_)) (fun c2 h => ?_)) (fun c1 h => ?_)) (fun c0 h => bif_split h (fun c1 h => bif_split h (fun c2 h => bif_split h (fun c3 h => ?_) (fun c3 h => ?_)) (fun c2 h => ?_)) (fun c1 h => ?_))
  all_goals first
    | exact no_some h
    | exact ret_at hR _ h (fun n => n) rfl rfl rfl (rn_bool_tf rfl) rfl (entl_bor (use_lo rfl) rfl rfl (entl_bor (use_lo rfl) rfl rfl entl_nil))
theorem a109 (al nl ml : Nat) (tl : NI) (rp fi : Int) (au nu mu : Nat) (tu : NI) {r : Rt109} (h : Goes ((q109 al nl ml tl rp fi au nu mu tu)) ((p109 al nl ml tl rp fi au nu mu tu)) r) : CallR Try.prog 9 [.agg [.loose ⟨0, 1, al, 0⟩ nl, .int .u8 rp, .int .u8 fi], .loose ⟨1, 1, au, 0⟩ nu] [[(0, (false, .cols ml [.int .u8 tl])), (1, (false, .cols mu [.int .u8 tu]))]] 2 ((V109 al nl ml tl rp fi au nu mu tu) r) ((J109 al nl ml tl rp fi au nu mu tu) r) 400 ∧ ∃ F, Try.prog.funcs[9]? = some F ∧ F.body.isSome = true ∧ (F.name == "runtime.NumGoroutine") = false := by
  refine dec_calls (f := 9) (lo := 2) (hi := 400) (H := [[(0, (false, .cols ml [.int .u8 tl])), (1, (false, .cols mu [.int .u8 tu]))]]) (args := [.agg [.loose ⟨0, 1, al, 0⟩ nl, .int .u8 rp, .int .u8 fi], .loose ⟨1, 1, au, 0⟩ nu]) Try.envOk Try.mixed xC10_ok ((I109 al nl ml tl rp fi au nu mu tu)) ((V109 al nl ml tl rp fi au nu mu tu)) (J109 al nl ml tl rp fi au nu mu tu) (fn := mkFn Try.f9) (ts := [5, 6, 32, 33, 34, 55, 56, 57]) (n := 400) rfl (by decide) (by simp) (names_of rfl) ?_ ?_ ?_ h
  · intro s; cases s <;> exact ⟨hd_ok _ _, by simp [I109], names_of rfl, Nat.le_of_ble_eq_true rfl⟩
  · intro Kst Kret x hS hR h
    exact Holds.eq (te109 cond Kst Kret al nl ml tl rp fi au nu mu tu) (be109 al nl ml tl rp fi au nu mu tu Kst Kret x hS hR h)
  · intro Kst Kret x hS hR s h
    cases s with
    | h0 x0 x1 x2 => exact Holds.eq (t109_0 cond Kst Kret al nl ml tl rp fi au nu mu tu x0 x1 x2) (b109_0 al nl ml tl rp fi au nu mu tu Kst Kret x hS hR x0 x1 x2 h)
    | h1 x0 x1 x2 x3 x4 => exact Holds.eq (t109_1 cond Kst Kret al nl ml tl rp fi au nu mu tu x0 x1 x2 x3 x4) (b109_1 al nl ml tl rp fi au nu mu tu Kst Kret x hS hR x0 x1 x2 x3 x4 h)
noncomputable abbrev w109 {α : Type} (g : Nat → Nat → Nat → (Nat → Int) → Int → Int → Nat → Nat → Nat → (Nat → Int) → α) (x : ((Nat × Nat × Nat × (Nat → Int) × Unit) × Int × Int × Unit) × (Nat × Nat × Nat × (Nat → Int) × Unit) × Unit) : α := g x.1.1.1 x.1.1.2.1 x.1.1.2.2.1 x.1.1.2.2.2.1 x.1.2.1 x.1.2.2.1 x.2.1.1 x.2.1.2.1 x.2.1.2.2.1 x.2.1.2.2.2.1
noncomputable def k109  : Con := ⟨9, [.agg [.list [.int .u8], .plain (.int .u8), .plain (.int .u8)], .one (.list [.int .u8])], w109 (fun al nl ml tl rp fi au nu mu tu => decide (((al + nl ≤ ml ∧ S.bytes nl (fun j => tl (j + al)) = true) ∧ au + nu ≤ mu ∧ S.bytes nu (fun j => tu (j + au)) = true) ∧ (0 ≤ rp ∧ rp ≤ 255) ∧ 0 ≤ fi ∧ fi ≤ 255)), w109 (fun al nl ml tl rp fi au nu mu tu => (V109 al nl ml tl rp fi au nu mu tu) (true)), w109 (fun al nl ml tl rp fi au nu mu tu => (N109 al nl ml tl rp fi au nu mu tu) (true)), fun _ _ => .dead⟩
theorem s109s (al nl ml : Nat) (tl : Nat → Int) (rp fi : Int) (au nu mu : Nat) (tu : Nat → Int) (X : List Int) (R cf : Int) (hR : 1 + Int.tmod rp 3 = R) (hF : S.crF fi (S.crL nl (fun j => tl (j + al))) = cf) (g2 : 2 ≤ X.length ∧ X.length ≤ 8) (ht : ∀ j, j < X.length → 0 ≤ S.at' X j ∧ S.at' X j < 22) (hr : 1 ≤ R ∧ R ≤ 3) (hf : 0 ≤ cf ∧ cf < 22) (hy : S.cyE (ByteArray.mk #[99]) X.length (fun j => S.at' X j) R cf = 0)
    (k0 : Nat) (hk0 : k0 ≤ 31) : ∀ (d i : Nat) (K : List Int), i + d = (S.stpL X.length (fun j => S.at' X j) R cf).length → K.length = k0 + 1 + i → (∀ j, j < K.length → 0 ≤ S.at' K j ∧ S.at' K j < 100) → S.at' K k0 = 99 → (∀ j, j < i → S.at' K (k0 + 1 + j) = S.at' (S.stpL X.length (fun j => S.at' X j) R cf) j) →
      Comes (q109 al nl ml tl rp fi au nu mu tu) (.h1 ((S.stpL X.length (fun j => S.at' X j) R cf).length : Int) (i : Int) X K (S.stpL X.length (fun j => S.at' X j) R cf)) true := by
  obtain ⟨k1, k2⟩ := dr_0 g2 ht hr hf
  have k1 : 3 ≤ (S.stpL X.length (fun j => S.at' X j) R cf).length ∧ (S.stpL X.length (fun j => S.at' X j) R cf).length ≤ 25 := k1
  have k2 : ∀ j, j < (S.stpL X.length (fun j => S.at' X j) R cf).length → 0 ≤ S.at' (S.stpL X.length (fun j => S.at' X j) R cf) j ∧ S.at' (S.stpL X.length (fun j => S.at' X j) R cf) j < 22 := k2
  intro d
  induction d with
  | zero =>
    intro i K hi hK hv h99 hx
    obtain rfl : i = (S.stpL X.length (fun j => S.at' X j) R cf).length := by omega
    have hs : S.setE K.length (fun j => S.at' K j) = 0 := setE_0 (by omega) fun j hj => by have := hv j hj; omega
    have h0 := (ag_0 (x := fun j => S.at' K j) (k := k0) g2 ht hr hf h99).1
    have hA := beh_all (n := X.length) (t := fun j => S.at' X j) (fl := cf) (nl := (S.stpL X.length (fun j => S.at' X j) R cf).length) (l := fun j => S.at' (S.stpL X.length (fun j => S.at' X j) R cf) j) (x := fun j => S.at' K j) (k := k0 + 1) h0 (by omega) hx
    have hsta : S.staS 0 X.length (fun j => S.at' X j) R cf K.length (fun j => S.at' K j) = (3, 0) := by
      rw [sta_is hs, hK, hA.2.1, if_pos rfl]
    apply Comes.of
    rw [q109]
    simp only [hR, hF, hy, hsta]
    refine goes_no (decide_eq_false (Int.lt_irrefl _)) ?_
    refine goes_ok (decide_eq_true (by omega)) ?_
    exact goes_ok rfl (goes_ok rfl (goes_inr.mpr rfl))
  | succ d ih =>
    intro i K hi hK hv h99 hx
    have hlt : i < (S.stpL X.length (fun j => S.at' X j) R cf).length := by omega
    have hvi := k2 i hlt
    have ih := ih (i + 1) (S.snoc K (S.at' (S.stpL X.length (fun j => S.at' X j) R cf) i)) (by omega) (by rw [snoc_len]; omega) (fun j hj => by
      rw [snoc_len] at hj
      by_cases h : j < K.length
      · rw [at_snoc_lt h]; exact hv j h
      · rw [show j = K.length by omega, at_snoc_eq]; omega) (by rw [at_snoc_lt (by omega)]; exact h99) (fun j hj => by
      by_cases h : j < i
      · rw [at_snoc_lt (by omega)]; exact hx j h
      · rw [show k0 + 1 + j = K.length by omega, at_snoc_eq, show j = i by omega])
    have hs : S.setE K.length (fun j => S.at' K j) = 0 := setE_0 (by omega) fun j hj => by have := hv j hj; omega
    have h0 := ag_0 (x := fun j => S.at' K j) (k := k0) g2 ht hr hf h99
    have hA := beh_run (n := X.length) (t := fun j => S.at' X j) (fl := cf) (nl := (S.stpL X.length (fun j => S.at' X j) R cf).length) (l := fun j => S.at' (S.stpL X.length (fun j => S.at' X j) R cf) j) (x := fun j => S.at' K j) (k := k0 + 1) h0.1 i hlt hx
    have hnx : S.nxtS 0 X.length (fun j => S.at' X j) R cf K.length (fun j => S.at' K j) = (S.at' (S.stpL X.length (fun j => S.at' X j) R cf) i, 0) := by
      rw [nxt_is hs, hK, hA, if_neg, Int.toNat_natCast]
      rintro ⟨h1, h2⟩
      obtain rfl : i = 0 := by omega
      rw [h0.2] at h1
      exact Bool.noConfusion h1
    apply Comes.of
    rw [q109]
    simp only [hR, hF, hy, hnx, Int.toNat_natCast]
    refine goes_ok (decide_eq_true (by omega)) ?_
    refine goes_ok (decide_eq_true (by omega)) ?_
    refine goes_ok (decide_eq_true hlt) ?_
    refine goes_ok (decide_eq_true (by omega)) ?_
    refine goes_no rfl ?_
    refine goes_no (bne_eq_false_iff_eq.mpr rfl) ?_
    refine goes_ok (decide_eq_true (by omega)) ?_
    refine goes_ok (decide_eq_true (Nat.le_refl _)) ?_
    with_reducible refine goes_ok (by rw [lim64]; apply decide_eq_true; omega) ?_
    exact ih
theorem s109l (al nl ml : Nat) (tl : Nat → Int) (rp fi : Int) (au nu mu : Nat) (tu : Nat → Int) (hp : au + nu ≤ mu ∧ nu ≤ 30) (hb : S.bytes nu (fun j => tu (j + au)) = true) (X : List Int) (hX : (S.crL nl (fun j => tl (j + al))) = X) (R cf : Int) (hR : 1 + Int.tmod rp 3 = R) (hF : S.crF fi (S.crL nl (fun j => tl (j + al))) = cf) (g2 : 2 ≤ X.length ∧ X.length ≤ 8) (ht : ∀ j, j < X.length → 0 ≤ S.at' X j ∧ S.at' X j < 22) (hr : 1 ≤ R ∧ R ≤ 3) (hf : 0 ≤ cf ∧ cf < 22) (hy : S.cyE (ByteArray.mk #[99]) X.length (fun j => S.at' X j) R cf = 0) :
    ∀ (d i : Nat) (K : List Int), i + d = nu → K.length = i → (∀ j, j < K.length → 0 ≤ S.at' K j ∧ S.at' K j < 100) → Comes (q109 al nl ml tl rp fi au nu mu tu) (.h0 (i : Int) X K) true := by
  have hb := of_decide_eq_true hb
  obtain ⟨hp1, hp2⟩ := hp
  intro d
  induction d with
  | zero =>
    intro i K hi hK hv
    obtain rfl : nu = i := by omega
    have k1 : 3 ≤ (S.stpL X.length (fun j => S.at' X j) R cf).length ∧ (S.stpL X.length (fun j => S.at' X j) R cf).length ≤ 25 := (dr_0 g2 ht hr hf).1
    have hm := s109s al nl ml tl rp fi au nu mu tu X R cf hR hF g2 ht hr hf hy K.length (by omega) (S.stpL X.length (fun j => S.at' X j) R cf).length 0 (S.snoc K 99) (Nat.zero_add _) (by rw [snoc_len]) (fun j hj => by
      rw [snoc_len] at hj
      by_cases h : j < K.length
      · rw [at_snoc_lt h]; exact hv j h
      · rw [show j = K.length by omega, at_snoc_eq]; omega) at_snoc_eq (fun j hj => absurd hj (Nat.not_lt_zero j))
    apply Comes.of
    rw [q109]
    simp only [hR, hF, hy, stps_0]
    refine goes_no (decide_eq_false (by omega)) ?_
    refine goes_ok (decide_eq_true (by omega)) ?_
    refine goes_ok (decide_eq_true (Nat.le_refl _)) ?_
    refine goes_ok (decide_eq_true (by omega)) ?_
    refine goes_no rfl ?_
    exact hm
  | succ d ih =>
    intro i K hi hK hv
    have hbi := hb i (by omega)
    have hx : 0 ≤ Int.tmod (tu (i + au)) 25 ∧ Int.tmod (tu (i + au)) 25 < 25 := ⟨Int.tmod_nonneg _ hbi.1, Int.tmod_lt_of_pos _ (by decide)⟩
    have ih := ih (i + 1) (S.snoc K (Int.tmod (tu (i + au)) 25)) (by omega) (by rw [snoc_len]; omega) (fun j hj => by
      rw [snoc_len] at hj
      by_cases h : j < K.length
      · rw [at_snoc_lt h]; exact hv j h
      · rw [show j = K.length by omega, at_snoc_eq]; omega)
    have hbi : 0 ≤ tu (i + au) ∧ tu (i + au) ≤ 255 := hbi
    apply Comes.of
    rw [q109]
    simp only [Int.toNat_natCast]
    repeat' (first | with_reducible refine goes_if (fun h => ?_) (fun h => ?_) <;> (try simp only [SH] at h) | exact goes_none.mpr (by omega))
    all_goals first | (exfalso; omega) | exact ih
theorem s109 (al nl ml : Nat) (tl : Nat → Int) (rp fi : Int) (au nu mu : Nat) (tu : Nat → Int) (hp : ((al + nl ≤ ml ∧ S.bytes nl (fun j => tl (j + al)) = true) ∧ au + nu ≤ mu ∧ S.bytes nu (fun j => tu (j + au)) = true) ∧ (0 ≤ rp ∧ rp ≤ 255) ∧ 0 ≤ fi ∧ fi ≤ 255) : Goes ((q109 al nl ml tl rp fi au nu mu tu)) ((p109 al nl ml tl rp fi au nu mu tu)) (true) := by
  obtain ⟨⟨⟨hp1, hp2⟩, hp3, hp4⟩, hp5, hp6⟩ := hp
  unfold p109
  by_cases hn : (nl : Int) > 20
  · exact goes_ok (decide_eq_true hn) (goes_inr.mpr rfl)
  refine goes_no (decide_eq_false hn) ?_
  by_cases hu : (nu : Int) > 30
  · exact goes_ok (decide_eq_true hu) (goes_inr.mpr rfl)
  refine goes_no (decide_eq_false hu) ?_
  refine goes_ok (decide_eq_true ⟨hp1, hp2, hp5, hp6⟩) ?_
  obtain ⟨g1, g2, g3⟩ := crL_ok hp2
  have hx : 0 ≤ Int.tmod rp 3 ∧ Int.tmod rp 3 < 3 := ⟨Int.tmod_nonneg _ hp5.1, Int.tmod_lt_of_pos _ (by decide)⟩
  have g4 := crF_ok (L := (S.crL nl (fun j => tl (j + al)))) hp6.1
  exact s109l al nl ml tl rp fi au nu mu tu ⟨hp3, by omega⟩ hp4 (S.crL nl (fun j => tl (j + al))) rfl _ _ rfl rfl ⟨g2, g3⟩ (fun j hj => (g1 j hj).1) (by omega) (by omega) (draft_ok g1 ⟨g2, g3⟩ (by omega) g4) nu 0 [] (Nat.zero_add _) rfl (fun j hj => absurd hj (Nat.not_lt_zero j))
theorem k109_ok  : k109.ok Try.prog := by
  intro x hx
  obtain ⟨⟨⟨al, nl, ml, tl, _⟩, rp, fi, _⟩, ⟨au, nu, mu, tu, _⟩, _⟩ := x
  obtain ⟨h1, h2⟩ := a109 al nl ml tl rp fi au nu mu tu (s109 al nl ml tl rp fi au nu mu tu (of_dec hx rfl))
  exact ⟨⟨400, (by decide : 2 + 1 + 0 ≤ 400), h1⟩, h2⟩
theorem pre109  {x : SsI k109.ss} (hx : ssFits k109.ss x) : k109.pre (ssj k109.ss x) = true := by
  obtain ⟨⟨⟨n, t, u1⟩, rp, fi, u2⟩, ⟨m, v, u3⟩, u4⟩ := x
  obtain ⟨⟨⟨hn, ht, -⟩, hr, hf, -⟩, ⟨hm, hv, -⟩, -⟩ := hx
  exact decide_eq_true ⟨⟨⟨Nat.le_of_eq (Nat.zero_add _), bytes_mk ht⟩, Nat.le_of_eq (Nat.zero_add _), bytes_mk hv⟩, hr, hf⟩
end Go.Ev
