/-
  The parts that the statement needs, 3 of 3.
-/
import Derived.Test.YtndklmcnndilgaaV1072
namespace Go.Ev
open Go.Proofs
open Go.IntWalk
set_option linter.unusedVariables false
set_option linter.unusedSimpArgs false
set_option maxRecDepth 100000
theorem a30 (ap np mp : Nat) (tp : Nat → Int) (vp : Nat → Int) (o : Int) {r : Rt30} (h : Goes ((q30 ap np mp tp vp o)) ((p30 ap np mp tp vp o)) r) : CallR Try.prog 31 [.agg [.loose ⟨0, 2, ap, 0⟩ np, .int .u32 o]] [[(0, (false, .cols mp [.int .u8 tp, .int .u8 vp]))]] 1 ((V30 ap np mp tp vp o) r) ((fun r => [newL (1 + 1) ((N30 ap np mp tp vp o) r) ++ [(0, (false, .cols mp [.int .u8 tp, .int .u8 vp]))]]) r) 400 ∧ ∃ F, Try.prog.funcs[31]? = some F ∧ F.body.isSome = true ∧ (F.name == "runtime.NumGoroutine") = false := by
  refine dec_calls (f := 31) (lo := 1) (hi := 400) (H := [[(0, (false, .cols mp [.int .u8 tp, .int .u8 vp]))]]) (args := [.agg [.loose ⟨0, 2, ap, 0⟩ np, .int .u32 o]]) Try.envOk Try.mixed noX_ok ((I30 ap np mp tp vp o)) ((V30 ap np mp tp vp o)) (fun r => [newL (1 + 1) ((N30 ap np mp tp vp o) r) ++ [(0, (false, .cols mp [.int .u8 tp, .int .u8 vp]))]]) (fn := mkFn Try.f31) (ts := [1, 2, 3, 4]) (n := 400) rfl (by decide) (by simp) (names_of rfl) ?_ ?_ ?_ h
  · intro s; cases s <;> exact ⟨hd_ok _ _, by simp [I30], names_of rfl, Nat.le_of_ble_eq_true rfl⟩
  · intro Kst Kret x hS hR h
    exact Holds.eq (te30 cond Kst Kret ap np mp tp vp o) (be30 ap np mp tp vp o Kst Kret x hS hR h)
  · intro Kst Kret x hS hR s h
    cases s with
    | h0 x0 x1 x2 => exact Holds.eq (t30_0 cond Kst Kret ap np mp tp vp o x0 x1 x2) (b30_0 ap np mp tp vp o Kst Kret x hS hR x0 x1 x2 h)
noncomputable def k30 : Con := ⟨31, [.agg [.list [.int .u8, .int .u8], .plain (.int .u32)]], fun (x : ((Nat × Nat × Nat × (Nat → Int) × (Nat → Int) × Unit) × Int × Unit) × Unit) => (fun (ap np mp : Nat) (tp : Nat → Int) (vp : Nat → Int) (o : Int) => decide (ap + np ≤ mp ∧ S.bytes np (fun j => tp (j + ap)) = true ∧ S.bytes np (fun j => vp (j + ap)) = true)) x.1.1.1 x.1.1.2.1 x.1.1.2.2.1 x.1.1.2.2.2.1 x.1.1.2.2.2.2.1 x.1.2.1, fun (x : ((Nat × Nat × Nat × (Nat → Int) × (Nat → Int) × Unit) × Int × Unit) × Unit) => (fun (ap np mp : Nat) (tp : Nat → Int) (vp : Nat → Int) (o : Int) => (V30 ap np mp tp vp o) ((S.mkl (S.mdN np) fun j => S.mdR np (fun j => tp (j + ap)) (fun j => vp (j + ap)) j, S.mkl (S.mdN np) fun j => S.mdB o j))) x.1.1.1 x.1.1.2.1 x.1.1.2.2.1 x.1.1.2.2.2.1 x.1.1.2.2.2.2.1 x.1.2.1, fun (x : ((Nat × Nat × Nat × (Nat → Int) × (Nat → Int) × Unit) × Int × Unit) × Unit) => (fun (ap np mp : Nat) (tp : Nat → Int) (vp : Nat → Int) (o : Int) => (N30 ap np mp tp vp o) ((S.mkl (S.mdN np) fun j => S.mdR np (fun j => tp (j + ap)) (fun j => vp (j + ap)) j, S.mkl (S.mdN np) fun j => S.mdB o j))) x.1.1.1 x.1.1.2.1 x.1.1.2.2.1 x.1.1.2.2.2.1 x.1.1.2.2.2.2.1 x.1.2.1, fun _ _ => .dead⟩
theorem s30' (ap np mp : Nat) (tp : Nat → Int) (vp : Nat → Int) (o : Int) (hp : ap + np ≤ mp ∧ S.bytes np (fun j => tp (j + ap)) = true ∧ S.bytes np (fun j => vp (j + ap)) = true) : ∀ (k i : Nat) (lr : List (Int × Int × Int)) (lo : List Bool), i + k = S.mdN np → Holds (lr = S.mkl i fun j => S.mdR np (fun j => tp (j + ap)) (fun j => vp (j + ap)) j) → Holds (lo = S.mkl i fun j => S.mdB o j) → Comes (q30 ap np mp tp vp o) (.h0 (i : Int) lr lo) ((S.mkl (S.mdN np) fun j => S.mdR np (fun j => tp (j + ap)) (fun j => vp (j + ap)) j, S.mkl (S.mdN np) fun j => S.mdB o j)) := by
  obtain ⟨hp1, hp2, hp3⟩ := hp
  intro k
  induction k with
  | zero =>
    intro i lr lo hi elr elo
    obtain ⟨n1, n2, n3, n4, n5⟩ := mdN_le (np := np)
    have hlr : lr.length = i := by rw [elr.get]; exact mkl_len
    have hlo : lo.length = i := by rw [elo.get]; exact mkl_len
    generalize hN : S.mdN np = n at *
    apply Comes.of
    show Goes _ _ _
    (first | rw [q30] | unfold q30)
    repeat' first
      | with_reducible refine goes_if (fun h => ?_) (fun h => ?_) <;> (try simp only [lim64, imp_false, decide_eq_true_eq, decide_eq_false_iff_not, Int.toNat_natCast, toNat_pred, toNat_succ, Option.getD_some, Option.getD_none, Bool.not_eq_true', Bool.not_eq_false', Bool.and_eq_true, Bool.or_eq_true, Bool.and_eq_false_iff, Bool.or_eq_false_iff, bne_iff_ne, beq_iff_eq, bne_eq_false_iff_eq, beq_eq_false_iff_ne, ne_eq, not_and, Int.not_le, Int.not_lt, ge_iff_le, gt_iff_lt, Nat.not_lt, Nat.not_le, Bool.not_eq_true, Bool.not_eq_false, Bool.true_eq_false, Bool.false_eq_true, not_false_eq_true, not_true_eq_false] at h)
      | exact goes_none.mpr (by omega)
    all_goals first | (exfalso; omega) | (obtain rfl : S.mdN np = i := (by omega);  refine goes_inr.mpr ?_; rw [elr.get, elo.get, hN])
  | succ k ih =>
    intro i lr lo hi elr elo
    obtain ⟨n1, n2, n3, n4, n5⟩ := mdN_le (np := np)
    have hlr : lr.length = i := by rw [elr.get]; exact mkl_len
    have hlo : lo.length = i := by rw [elo.get]; exact mkl_len
    generalize hN : S.mdN np = n at *
    have b1 : i < np → _ := fun h => of_decide_eq_true hp2 i h
    have b2 : i < np → _ := fun h => of_decide_eq_true hp3 i h
    simp only at b1 b2
    have c1 : i < np → _ := fun h => byte_div (b1 h)
    have c2 : i < np → _ := fun h => byte_div (b2 h)
    apply Comes.of
    show Goes _ _ _
    (first | rw [q30] | unfold q30)
    repeat' first
      | with_reducible refine goes_if (fun h => ?_) (fun h => ?_) <;> (try simp only [lim64, imp_false, decide_eq_true_eq, decide_eq_false_iff_not, Int.toNat_natCast, toNat_pred, toNat_succ, Option.getD_some, Option.getD_none, Bool.not_eq_true', Bool.not_eq_false', Bool.and_eq_true, Bool.or_eq_true, Bool.and_eq_false_iff, Bool.or_eq_false_iff, bne_iff_ne, beq_iff_eq, bne_eq_false_iff_eq, beq_eq_false_iff_ne, ne_eq, not_and, Int.not_le, Int.not_lt, ge_iff_le, gt_iff_lt, Nat.not_lt, Nat.not_le, Bool.not_eq_true, Bool.not_eq_false, Bool.true_eq_false, Bool.false_eq_true, not_false_eq_true, not_true_eq_false] at h)
      | exact goes_none.mpr (by omega)
    all_goals first
      | (exfalso; omega)
      | (refine ih (i + 1) _ _ (by omega) ⟨?_⟩ ⟨?_⟩ <;> first | (rw [elr.get, mkl_succ]; refine congrArg (S.snoc _) ?_; unfold S.mdR; first | (rw [if_pos (by omega)]; rfl) | (rw [if_neg (by omega)])) | (rw [elo.get, mkl_succ]; refine congrArg (S.snoc _) ?_; unfold S.mdB; symm; first | (rw [beq_iff_eq]; assumption) | (rw [beq_eq_false_iff_ne]; assumption)))
      | (refine ih (i + 1) _ _ (by omega) ⟨?_⟩ ⟨?_⟩ <;> (skip))
theorem s30 (ap np mp : Nat) (tp : Nat → Int) (vp : Nat → Int) (o : Int) (hp : ap + np ≤ mp ∧ S.bytes np (fun j => tp (j + ap)) = true ∧ S.bytes np (fun j => vp (j + ap)) = true) : Goes ((q30 ap np mp tp vp o)) ((p30 ap np mp tp vp o)) ((S.mkl (S.mdN np) fun j => S.mdR np (fun j => tp (j + ap)) (fun j => vp (j + ap)) j, S.mkl (S.mdN np) fun j => S.mdB o j)) := by
  exact s30' ap np mp tp vp o hp (S.mdN np) 0 [] [] (by omega) ⟨rfl⟩ ⟨rfl⟩
theorem k30_ok : k30.ok Try.prog := by
  intro x hx
  obtain ⟨⟨⟨ap, np, mp, tp, vp, _⟩, o, _⟩, _⟩ := x
  obtain ⟨h1, h2⟩ := a30 ap np mp tp vp o (s30 ap np mp tp vp o (of_dec hx rfl))
  exact ⟨⟨400, (by decide : 1 + 1 + 2 ≤ 400), h1⟩, h2⟩
namespace S
def crN (t : Nat → Int) : Nat → List Int
  | 0 => []
  | i + 1 => if (crN t i).length = 0 then snoc (crN t i) (Int.tmod (t i) 20) else if at' (crN t i) ((crN t i).length - 1) ≠ Int.tmod (t i) 20 then snoc (crN t i) (Int.tmod (t i) 20) else crN t i
def crP (L : List Int) : List Int := if L.length = 0 then [20, 21] else if L.length = 1 then snoc L 21 else L
def crL (n : Nat) (t : Nat → Int) : List Int := crP (crN t (min n 8))
def crF (fi : Int) (L : List Int) : Int := if Int.tmod fi 20 = at' L (L.length - 1) then Int.tmod fi 20 + 1 else Int.tmod fi 20
def good (L : List Int) (m : Int) : Prop := ∀ j, j < L.length → (0 ≤ at' L j ∧ at' L j < m) ∧ (0 < j → at' L j ≠ at' L (j - 1))
end S
theorem good_snoc {L : List Int} {m x : Int} (h : S.good L m) (hx : 0 ≤ x ∧ x < m) (hn : 0 < L.length → S.at' L (L.length - 1) ≠ x) : S.good (S.snoc L x) m := by
  intro j hj
  rw [snoc_len] at hj
  rcases Nat.lt_or_eq_of_le (Nat.le_of_lt_succ hj) with h1 | h1
  · rw [at_snoc_lt h1, at_snoc_lt (show j - 1 < L.length by omega)]
    exact h j h1
  · subst h1
    rw [at_snoc_eq]
    refine ⟨hx, fun h0 => ?_⟩
    rw [at_snoc_lt (by omega)]
    exact (hn h0).symm
theorem crN_ok {t : Nat → Int} : ∀ {i : Nat}, (∀ j, j < i → 0 ≤ t j) → S.good (S.crN t i) 20 ∧ (S.crN t i).length ≤ i
  | 0, _ => ⟨fun j hj => absurd hj (Nat.not_lt_zero j), Nat.le_refl _⟩
  | i + 1, h => by
    obtain ⟨h1, h2⟩ := crN_ok (i := i) fun j hj => h j (by omega)
    have hx : 0 ≤ Int.tmod (t i) 20 ∧ Int.tmod (t i) 20 < 20 := ⟨Int.tmod_nonneg _ (h i (by omega)), Int.tmod_lt_of_pos _ (by decide)⟩
    simp only [S.crN]
    split
    · exact ⟨good_snoc h1 hx (fun h0 => by omega), by rw [snoc_len]; omega⟩
    · split
      · rename_i h3
        exact ⟨good_snoc h1 hx (fun h0 => h3), by rw [snoc_len]; omega⟩
      · exact ⟨h1, by omega⟩
theorem good_le {L : List Int} {m m' : Int} (h : S.good L m) (hm : m ≤ m') : S.good L m' := fun j hj => by
  have := h j hj
  exact ⟨by omega, this.2⟩
theorem crL_ok {n : Nat} {t : Nat → Int} (h : S.bytes n t = true) : S.good (S.crL n t) 22 ∧ 2 ≤ (S.crL n t).length ∧ (S.crL n t).length ≤ 8 := by
  have h0 := of_decide_eq_true h
  obtain ⟨h1, h2⟩ := crN_ok (t := t) (i := min n 8) fun j hj => (h0 j (by omega)).1
  unfold S.crL S.crP
  split
  · refine ⟨fun j hj => ?_, Nat.le_refl _, by decide⟩
    have hj : j < 2 := hj
    rcases Nat.lt_or_eq_of_le (Nat.le_of_lt_succ hj) with h3 | h3
    · rw [show j = 0 by omega]; exact ⟨by decide, fun h => absurd h (Nat.lt_irrefl 0)⟩
    · subst h3; exact ⟨by decide, fun _ => by decide⟩
  · split
    · rename_i h3 h4
      refine ⟨good_snoc (good_le h1 (by decide)) (by decide) (fun h5 => ?_), by rw [snoc_len]; omega, by rw [snoc_len]; omega⟩
      have := (h1 _ (show (S.crN t (min n 8)).length - 1 < _ by omega)).1
      omega
    · exact ⟨good_le h1 (by decide), by omega, by omega⟩
theorem name_c : S.isNam (ByteArray.mk #[99]) = true := by decide +kernel
theorem crF_ok {fi : Int} {L : List Int} (h : 0 ≤ fi) : (0 ≤ S.crF fi L ∧ S.crF fi L ≤ 20) ∧ S.crF fi L ≠ S.at' L (L.length - 1) := by
  have hx : 0 ≤ Int.tmod fi 20 ∧ Int.tmod fi 20 < 20 := ⟨Int.tmod_nonneg _ h, Int.tmod_lt_of_pos _ (by decide)⟩
  unfold S.crF
  split <;> omega
theorem curE_yes {e : Int} {t : Nat → Int} : ∀ {k i : Nat}, (∀ j, i ≤ j → j < i + k → (-1099511627776 ≤ t j ∧ t j ≤ 1099511627776) ∧ (0 < j → t j ≠ t (j - 1))) → S.curE e t i k = e
  | 0, _, _ => rfl
  | k + 1, i, h => by
    obtain ⟨h1, h2⟩ := h i (Nat.le_refl _) (by omega)
    simp only [S.curE]
    rw [if_pos h1, if_neg (fun h3 => h2 h3.1 h3.2)]
    exact curE_yes fun j a c => h j (by omega) (by omega)
theorem draft_ok {L : List Int} {rp fl : Int} (h1 : S.good L 22) (h2 : 2 ≤ L.length ∧ L.length ≤ 8) (h3 : 1 ≤ rp ∧ rp ≤ 3) (h4 : (0 ≤ fl ∧ fl ≤ 20) ∧ fl ≠ S.at' L (L.length - 1)) : S.cyE (ByteArray.mk #[99]) L.length (fun j => S.at' L j) rp fl = 0 := by
  unfold S.cyE
  rw [if_pos name_c, if_neg (by omega), if_neg (by omega), curE_yes fun j _ hj => ?_, if_pos (by omega), if_neg h4.2]
  have := h1 j (by omega)
  exact ⟨by omega, this.2⟩
inductive St132 where
  | h0 (x0 : Int) (x1 : List Int)
  | h1 (x0 : List Int)
abbrev Rt132 := Int × List Int
noncomputable def V132 (al nl ml : Nat) (tl : Nat → Int) (rp : Int) (fi : Int) (r : Rt132) : PV := PV.agg
 [PV.str (ByteArray.mk #[(99 : UInt8)]), PV.own (2) (1) (List.length r.2),
 PV.int IntKind.i64 ((1 : Int) + Int.tmod rp (3 : Int)), PV.int IntKind.i64 r.1]
noncomputable def N132 (al nl ml : Nat) (tl : Nat → Int) (rp : Int) (fi : Int) (r : Rt132) : List Blk := [Blk.cols (List.length r.2) [Col.int IntKind.i64 fun j => S.at' r.2 j]]
noncomputable def I132 (al nl ml : Nat) (tl : Nat → Int) (rp : Int) (fi : Int) : St132 → Hd
  | .h0 x0 x1 => ⟨hd Try.f32 0, [PV.ptr (PA.mk (1) (0) (0) (0)),
 PV.ptr (PA.mk (2) (0) (0) (0)),
 PV.ptr (PA.mk (3) (0) (0) (0)), PV.int IntKind.i64 x0], [[(1, (true, Blk.cells
 [PV.loose (PA.mk (0) (1) al (0)) nl, PV.int IntKind.u8 rp,
 PV.int IntKind.u8 fi])), (2, (true, Blk.cells
 [PV.str (ByteArray.mk (Array.mk [])), PV.nils, PV.int IntKind.i64 (0 : Int),
 PV.int IntKind.i64 (0 : Int)])), (3, (true, Blk.cells
 [PV.str (ByteArray.mk #[(99 : UInt8)]), PV.own (4) (1) (List.length x1),
 PV.int IntKind.i64 ((1 : Int) + Int.tmod rp (3 : Int)), PV.int IntKind.i64 (0 : Int)])), (4, (true, Blk.cols (List.length x1) [Col.int IntKind.i64 fun j => S.at' x1 j]))], [(0, (false, .cols ml [.int .u8 tl]))]], 5⟩
  | .h1 x0 => ⟨hd Try.f32 1, [PV.ptr (PA.mk (1) (0) (0) (0)),
 PV.ptr (PA.mk (2) (0) (0) (0)),
 PV.ptr (PA.mk (3) (0) (0) (0)), PV.unk], [[(1, (true, Blk.cells
 [PV.loose (PA.mk (0) (1) al (0)) nl, PV.int IntKind.u8 rp,
 PV.int IntKind.u8 fi])), (2, (true, Blk.cells
 [PV.str (ByteArray.mk (Array.mk [])), PV.nils, PV.int IntKind.i64 (0 : Int),
 PV.int IntKind.i64 (0 : Int)])), (3, (true, Blk.cells
 [PV.str (ByteArray.mk #[(99 : UInt8)]), PV.own (4) (1) (List.length x0),
 PV.int IntKind.i64 ((1 : Int) + Int.tmod rp (3 : Int)), PV.int IntKind.i64 (0 : Int)])), (4, (true, Blk.cols (List.length x0) [Col.int IntKind.i64 fun j => S.at' x0 j]))], [(0, (false, .cols ml [.int .u8 tl]))]], 5⟩
noncomputable def q132 (al nl ml : Nat) (tl : Nat → Int) (rp : Int) (fi : Int) : St132 → Option (St132 ⊕ Rt132)
  | .h0 x0 x1 => bif (decide (x0 < (↑nl : Int)))
 then (bif (decide (x0 < (8 : Int)))
 then (bif (decide ((0 : Int) ≤ x0 ∧ x0 < (↑nl : Int)))
 then (bif (decide (Int.toNat x0 + al < ml))
 then (bif (lim IntKind.i64 (tl (Int.toNat x0 + al)))
 then (bif ((↑(List.length x1) : Int) == (0 : Int))
 then (bif (decide (List.length x1 + 1 ≤ 1000000))
 then (bif (decide (List.length x1 ≤ List.length x1))
 then (bif (lim IntKind.i64 (x0 + (1 : Int)))
 then (some (.inl (.h0 (x0 + (1 : Int)) (S.snoc x1 (Int.tmod (tl (Int.toNat x0 + al)) (20 : Int))))))
 else (none))
 else (none))
 else (none))
 else (bif (lim IntKind.i64 ((↑(List.length x1) : Int) - (1 : Int)))
 then (bif (decide
 ((0 : Int) ≤ (↑(List.length x1) : Int) - (1 : Int) ∧
 (↑(List.length x1) : Int) - (1 : Int) < (↑(List.length x1) : Int)))
 then (bif (decide (Int.toNat ((↑(List.length x1) : Int) - (1 : Int)) < List.length x1))
 then (bif (S.at' x1 (Int.toNat ((↑(List.length x1) : Int) - (1 : Int))) != Int.tmod (tl (Int.toNat x0 + al)) (20 : Int))
 then (bif (decide (List.length x1 + 1 ≤ 1000000))
 then (bif (decide (List.length x1 ≤ List.length x1))
 then (bif (lim IntKind.i64 (x0 + (1 : Int)))
 then (some (.inl (.h0 (x0 + (1 : Int)) (S.snoc x1 (Int.tmod (tl (Int.toNat x0 + al)) (20 : Int))))))
 else (none))
 else (none))
 else (none))
 else (bif (lim IntKind.i64 (x0 + (1 : Int)))
 then (some (.inl (.h0 (x0 + (1 : Int)) (x1))))
 else (none)))
 else (none))
 else (none))
 else (none)))
 else (none))
 else (none))
 else (none))
 else (some (.inl (.h1 (x1)))))
 else (some (.inl (.h1 (x1))))
  | .h1 x0 => bif (decide ((↑(List.length x0) : Int) < (2 : Int)))
 then (bif (lim IntKind.i64 ((20 : Int) + (↑(List.length x0) : Int)))
 then (bif (decide (List.length x0 + 1 ≤ 1000000))
 then (bif (decide (List.length x0 ≤ List.length x0))
 then (some (.inl (.h1 (S.snoc x0 ((20 : Int) + (↑(List.length x0) : Int))))))
 else (none))
 else (none))
 else (none))
 else (bif (lim IntKind.i64 fi)
 then (bif (lim IntKind.i64 ((↑(List.length x0) : Int) - (1 : Int)))
 then (bif (decide
 ((0 : Int) ≤ (↑(List.length x0) : Int) - (1 : Int) ∧
 (↑(List.length x0) : Int) - (1 : Int) < (↑(List.length x0) : Int)))
 then (bif (decide (Int.toNat ((↑(List.length x0) : Int) - (1 : Int)) < List.length x0))
 then (bif (Int.tmod fi (20 : Int) == S.at' x0 (Int.toNat ((↑(List.length x0) : Int) - (1 : Int))))
 then (bif (lim IntKind.i64 (Int.tmod fi (20 : Int) + (1 : Int)))
 then (some (.inr (Int.tmod fi (20 : Int) + (1 : Int), x0)))
 else (none))
 else (some (.inr (Int.tmod fi (20 : Int), x0))))
 else (none))
 else (none))
 else (none))
 else (none))
noncomputable def p132 (al nl ml : Nat) (tl : Nat → Int) (rp : Int) (fi : Int) : Option (St132 ⊕ Rt132) := bif (lim IntKind.i64 rp)
 then (bif (lim IntKind.i64 ((1 : Int) + Int.tmod rp (3 : Int)))
 then (some (.inl (.h0 ((0 : Int)) ([]))))
 else (none))
 else (none)
noncomputable def Te132 (test : Bool → Prop → Prop → Prop) (Kst : KS) (Kret : KR) (al nl ml : Nat) (tl : Nat → Int) (rp : Int) (fi : Int) : Prop :=
  test (lim IntKind.i64 rp)
 (test (false)
 (False)
 (test (lim IntKind.i64 ((1 : Int) + Int.tmod rp (3 : Int)))
 (Kst (hd Try.f32 0) ([PV.ptr (PA.mk (1) (0) (0) (0)),
 PV.ptr (PA.mk (2) (0) (0) (0)),
 PV.ptr (PA.mk (3) (0) (0) (0)), PV.int IntKind.i64 (0 : Int)]) ([[(0, false, Blk.cols ml [Col.int IntKind.u8 tl]),
 (3, true,
 Blk.cells
 [PV.str (ByteArray.mk #[(99 : UInt8)]), PV.nils,
 PV.int IntKind.i64 ((1 : Int) + Int.tmod rp (3 : Int)), PV.int IntKind.i64 (0 : Int)]),
 (2, true,
 Blk.cells
 [PV.str (ByteArray.mk (Array.mk [])), PV.nils, PV.int IntKind.i64 (0 : Int),
 PV.int IntKind.i64 (0 : Int)]),
 (1, true,
 Blk.cells
 [PV.loose (PA.mk (0) (1) al (0)) nl, PV.int IntKind.u8 rp,
 PV.int IntKind.u8 fi])]]) (4))
 (False)))
 (False)
theorem te132 (test : Bool → Prop → Prop → Prop) (Kst : KS) (Kret : KR) (al nl ml : Nat) (tl : Nat → Int) (rp : Int) (fi : Int) : run test Try.env true noX true 400 ⟨32, [.cd (mkFn Try.f32).body], argT 0 [.agg [.loose ⟨0, 1, al, 0⟩ nl, .int .u8 rp, .int .u8 fi]], [[], [(0, (false, .cols ml [.int .u8 tl]))]], 1⟩ (proj 1 [1, 2, 3, 4] Kst Kret) =
  Te132 test Kst Kret al nl ml tl rp fi := by kernel_rfl
noncomputable def T132_0 (test : Bool → Prop → Prop → Prop) (Kst : KS) (Kret : KR) (al nl ml : Nat) (tl : Nat → Int) (rp : Int) (fi : Int) (x0 : Int) (x1 : List Int) : Prop :=
  test (decide (x0 < (↑nl : Int)))
 (test (decide (x0 < (8 : Int)))
 (test (decide ((0 : Int) ≤ x0 ∧ x0 < (↑nl : Int)))
 (test (decide (Int.toNat x0 + al < ml))
 (test (lim IntKind.i64 (tl (Int.toNat x0 + al)))
 (test (false)
 (False)
 (test ((↑(List.length x1) : Int) == (0 : Int))
 (test (decide (List.length x1 + 1 ≤ 1000000))
 (test (decide (List.length x1 ≤ List.length x1))
 (test (true)
 (test (lim IntKind.i64 (x0 + (1 : Int)))
 (Kst (hd Try.f32 0) ([PV.ptr (PA.mk (1) (0) (0) (0)),
 PV.ptr (PA.mk (2) (0) (0) (0)),
 PV.ptr (PA.mk (3) (0) (0) (0)),
 PV.int IntKind.i64 (x0 + (1 : Int))]) ([[(0, false, Blk.cols ml [Col.int IntKind.u8 tl]),
 (3, true,
 Blk.cells
 [PV.str (ByteArray.mk #[(99 : UInt8)]), PV.own (6) (1) (List.length x1 + 1),
 PV.int IntKind.i64 ((1 : Int) + Int.tmod rp (3 : Int)), PV.int IntKind.i64 (0 : Int)]),
 (2, true,
 Blk.cells
 [PV.str (ByteArray.mk (Array.mk [])), PV.nils, PV.int IntKind.i64 (0 : Int),
 PV.int IntKind.i64 (0 : Int)]),
 (1, true,
 Blk.cells
 [PV.loose (PA.mk (0) (1) al (0)) nl, PV.int IntKind.u8 rp,
 PV.int IntKind.u8 fi]),
 (6, true,
 Blk.cols (List.length x1 + 1)
 [Col.int IntKind.i64 fun j =>
 bif Nat.blt j (List.length x1) then S.at' x1 j else Int.tmod (tl (Int.toNat x0 + al)) (20 : Int)])]]) (7))
 (False))
 (False))
 (False))
 (False))
 (test (lim IntKind.i64 ((↑(List.length x1) : Int) - (1 : Int)))
 (test (decide
 ((0 : Int) ≤ (↑(List.length x1) : Int) - (1 : Int) ∧
 (↑(List.length x1) : Int) - (1 : Int) < (↑(List.length x1) : Int)))
 (test (decide (Int.toNat ((↑(List.length x1) : Int) - (1 : Int)) < List.length x1))
 (test (S.at' x1 (Int.toNat ((↑(List.length x1) : Int) - (1 : Int))) != Int.tmod (tl (Int.toNat x0 + al)) (20 : Int))
 (test (decide (List.length x1 + 1 ≤ 1000000))
 (test (decide (List.length x1 ≤ List.length x1))
 (test (true)
 (test (lim IntKind.i64 (x0 + (1 : Int)))
 (Kst (hd Try.f32 0) ([PV.ptr (PA.mk (1) (0) (0) (0)),
 PV.ptr (PA.mk (2) (0) (0) (0)),
 PV.ptr (PA.mk (3) (0) (0) (0)),
 PV.int IntKind.i64 (x0 + (1 : Int))]) ([[(0, false, Blk.cols ml [Col.int IntKind.u8 tl]),
 (3, true,
 Blk.cells
 [PV.str (ByteArray.mk #[(99 : UInt8)]), PV.own (6) (1) (List.length x1 + 1),
 PV.int IntKind.i64 ((1 : Int) + Int.tmod rp (3 : Int)), PV.int IntKind.i64 (0 : Int)]),
 (2, true,
 Blk.cells
 [PV.str (ByteArray.mk (Array.mk [])), PV.nils, PV.int IntKind.i64 (0 : Int),
 PV.int IntKind.i64 (0 : Int)]),
 (1, true,
 Blk.cells
 [PV.loose (PA.mk (0) (1) al (0)) nl, PV.int IntKind.u8 rp,
 PV.int IntKind.u8 fi]),
 (6, true,
 Blk.cols (List.length x1 + 1)
 [Col.int IntKind.i64 fun j =>
 bif Nat.blt j (List.length x1) then S.at' x1 j else Int.tmod (tl (Int.toNat x0 + al)) (20 : Int)])]]) (7))
 (False))
 (False))
 (False))
 (False))
 (test (lim IntKind.i64 (x0 + (1 : Int)))
 (Kst (hd Try.f32 0) ([PV.ptr (PA.mk (1) (0) (0) (0)),
 PV.ptr (PA.mk (2) (0) (0) (0)),
 PV.ptr (PA.mk (3) (0) (0) (0)),
 PV.int IntKind.i64 (x0 + (1 : Int))]) ([[(0, false, Blk.cols ml [Col.int IntKind.u8 tl]),
 (3, true,
 Blk.cells
 [PV.str (ByteArray.mk #[(99 : UInt8)]), PV.own (4) (1) (List.length x1),
 PV.int IntKind.i64 ((1 : Int) + Int.tmod rp (3 : Int)), PV.int IntKind.i64 (0 : Int)]),
 (2, true,
 Blk.cells
 [PV.str (ByteArray.mk (Array.mk [])), PV.nils, PV.int IntKind.i64 (0 : Int),
 PV.int IntKind.i64 (0 : Int)]),
 (1, true,
 Blk.cells
 [PV.loose (PA.mk (0) (1) al (0)) nl, PV.int IntKind.u8 rp,
 PV.int IntKind.u8 fi]),
 (4, true,
 Blk.cols (List.length x1) [Col.int IntKind.i64 fun j => S.at' x1 j])]]) (5))
 (False)))
 (False))
 (False))
 (False))))
 (False))
 (False))
 (False))
 (Kst (hd Try.f32 1) ([PV.ptr (PA.mk (1) (0) (0) (0)),
 PV.ptr (PA.mk (2) (0) (0) (0)),
 PV.ptr (PA.mk (3) (0) (0) (0)), PV.int IntKind.i64 x0]) ([[(0, false, Blk.cols ml [Col.int IntKind.u8 tl]),
 (3, true,
 Blk.cells
 [PV.str (ByteArray.mk #[(99 : UInt8)]), PV.own (4) (1) (List.length x1),
 PV.int IntKind.i64 ((1 : Int) + Int.tmod rp (3 : Int)), PV.int IntKind.i64 (0 : Int)]),
 (2, true,
 Blk.cells
 [PV.str (ByteArray.mk (Array.mk [])), PV.nils, PV.int IntKind.i64 (0 : Int),
 PV.int IntKind.i64 (0 : Int)]),
 (1, true,
 Blk.cells
 [PV.loose (PA.mk (0) (1) al (0)) nl, PV.int IntKind.u8 rp,
 PV.int IntKind.u8 fi]),
 (4, true,
 Blk.cols (List.length x1) [Col.int IntKind.i64 fun j => S.at' x1 j])]]) (5)))
 (Kst (hd Try.f32 1) ([PV.ptr (PA.mk (1) (0) (0) (0)),
 PV.ptr (PA.mk (2) (0) (0) (0)),
 PV.ptr (PA.mk (3) (0) (0) (0)), PV.int IntKind.i64 x0]) ([[(0, false, Blk.cols ml [Col.int IntKind.u8 tl]),
 (3, true,
 Blk.cells
 [PV.str (ByteArray.mk #[(99 : UInt8)]), PV.own (4) (1) (List.length x1),
 PV.int IntKind.i64 ((1 : Int) + Int.tmod rp (3 : Int)), PV.int IntKind.i64 (0 : Int)]),
 (2, true,
 Blk.cells
 [PV.str (ByteArray.mk (Array.mk [])), PV.nils, PV.int IntKind.i64 (0 : Int),
 PV.int IntKind.i64 (0 : Int)]),
 (1, true,
 Blk.cells
 [PV.loose (PA.mk (0) (1) al (0)) nl, PV.int IntKind.u8 rp,
 PV.int IntKind.u8 fi]),
 (4, true,
 Blk.cols (List.length x1) [Col.int IntKind.i64 fun j => S.at' x1 j])]]) (5))
theorem t132_0 (test : Bool → Prop → Prop → Prop) (Kst : KS) (Kret : KR) (al nl ml : Nat) (tl : Nat → Int) (rp : Int) (fi : Int) (x0 : Int) (x1 : List Int) : run test Try.env true noX true 400 ⟨32, hd Try.f32 0, zipT [1, 2, 3, 4] [PV.ptr (PA.mk (1) (0) (0) (0)),
 PV.ptr (PA.mk (2) (0) (0) (0)),
 PV.ptr (PA.mk (3) (0) (0) (0)), PV.int IntKind.i64 x0], [[(1, (true, Blk.cells
 [PV.loose (PA.mk (0) (1) al (0)) nl, PV.int IntKind.u8 rp,
 PV.int IntKind.u8 fi])), (2, (true, Blk.cells
 [PV.str (ByteArray.mk (Array.mk [])), PV.nils, PV.int IntKind.i64 (0 : Int),
 PV.int IntKind.i64 (0 : Int)])), (3, (true, Blk.cells
 [PV.str (ByteArray.mk #[(99 : UInt8)]), PV.own (4) (1) (List.length x1),
 PV.int IntKind.i64 ((1 : Int) + Int.tmod rp (3 : Int)), PV.int IntKind.i64 (0 : Int)])), (4, (true, Blk.cols (List.length x1) [Col.int IntKind.i64 fun j => S.at' x1 j]))], [(0, (false, .cols ml [.int .u8 tl]))]], 5⟩ (proj 1 [1, 2, 3, 4] Kst Kret) =
  T132_0 test Kst Kret al nl ml tl rp fi x0 x1 := by kernel_rfl
noncomputable def T132_1 (test : Bool → Prop → Prop → Prop) (Kst : KS) (Kret : KR) (al nl ml : Nat) (tl : Nat → Int) (rp : Int) (fi : Int) (x0 : List Int) : Prop :=
  test (decide ((↑(List.length x0) : Int) < (2 : Int)))
 (test (lim IntKind.i64 ((20 : Int) + (↑(List.length x0) : Int)))
 (test (decide (List.length x0 + 1 ≤ 1000000))
 (test (decide (List.length x0 ≤ List.length x0))
 (test (true)
 (Kst (hd Try.f32 1) ([PV.ptr (PA.mk (1) (0) (0) (0)),
 PV.ptr (PA.mk (2) (0) (0) (0)),
 PV.ptr (PA.mk (3) (0) (0) (0)), PV.unk]) ([[(0, false, Blk.cols ml [Col.int IntKind.u8 tl]),
 (3, true,
 Blk.cells
 [PV.str (ByteArray.mk #[(99 : UInt8)]), PV.own (6) (1) (List.length x0 + 1),
 PV.int IntKind.i64 ((1 : Int) + Int.tmod rp (3 : Int)), PV.int IntKind.i64 (0 : Int)]),
 (2, true,
 Blk.cells
 [PV.str (ByteArray.mk (Array.mk [])), PV.nils, PV.int IntKind.i64 (0 : Int),
 PV.int IntKind.i64 (0 : Int)]),
 (1, true,
 Blk.cells
 [PV.loose (PA.mk (0) (1) al (0)) nl, PV.int IntKind.u8 rp,
 PV.int IntKind.u8 fi]),
 (6, true,
 Blk.cols (List.length x0 + 1)
 [Col.int IntKind.i64 fun j =>
 bif Nat.blt j (List.length x0) then S.at' x0 j else (20 : Int) + (↑(List.length x0) : Int)])]]) (7))
 (False))
 (False))
 (False))
 (False))
 (test (lim IntKind.i64 fi)
 (test (false)
 (False)
 (test (lim IntKind.i64 ((↑(List.length x0) : Int) - (1 : Int)))
 (test (decide
 ((0 : Int) ≤ (↑(List.length x0) : Int) - (1 : Int) ∧
 (↑(List.length x0) : Int) - (1 : Int) < (↑(List.length x0) : Int)))
 (test (decide (Int.toNat ((↑(List.length x0) : Int) - (1 : Int)) < List.length x0))
 (test (Int.tmod fi (20 : Int) == S.at' x0 (Int.toNat ((↑(List.length x0) : Int) - (1 : Int))))
 (test (lim IntKind.i64 (Int.tmod fi (20 : Int) + (1 : Int)))
 (Kret (PV.agg
 [PV.str (ByteArray.mk #[(99 : UInt8)]), PV.own (4) (1) (List.length x0),
 PV.int IntKind.i64 ((1 : Int) + Int.tmod rp (3 : Int)),
 PV.int IntKind.i64 (Int.tmod fi (20 : Int) + (1 : Int))]) ([[(0, false, Blk.cols ml [Col.int IntKind.u8 tl]),
 (4, true,
 Blk.cols (List.length x0) [Col.int IntKind.i64 fun j => S.at' x0 j])]]) (5))
 (False))
 (Kret (PV.agg
 [PV.str (ByteArray.mk #[(99 : UInt8)]), PV.own (4) (1) (List.length x0),
 PV.int IntKind.i64 ((1 : Int) + Int.tmod rp (3 : Int)),
 PV.int IntKind.i64 (Int.tmod fi (20 : Int))]) ([[(0, false, Blk.cols ml [Col.int IntKind.u8 tl]),
 (4, true,
 Blk.cols (List.length x0) [Col.int IntKind.i64 fun j => S.at' x0 j])]]) (5)))
 (False))
 (False))
 (False)))
 (False))
theorem t132_1 (test : Bool → Prop → Prop → Prop) (Kst : KS) (Kret : KR) (al nl ml : Nat) (tl : Nat → Int) (rp : Int) (fi : Int) (x0 : List Int) : run test Try.env true noX true 400 ⟨32, hd Try.f32 1, zipT [1, 2, 3, 4] [PV.ptr (PA.mk (1) (0) (0) (0)),
 PV.ptr (PA.mk (2) (0) (0) (0)),
 PV.ptr (PA.mk (3) (0) (0) (0)), PV.unk], [[(1, (true, Blk.cells
 [PV.loose (PA.mk (0) (1) al (0)) nl, PV.int IntKind.u8 rp,
 PV.int IntKind.u8 fi])), (2, (true, Blk.cells
 [PV.str (ByteArray.mk (Array.mk [])), PV.nils, PV.int IntKind.i64 (0 : Int),
 PV.int IntKind.i64 (0 : Int)])), (3, (true, Blk.cells
 [PV.str (ByteArray.mk #[(99 : UInt8)]), PV.own (4) (1) (List.length x0),
 PV.int IntKind.i64 ((1 : Int) + Int.tmod rp (3 : Int)), PV.int IntKind.i64 (0 : Int)])), (4, (true, Blk.cols (List.length x0) [Col.int IntKind.i64 fun j => S.at' x0 j]))], [(0, (false, .cols ml [.int .u8 tl]))]], 5⟩ (proj 1 [1, 2, 3, 4] Kst Kret) =
  T132_1 test Kst Kret al nl ml tl rp fi x0 := by kernel_rfl
theorem be132 (al nl ml : Nat) (tl : Nat → Int) (rp : Int) (fi : Int) (Kst : KS) (Kret : KR) (x : St132 ⊕ Rt132) (hS : HS 1 400 ((I132 al nl ml tl rp fi)) Kst x) (hR : HR 1 400 ((V132 al nl ml tl rp fi)) (fun r => [newL (1 + 1) ((N132 al nl ml tl rp fi) r) ++ [(0, (false, .cols ml [.int .u8 tl]))]]) Kret x) (h : (bif (lim IntKind.i64 rp)
 then (bif (lim IntKind.i64 ((1 : Int) + Int.tmod rp (3 : Int)))
 then (some (.inl (.h0 ((0 : Int)) ([]))))
 else (none))
 else (none) : Option (St132 ⊕ Rt132)) = some x) : Te132 cond Kst Kret al nl ml tl rp fi := by
  unfold Te132
  exact bif_split h
   (fun c0 h => cond_no rfl (bif_split h
   (fun c1 h => stop_at hS _ h (fun n => bif Nat.beq n 1 then 1 else bif Nat.beq n 2 then 2 else bif Nat.beq n 3 then 3 else bif Nat.beq n 4 then 399 else n) rfl rfl rfl ⟨(rn_ptr (use_own rfl) rfl rfl), ⟨(rn_ptr (use_own rfl) rfl rfl), ⟨(rn_ptr (use_own rfl) rfl rfl), ⟨(rn_int rfl), trivial⟩⟩⟩⟩ rfl (entl_b (use_own rfl) rfl (by simp) (rb_cells ⟨(rn_loose (use_lo rfl) rfl rfl rfl), (rn_int rfl), (rn_int rfl), trivial⟩) (entl_b (use_own rfl) rfl (by simp) (rb_cells ⟨(rn_str rfl), rn_nils, (rn_int rfl), (rn_int rfl), trivial⟩) (entl_b (use_own rfl) rfl (by simp) (rb_cells ⟨(rn_str rfl), (rn_own_nils rfl), (rn_int rfl), (rn_int rfl), trivial⟩) (entl_fresh (use_own rfl) (fresh_ok rfl) (entl_bor (use_lo rfl) rfl rfl entl_nil))))))
   (fun c1 h => no_some h)))
   (fun c0 h => no_some h)
theorem b132_0 (al nl ml : Nat) (tl : Nat → Int) (rp : Int) (fi : Int) (Kst : KS) (Kret : KR) (x : St132 ⊕ Rt132) (hS : HS 1 400 ((I132 al nl ml tl rp fi)) Kst x) (hR : HR 1 400 ((V132 al nl ml tl rp fi)) (fun r => [newL (1 + 1) ((N132 al nl ml tl rp fi) r) ++ [(0, (false, .cols ml [.int .u8 tl]))]]) Kret x) (x0 : Int) (x1 : List Int) (h : (bif (decide (x0 < (↑nl : Int)))
 then (bif (decide (x0 < (8 : Int)))
 then (bif (decide ((0 : Int) ≤ x0 ∧ x0 < (↑nl : Int)))
 then (bif (decide (Int.toNat x0 + al < ml))
 then (bif (lim IntKind.i64 (tl (Int.toNat x0 + al)))
 then (bif ((↑(List.length x1) : Int) == (0 : Int))
 then (bif (decide (List.length x1 + 1 ≤ 1000000))
 then (bif (decide (List.length x1 ≤ List.length x1))
 then (bif (lim IntKind.i64 (x0 + (1 : Int)))
 then (some (.inl (.h0 (x0 + (1 : Int)) (S.snoc x1 (Int.tmod (tl (Int.toNat x0 + al)) (20 : Int))))))
 else (none))
 else (none))
 else (none))
 else (bif (lim IntKind.i64 ((↑(List.length x1) : Int) - (1 : Int)))
 then (bif (decide
 ((0 : Int) ≤ (↑(List.length x1) : Int) - (1 : Int) ∧
 (↑(List.length x1) : Int) - (1 : Int) < (↑(List.length x1) : Int)))
 then (bif (decide (Int.toNat ((↑(List.length x1) : Int) - (1 : Int)) < List.length x1))
 then (bif (S.at' x1 (Int.toNat ((↑(List.length x1) : Int) - (1 : Int))) != Int.tmod (tl (Int.toNat x0 + al)) (20 : Int))
 then (bif (decide (List.length x1 + 1 ≤ 1000000))
 then (bif (decide (List.length x1 ≤ List.length x1))
 then (bif (lim IntKind.i64 (x0 + (1 : Int)))
 then (some (.inl (.h0 (x0 + (1 : Int)) (S.snoc x1 (Int.tmod (tl (Int.toNat x0 + al)) (20 : Int))))))
 else (none))
 else (none))
 else (none))
 else (bif (lim IntKind.i64 (x0 + (1 : Int)))
 then (some (.inl (.h0 (x0 + (1 : Int)) (x1))))
 else (none)))
 else (none))
 else (none))
 else (none)))
 else (none))
 else (none))
 else (none))
 else (some (.inl (.h1 (x1)))))
 else (some (.inl (.h1 (x1)))) : Option (St132 ⊕ Rt132)) = some x) : T132_0 cond Kst Kret al nl ml tl rp fi x0 x1 := by
  unfold T132_0
  exact bif_split h
   (fun c0 h => bif_split h
   (fun c1 h => bif_split h
   (fun c2 h => bif_split h
   (fun c3 h => bif_split h
   (fun c4 h => cond_no rfl (bif_split h
   (fun c5 h => bif_split h
   (fun c6 h => bif_split h
   (fun c7 h => cond_yes rfl (bif_split h
   (fun c8 h => stop_at hS _ h (fun n => bif Nat.beq n 1 then 1 else bif Nat.beq n 2 then 2 else bif Nat.beq n 3 then 3 else bif Nat.beq n 4 then 6 else n) rfl rfl rfl ⟨(rn_ptr (use_own rfl) rfl rfl), ⟨(rn_ptr (use_own rfl) rfl rfl), ⟨(rn_ptr (use_own rfl) rfl rfl), ⟨(rn_int rfl), trivial⟩⟩⟩⟩ rfl (entl_b (use_own rfl) rfl (by simp) (rb_cells ⟨(rn_loose (use_lo rfl) rfl rfl rfl), (rn_int rfl), (rn_int rfl), trivial⟩) (entl_b (use_own rfl) rfl (by simp) (rb_cells ⟨(rn_str rfl), rn_nils, (rn_int rfl), (rn_int rfl), trivial⟩) (entl_b (use_own rfl) rfl (by simp) (rb_cells ⟨(rn_str rfl), (rn_own (use_own rfl) rfl (snoc_len' rfl)), (rn_int rfl), (rn_int rfl), trivial⟩) (entl_new (use_own rfl) rfl (Nat.le_of_eq (snoc_len' rfl)) (rcs_int (col_snoc' (fun (t : Int) => t) rfl (fun _ _ => rfl)) rcs_nil) (entl_bor (use_lo rfl) rfl rfl entl_nil))))))
   (fun c8 h => no_some h)))
   (fun c7 h => no_some h))
   (fun c6 h => no_some h))
   (fun c5 h => bif_split h
   (fun c6 h => bif_split h
   (fun c7 h => bif_split h
   (fun c8 h => bif_split h
   (fun c9 h => bif_split h
   (fun c10 h => bif_split h
   (fun c11 h => cond_yes rfl (bif_split h
   (fun c12 h => stop_at hS _ h (fun n => bif Nat.beq n 1 then 1 else bif Nat.beq n 2 then 2 else bif Nat.beq n 3 then 3 else bif Nat.beq n 4 then 6 else n) rfl rfl rfl ⟨(rn_ptr (use_own rfl) rfl rfl), ⟨(rn_ptr (use_own rfl) rfl rfl), ⟨(rn_ptr (use_own rfl) rfl rfl), ⟨(rn_int rfl), trivial⟩⟩⟩⟩ rfl (entl_b (use_own rfl) rfl (by simp) (rb_cells ⟨(rn_loose (use_lo rfl) rfl rfl rfl), (rn_int rfl), (rn_int rfl), trivial⟩) (entl_b (use_own rfl) rfl (by simp) (rb_cells ⟨(rn_str rfl), rn_nils, (rn_int rfl), (rn_int rfl), trivial⟩) (entl_b (use_own rfl) rfl (by simp) (rb_cells ⟨(rn_str rfl), (rn_own (use_own rfl) rfl (snoc_len' rfl)), (rn_int rfl), (rn_int rfl), trivial⟩) (entl_new (use_own rfl) rfl (Nat.le_of_eq (snoc_len' rfl)) (rcs_int (col_snoc' (fun (t : Int) => t) rfl (fun _ _ => rfl)) rcs_nil) (entl_bor (use_lo rfl) rfl rfl entl_nil))))))
   (fun c12 h => no_some h)))
   (fun c11 h => no_some h))
   (fun c10 h => no_some h))
   (fun c9 h => bif_split h
   (fun c10 h => stop_at hS _ h (fun n => bif Nat.beq n 1 then 1 else bif Nat.beq n 2 then 2 else bif Nat.beq n 3 then 3 else bif Nat.beq n 4 then 4 else n) rfl rfl rfl ⟨(rn_ptr (use_own rfl) rfl rfl), ⟨(rn_ptr (use_own rfl) rfl rfl), ⟨(rn_ptr (use_own rfl) rfl rfl), ⟨(rn_int rfl), trivial⟩⟩⟩⟩ rfl (entl_b (use_own rfl) rfl (by simp) (rb_cells ⟨(rn_loose (use_lo rfl) rfl rfl rfl), (rn_int rfl), (rn_int rfl), trivial⟩) (entl_b (use_own rfl) rfl (by simp) (rb_cells ⟨(rn_str rfl), rn_nils, (rn_int rfl), (rn_int rfl), trivial⟩) (entl_b (use_own rfl) rfl (by simp) (rb_cells ⟨(rn_str rfl), (rn_own (use_own rfl) rfl rfl), (rn_int rfl), (rn_int rfl), trivial⟩) (entl_new (use_own rfl) rfl (Nat.le_of_eq rfl) (rcs_int (fun _ _ => rfl) rcs_nil) (entl_bor (use_lo rfl) rfl rfl entl_nil))))))
   (fun c10 h => no_some h)))
   (fun c8 h => no_some h))
   (fun c7 h => no_some h))
   (fun c6 h => no_some h))))
   (fun c4 h => no_some h))
   (fun c3 h => no_some h))
   (fun c2 h => no_some h))
   (fun c1 h => stop_at hS _ h (fun n => bif Nat.beq n 1 then 1 else bif Nat.beq n 2 then 2 else bif Nat.beq n 3 then 3 else bif Nat.beq n 4 then 4 else n) rfl rfl rfl ⟨(rn_ptr (use_own rfl) rfl rfl), ⟨(rn_ptr (use_own rfl) rfl rfl), ⟨(rn_ptr (use_own rfl) rfl rfl), ⟨(rn_unk _), trivial⟩⟩⟩⟩ rfl (entl_b (use_own rfl) rfl (by simp) (rb_cells ⟨(rn_loose (use_lo rfl) rfl rfl rfl), (rn_int rfl), (rn_int rfl), trivial⟩) (entl_b (use_own rfl) rfl (by simp) (rb_cells ⟨(rn_str rfl), rn_nils, (rn_int rfl), (rn_int rfl), trivial⟩) (entl_b (use_own rfl) rfl (by simp) (rb_cells ⟨(rn_str rfl), (rn_own (use_own rfl) rfl rfl), (rn_int rfl), (rn_int rfl), trivial⟩) (entl_new (use_own rfl) rfl (Nat.le_of_eq rfl) (rcs_int (fun _ _ => rfl) rcs_nil) (entl_bor (use_lo rfl) rfl rfl entl_nil)))))))
   (fun c0 h => stop_at hS _ h (fun n => bif Nat.beq n 1 then 1 else bif Nat.beq n 2 then 2 else bif Nat.beq n 3 then 3 else bif Nat.beq n 4 then 4 else n) rfl rfl rfl ⟨(rn_ptr (use_own rfl) rfl rfl), ⟨(rn_ptr (use_own rfl) rfl rfl), ⟨(rn_ptr (use_own rfl) rfl rfl), ⟨(rn_unk _), trivial⟩⟩⟩⟩ rfl (entl_b (use_own rfl) rfl (by simp) (rb_cells ⟨(rn_loose (use_lo rfl) rfl rfl rfl), (rn_int rfl), (rn_int rfl), trivial⟩) (entl_b (use_own rfl) rfl (by simp) (rb_cells ⟨(rn_str rfl), rn_nils, (rn_int rfl), (rn_int rfl), trivial⟩) (entl_b (use_own rfl) rfl (by simp) (rb_cells ⟨(rn_str rfl), (rn_own (use_own rfl) rfl rfl), (rn_int rfl), (rn_int rfl), trivial⟩) (entl_new (use_own rfl) rfl (Nat.le_of_eq rfl) (rcs_int (fun _ _ => rfl) rcs_nil) (entl_bor (use_lo rfl) rfl rfl entl_nil))))))
theorem b132_1 (al nl ml : Nat) (tl : Nat → Int) (rp : Int) (fi : Int) (Kst : KS) (Kret : KR) (x : St132 ⊕ Rt132) (hS : HS 1 400 ((I132 al nl ml tl rp fi)) Kst x) (hR : HR 1 400 ((V132 al nl ml tl rp fi)) (fun r => [newL (1 + 1) ((N132 al nl ml tl rp fi) r) ++ [(0, (false, .cols ml [.int .u8 tl]))]]) Kret x) (x0 : List Int) (h : (bif (decide ((↑(List.length x0) : Int) < (2 : Int)))
 then (bif (lim IntKind.i64 ((20 : Int) + (↑(List.length x0) : Int)))
 then (bif (decide (List.length x0 + 1 ≤ 1000000))
 then (bif (decide (List.length x0 ≤ List.length x0))
 then (some (.inl (.h1 (S.snoc x0 ((20 : Int) + (↑(List.length x0) : Int))))))
 else (none))
 else (none))
 else (none))
 else (bif (lim IntKind.i64 fi)
 then (bif (lim IntKind.i64 ((↑(List.length x0) : Int) - (1 : Int)))
 then (bif (decide
 ((0 : Int) ≤ (↑(List.length x0) : Int) - (1 : Int) ∧
 (↑(List.length x0) : Int) - (1 : Int) < (↑(List.length x0) : Int)))
 then (bif (decide (Int.toNat ((↑(List.length x0) : Int) - (1 : Int)) < List.length x0))
 then (bif (Int.tmod fi (20 : Int) == S.at' x0 (Int.toNat ((↑(List.length x0) : Int) - (1 : Int))))
 then (bif (lim IntKind.i64 (Int.tmod fi (20 : Int) + (1 : Int)))
 then (some (.inr (Int.tmod fi (20 : Int) + (1 : Int), x0)))
 else (none))
 else (some (.inr (Int.tmod fi (20 : Int), x0))))
 else (none))
 else (none))
 else (none))
 else (none)) : Option (St132 ⊕ Rt132)) = some x) : T132_1 cond Kst Kret al nl ml tl rp fi x0 := by
  unfold T132_1
  exact bif_split h
   (fun c0 h => bif_split h
   (fun c1 h => bif_split h
   (fun c2 h => bif_split h
   (fun c3 h => cond_yes rfl (stop_at hS _ h (fun n => bif Nat.beq n 1 then 1 else bif Nat.beq n 2 then 2 else bif Nat.beq n 3 then 3 else bif Nat.beq n 4 then 6 else n) rfl rfl rfl ⟨(rn_ptr (use_own rfl) rfl rfl), ⟨(rn_ptr (use_own rfl) rfl rfl), ⟨(rn_ptr (use_own rfl) rfl rfl), ⟨(rn_unk _), trivial⟩⟩⟩⟩ rfl (entl_b (use_own rfl) rfl (by simp) (rb_cells ⟨(rn_loose (use_lo rfl) rfl rfl rfl), (rn_int rfl), (rn_int rfl), trivial⟩) (entl_b (use_own rfl) rfl (by simp) (rb_cells ⟨(rn_str rfl), rn_nils, (rn_int rfl), (rn_int rfl), trivial⟩) (entl_b (use_own rfl) rfl (by simp) (rb_cells ⟨(rn_str rfl), (rn_own (use_own rfl) rfl (snoc_len' rfl)), (rn_int rfl), (rn_int rfl), trivial⟩) (entl_new (use_own rfl) rfl (Nat.le_of_eq (snoc_len' rfl)) (rcs_int (col_snoc' (fun (t : Int) => t) rfl (fun _ _ => rfl)) rcs_nil) (entl_bor (use_lo rfl) rfl rfl entl_nil)))))))
   (fun c3 h => no_some h))
   (fun c2 h => no_some h))
   (fun c1 h => no_some h))
   (fun c0 h => bif_split h
   (fun c1 h => cond_no rfl (bif_split h
   (fun c2 h => bif_split h
   (fun c3 h => bif_split h
   (fun c4 h => bif_split h
   (fun c5 h => bif_split h
   (fun c6 h => ret_at hR _ h (fun n => bif Nat.beq n 2 then 4 else n) rfl rfl rfl (rn_agg ⟨(rn_str rfl), (rn_own (use_own rfl) rfl rfl), (rn_int rfl), (rn_int rfl), trivial⟩) rfl (entl_new (use_own rfl) rfl (Nat.le_of_eq rfl) (rcs_int (fun _ _ => rfl) rcs_nil) (entl_bor (use_lo rfl) rfl rfl entl_nil)))
   (fun c6 h => no_some h))
   (fun c5 h => ret_at hR _ h (fun n => bif Nat.beq n 2 then 4 else n) rfl rfl rfl (rn_agg ⟨(rn_str rfl), (rn_own (use_own rfl) rfl rfl), (rn_int rfl), (rn_int rfl), trivial⟩) rfl (entl_new (use_own rfl) rfl (Nat.le_of_eq rfl) (rcs_int (fun _ _ => rfl) rcs_nil) (entl_bor (use_lo rfl) rfl rfl entl_nil))))
   (fun c4 h => no_some h))
   (fun c3 h => no_some h))
   (fun c2 h => no_some h)))
   (fun c1 h => no_some h))
theorem a132 (al nl ml : Nat) (tl : Nat → Int) (rp : Int) (fi : Int) {r : Rt132} (h : Goes ((q132 al nl ml tl rp fi)) ((p132 al nl ml tl rp fi)) r) : CallR Try.prog 32 [.agg [.loose ⟨0, 1, al, 0⟩ nl, .int .u8 rp, .int .u8 fi]] [[(0, (false, .cols ml [.int .u8 tl]))]] 1 ((V132 al nl ml tl rp fi) r) ((fun r => [newL (1 + 1) ((N132 al nl ml tl rp fi) r) ++ [(0, (false, .cols ml [.int .u8 tl]))]]) r) 400 ∧ ∃ F, Try.prog.funcs[32]? = some F ∧ F.body.isSome = true ∧ (F.name == "runtime.NumGoroutine") = false := by
  refine dec_calls (f := 32) (lo := 1) (hi := 400) (H := [[(0, (false, .cols ml [.int .u8 tl]))]]) (args := [.agg [.loose ⟨0, 1, al, 0⟩ nl, .int .u8 rp, .int .u8 fi]]) Try.envOk Try.mixed noX_ok ((I132 al nl ml tl rp fi)) ((V132 al nl ml tl rp fi)) (fun r => [newL (1 + 1) ((N132 al nl ml tl rp fi) r) ++ [(0, (false, .cols ml [.int .u8 tl]))]]) (fn := mkFn Try.f32) (ts := [1, 2, 3, 4]) (n := 400) rfl (by decide) (by simp) (names_of rfl) ?_ ?_ ?_ h
  · intro s; cases s <;> exact ⟨hd_ok _ _, by simp [I132], names_of rfl, Nat.le_of_ble_eq_true rfl⟩
  · intro Kst Kret x hS hR h
    exact Holds.eq (te132 cond Kst Kret al nl ml tl rp fi) (be132 al nl ml tl rp fi Kst Kret x hS hR h)
  · intro Kst Kret x hS hR s h
    cases s with
    | h0 x0 x1 => exact Holds.eq (t132_0 cond Kst Kret al nl ml tl rp fi x0 x1) (b132_0 al nl ml tl rp fi Kst Kret x hS hR x0 x1 h)
    | h1 x0 => exact Holds.eq (t132_1 cond Kst Kret al nl ml tl rp fi x0) (b132_1 al nl ml tl rp fi Kst Kret x hS hR x0 h)
noncomputable def k132 : Con := ⟨32, [.agg [.list [.int .u8], .plain (.int .u8), .plain (.int .u8)]], fun (x : ((Nat × Nat × Nat × (Nat → Int) × Unit) × Int × Int × Unit) × Unit) => (fun (al nl ml : Nat) (tl : Nat → Int) (rp : Int) (fi : Int) => decide (al + nl ≤ ml ∧ S.bytes nl (fun j => tl (j + al)) = true ∧ (0 ≤ rp ∧ rp ≤ 255) ∧ 0 ≤ fi ∧ fi ≤ 255)) x.1.1.1 x.1.1.2.1 x.1.1.2.2.1 x.1.1.2.2.2.1 x.1.2.1 x.1.2.2.1, fun (x : ((Nat × Nat × Nat × (Nat → Int) × Unit) × Int × Int × Unit) × Unit) => (fun (al nl ml : Nat) (tl : Nat → Int) (rp : Int) (fi : Int) => (V132 al nl ml tl rp fi) ((S.crF fi (S.crL nl (fun j => tl (j + al))), (S.crL nl (fun j => tl (j + al)))))) x.1.1.1 x.1.1.2.1 x.1.1.2.2.1 x.1.1.2.2.2.1 x.1.2.1 x.1.2.2.1, fun (x : ((Nat × Nat × Nat × (Nat → Int) × Unit) × Int × Int × Unit) × Unit) => (fun (al nl ml : Nat) (tl : Nat → Int) (rp : Int) (fi : Int) => (N132 al nl ml tl rp fi) ((S.crF fi (S.crL nl (fun j => tl (j + al))), (S.crL nl (fun j => tl (j + al)))))) x.1.1.1 x.1.1.2.1 x.1.1.2.2.1 x.1.1.2.2.2.1 x.1.2.1 x.1.2.2.1, fun _ _ => .dead⟩
theorem s132p (al nl ml : Nat) (tl : Nat → Int) (rp : Int) (fi : Int) (L : List Int) (hl : L.length ≤ 8) (hf : 0 ≤ fi ∧ fi ≤ 255) : Comes (q132 al nl ml tl rp fi) (.h1 L) (S.crF fi (S.crP L), S.crP L) := by
  have fin : ∀ L : List Int, 2 ≤ L.length → L.length ≤ 8 → Comes (q132 al nl ml tl rp fi) (.h1 L) (S.crF fi L, L) := fun L h1 h2 => by
    have e1 : ((L.length : Int) - 1).toNat = L.length - 1 := by omega
    have hx : 0 ≤ Int.tmod fi 20 ∧ Int.tmod fi 20 < 20 := ⟨Int.tmod_nonneg _ hf.1, Int.tmod_lt_of_pos _ (by decide)⟩
    unfold S.crF
    apply Comes.of
    show Goes _ _ _
    (first | rw [q132] | unfold q132)
    try simp only [e1]
    try show Goes _ _ _
    repeat' first
      | with_reducible refine goes_if (fun h => ?_) (fun h => ?_) <;> (try simp only [lim64, imp_false, decide_eq_true_eq, decide_eq_false_iff_not, Int.toNat_natCast, toNat_pred, toNat_succ, Option.getD_some, Option.getD_none, Bool.not_eq_true', Bool.not_eq_false', Bool.and_eq_true, Bool.or_eq_true, Bool.and_eq_false_iff, Bool.or_eq_false_iff, bne_iff_ne, beq_iff_eq, bne_eq_false_iff_eq, beq_eq_false_iff_ne, ne_eq, not_and, Int.not_le, Int.not_lt, ge_iff_le, gt_iff_lt, Nat.not_lt, Nat.not_le, Bool.not_eq_true, Bool.not_eq_false, Bool.true_eq_false, Bool.false_eq_true, not_false_eq_true, not_true_eq_false] at h)
      | exact goes_none.mpr (by omega)
    all_goals first | (exfalso; omega) | (rw [if_pos (by assumption)]; exact goes_inr.mpr rfl) | (rw [if_neg (by assumption)]; exact goes_inr.mpr rfl)
  unfold S.crP
  by_cases h0 : L.length = 0
  · obtain rfl := List.length_eq_zero_iff.mp h0
    exact Comes.next (s' := .h1 [20]) rfl (Comes.next (s' := .h1 [20, 21]) rfl (fin [20, 21] (by decide) (by decide)))
  · rw [if_neg h0]
    by_cases h1 : L.length = 1
    · rw [if_pos h1]
      have hm := fin (S.snoc L 21) (by rw [snoc_len]; omega) (by rw [snoc_len]; omega)
      have e2 : (20 : Int) + (L.length : Int) = 21 := by omega
      apply Comes.of
      show Goes _ _ _
      (first | rw [q132] | unfold q132)
      try simp only [e2]
      try show Goes _ _ _
      repeat' first
        | with_reducible refine goes_if (fun h => ?_) (fun h => ?_) <;> (try simp only [lim64, imp_false, decide_eq_true_eq, decide_eq_false_iff_not, Int.toNat_natCast, toNat_pred, toNat_succ, Option.getD_some, Option.getD_none, Bool.not_eq_true', Bool.not_eq_false', Bool.and_eq_true, Bool.or_eq_true, Bool.and_eq_false_iff, Bool.or_eq_false_iff, bne_iff_ne, beq_iff_eq, bne_eq_false_iff_eq, beq_eq_false_iff_ne, ne_eq, not_and, Int.not_le, Int.not_lt, ge_iff_le, gt_iff_lt, Nat.not_lt, Nat.not_le, Bool.not_eq_true, Bool.not_eq_false, Bool.true_eq_false, Bool.false_eq_true, not_false_eq_true, not_true_eq_false] at h)
        | exact goes_none.mpr (by omega)
      all_goals first | (exfalso; omega) | exact hm
    · rw [if_neg h1]
      exact fin L (by omega) hl
theorem s132' (al nl ml : Nat) (tl : Nat → Int) (rp : Int) (fi : Int) (hp : al + nl ≤ ml ∧ S.bytes nl (fun j => tl (j + al)) = true ∧ (0 ≤ rp ∧ rp ≤ 255) ∧ 0 ≤ fi ∧ fi ≤ 255) : ∀ (k i : Nat) (L : List Int), i + k = min nl 8 → Holds (L = S.crN (fun j => tl (j + al)) i) → Comes (q132 al nl ml tl rp fi) (.h0 (i : Int) L) ((S.crF fi (S.crL nl (fun j => tl (j + al))), (S.crL nl (fun j => tl (j + al))))) := by
  obtain ⟨hp1, hp2, hp3, hp4⟩ := hp
  have h0 := of_decide_eq_true hp2
  intro k
  induction k with
  | zero =>
    intro i L hi eL
    have hl := (crN_ok (t := (fun j => tl (j + al))) (i := i) fun j hj => (h0 j (by omega)).1).2
    rw [← eL.get] at hl
    have hm := s132p al nl ml tl rp fi L (by omega) hp4
    have e : S.crP L = (S.crL nl (fun j => tl (j + al))) := by unfold S.crL; rw [eL.get, show i = min nl 8 by omega]
    rw [e] at hm
    apply Comes.of
    show Goes _ _ _
    (first | rw [q132] | unfold q132)
    repeat' first
      | with_reducible refine goes_if (fun h => ?_) (fun h => ?_) <;> (try simp only [lim64, imp_false, decide_eq_true_eq, decide_eq_false_iff_not, Int.toNat_natCast, toNat_pred, toNat_succ, Option.getD_some, Option.getD_none, Bool.not_eq_true', Bool.not_eq_false', Bool.and_eq_true, Bool.or_eq_true, Bool.and_eq_false_iff, Bool.or_eq_false_iff, bne_iff_ne, beq_iff_eq, bne_eq_false_iff_eq, beq_eq_false_iff_ne, ne_eq, not_and, Int.not_le, Int.not_lt, ge_iff_le, gt_iff_lt, Nat.not_lt, Nat.not_le, Bool.not_eq_true, Bool.not_eq_false, Bool.true_eq_false, Bool.false_eq_true, not_false_eq_true, not_true_eq_false] at h)
      | exact goes_none.mpr (by omega)
    all_goals first | (exfalso; omega) | exact hm
  | succ k ih =>
    intro i L hi eL
    have hl := (crN_ok (t := (fun j => tl (j + al))) (i := i) fun j hj => (h0 j (by omega)).1).2
    rw [← eL.get] at hl
    have hb := h0 i (by omega)
    try dsimp only at hb
    have ec : S.crN (fun j => tl (j + al)) (i + 1) = if L.length = 0 then S.snoc L (Int.tmod (tl (i + al)) 20) else if S.at' L (L.length - 1) ≠ Int.tmod (tl (i + al)) 20 then S.snoc L (Int.tmod (tl (i + al)) 20) else L := by rw [eL.get]; rfl
    have ih := fun L' h => ih (i + 1) L' (by omega) ⟨h⟩
    rw [ec] at ih
    have e1 : ((L.length : Int) - 1).toNat = L.length - 1 := by omega
    apply Comes.of
    show Goes _ _ _
    (first | rw [q132] | unfold q132)
    try simp only [e1, Int.toNat_natCast]
    try show Goes _ _ _
    repeat' first
      | with_reducible refine goes_if (fun h => ?_) (fun h => ?_) <;> (try simp only [lim64, imp_false, decide_eq_true_eq, decide_eq_false_iff_not, Int.toNat_natCast, toNat_pred, toNat_succ, Option.getD_some, Option.getD_none, Bool.not_eq_true', Bool.not_eq_false', Bool.and_eq_true, Bool.or_eq_true, Bool.and_eq_false_iff, Bool.or_eq_false_iff, bne_iff_ne, beq_iff_eq, bne_eq_false_iff_eq, beq_eq_false_iff_ne, ne_eq, not_and, Int.not_le, Int.not_lt, ge_iff_le, gt_iff_lt, Nat.not_lt, Nat.not_le, Bool.not_eq_true, Bool.not_eq_false, Bool.true_eq_false, Bool.false_eq_true, not_false_eq_true, not_true_eq_false] at h)
      | exact goes_none.mpr (by omega)
    all_goals first
      | (exfalso; omega)
      | (refine ih _ ?_; first | (rw [if_pos (by omega)]; done) | (rw [if_neg (by omega), if_pos (by assumption)]; done) | (rw [if_neg (by omega), if_neg (not_not_intro (by assumption))]; done) | (rw [if_neg (by omega), if_neg (by assumption)]; done))
theorem s132 (al nl ml : Nat) (tl : Nat → Int) (rp : Int) (fi : Int) (hp : al + nl ≤ ml ∧ S.bytes nl (fun j => tl (j + al)) = true ∧ (0 ≤ rp ∧ rp ≤ 255) ∧ 0 ≤ fi ∧ fi ≤ 255) : Goes ((q132 al nl ml tl rp fi)) ((p132 al nl ml tl rp fi)) ((S.crF fi (S.crL nl (fun j => tl (j + al))), (S.crL nl (fun j => tl (j + al))))) := by
  have hm := s132' al nl ml tl rp fi hp (min nl 8) 0 [] (Nat.zero_add _) ⟨rfl⟩
  obtain ⟨hp1, hp2, hp3, hp4⟩ := hp
  have hx : 0 ≤ Int.tmod rp 3 ∧ Int.tmod rp 3 < 3 := ⟨Int.tmod_nonneg _ hp3.1, Int.tmod_lt_of_pos _ (by decide)⟩
  show Goes _ _ _
  unfold p132
  repeat' first
    | with_reducible refine goes_if (fun h => ?_) (fun h => ?_) <;> (try simp only [lim64, imp_false, decide_eq_true_eq, decide_eq_false_iff_not, Int.toNat_natCast, toNat_pred, toNat_succ, Option.getD_some, Option.getD_none, Bool.not_eq_true', Bool.not_eq_false', Bool.and_eq_true, Bool.or_eq_true, Bool.and_eq_false_iff, Bool.or_eq_false_iff, bne_iff_ne, beq_iff_eq, bne_eq_false_iff_eq, beq_eq_false_iff_ne, ne_eq, not_and, Int.not_le, Int.not_lt, ge_iff_le, gt_iff_lt, Nat.not_lt, Nat.not_le, Bool.not_eq_true, Bool.not_eq_false, Bool.true_eq_false, Bool.false_eq_true, not_false_eq_true, not_true_eq_false] at h)
    | exact goes_none.mpr (by omega)
  all_goals first | (exfalso; omega) | exact hm
theorem k132_ok : k132.ok Try.prog := by
  intro x hx
  obtain ⟨⟨⟨al, nl, ml, tl, _⟩, rp, fi, _⟩, _⟩ := x
  obtain ⟨h1, h2⟩ := a132 al nl ml tl rp fi (s132 al nl ml tl rp fi (of_dec hx rfl))
  exact ⟨⟨400, (by decide : 1 + 1 + 1 ≤ 400), h1⟩, h2⟩
noncomputable def xC7 (test : Bool → Prop → Prop → Prop) : Ext := consX test [k111, k30, k132, k22, k120, k129]
theorem xC7_ok : ExtOk Try.prog (xC7 cond) := consX_ok ⟨k111_ok, k30_ok, k132_ok, k22_ok, k120_ok, k129_ok, trivial⟩
theorem erB_any {u d t : Nat → Int} {nl : Nat} : ∀ {k i : Nat}, S.erB u d nl t i k = true → ∀ j, i ≤ j → j < i + k → S.any (fun q => decide (t q ≥ u j ∨ t q ≤ d j)) nl = true
  | 0, i, _, j, h1, h2 => by omega
  | k + 1, i, h, j, h1, h2 => by
    simp only [S.erB] at h
    split at h
    · rename_i h3
      rcases Nat.lt_or_ge i j with h4 | h4
      · exact erB_any h j h4 (by omega)
      · obtain rfl : j = i := by omega
        exact h3
    · cases h
theorem aftN_same {u d : Int} {t : Nat → Int} {o o' : Bool} : ∀ {k : Nat}, S.any (fun q => decide (t q ≥ u ∨ t q ≤ d)) k = true → S.aftN u d t o k = S.aftN u d t o' k
  | 0, h => by cases h
  | k + 1, h => by
    rw [any_succ, Bool.or_eq_true] at h
    simp only [S.aftN]
    by_cases h1 : t k ≥ u
    · simp only [S.aft, decide_eq_true h1, cond_true]
    · by_cases h2 : t k ≤ d
      · simp only [S.aft, decide_eq_false h1, decide_eq_true h2, cond_true, cond_false]
      · rcases h with h | h
        · rw [aftN_same (o := o) (o' := o') h]
        · have := of_decide_eq_true h; omega
theorem aftN_congr {u d : Int} {t t' : Nat → Int} {o : Bool} : ∀ {k : Nat}, (∀ j, j < k → t j = t' j) → S.aftN u d t o k = S.aftN u d t' o k
  | 0, _ => rfl
  | k + 1, h => by
    simp only [S.aftN]
    rw [h k (by omega), aftN_congr fun j hj => h j (by omega)]
theorem fld_same {n m : Nat} {u d w t t' : Nat → Int} {o o' : Nat → Bool} (h : S.erB u d m t 0 n = true) (ht : ∀ j, j < m → t' j = t j) : S.fldH n u d w o m t' = S.fldH n u d w o' m t' := by
  unfold S.fldH
  refine fldN_congr fun j hj => ⟨rfl, ?_⟩
  rw [aftN_congr ht, aftN_congr ht]
  exact aftN_same (erB_any h j (Nat.zero_le _) (by omega))
inductive St107 where
  | h0 (x0 : Int) (x1 : List (Int × Int × Int)) (x2 : List Bool) (x3 : List Int) (x4 : List Bool)
abbrev Rt107 := Bool
noncomputable def V107 (ap np mp : Nat) (tp : Nat → Int) (vp : Nat → Int) (o : Int) (al nl ml : Nat) (tl : Nat → Int) (rp : Int) (fi : Int) (os : Int) (r : Rt107) : PV := PV.bool r
noncomputable def N107 (ap np mp : Nat) (tp : Nat → Int) (vp : Nat → Int) (o : Int) (al nl ml : Nat) (tl : Nat → Int) (rp : Int) (fi : Int) (os : Int) (r : Rt107) : List Blk := []
noncomputable def I107 (ap np mp : Nat) (tp : Nat → Int) (vp : Nat → Int) (o : Int) (al nl ml : Nat) (tl : Nat → Int) (rp : Int) (fi : Int) (os : Int) : St107 → Hd
  | .h0 x0 x1 x2 x3 x4 => ⟨hd Try.f7 0, [PV.int IntKind.u64 os, PV.ptr (PA.mk (2) (0) (0) (0)),
 PV.ptr (PA.mk (5) (0) (0) (0)),
 PV.ptr (PA.mk (7) (0) (0) (0)),
 PV.int IntKind.i64
 (↑(List.length
 (S.mkl (S.mdN np) fun j =>
 S.mdR np (fun j => tp (j + ap)) (fun j => vp (j + ap)) j)) :
 Int),
 PV.int IntKind.i64 x0], [[(2, (true, Blk.cells
 [PV.own (3) (3) (List.length x1), PV.own (4) (1) (List.length x2)])), (3, (true, Blk.cols (List.length x1)
 [Col.int IntKind.i64 fun j => (S.at' x1 j).1,
 Col.int IntKind.i64 fun j => (S.at' x1 j).2.1,
 Col.int IntKind.i64 fun j => (S.at' x1 j).2.2])), (4, (true, Blk.cols (List.length x2) [Col.bool fun j => S.at' x2 j])), (5, (true, Blk.cells
 [PV.str (ByteArray.mk #[(99 : UInt8)]), PV.own (6) (1) (List.length x3),
 PV.int IntKind.i64 ((1 : Int) + Int.tmod rp (3 : Int)),
 PV.int IntKind.i64 (S.crF fi (S.crL nl fun j => tl (j + al)))])), (6, (true, Blk.cols (List.length x3) [Col.int IntKind.i64 fun j => S.at' x3 j])), (7, (true, Blk.cells
 [PV.own (3) (3) (List.length x1), PV.own (8) (1) (List.length x4)])), (8, (true, Blk.cols (List.length x4) [Col.bool fun j => S.at' x4 j]))], [(0, (false, .cols mp [.int .u8 tp, .int .u8 vp])), (1, (false, .cols ml [.int .u8 tl]))]], 9⟩
noncomputable def q107 (ap np mp : Nat) (tp : Nat → Int) (vp : Nat → Int) (o : Int) (al nl ml : Nat) (tl : Nat → Int) (rp : Int) (fi : Int) (os : Int) : St107 → Option (St107 ⊕ Rt107)
  | .h0 x0 x1 x2 x3 x4 => bif (decide
 (x0 <
 (↑(List.length
 (S.mkl (S.mdN np) fun j =>
 S.mdR np (fun j => tp (j + ap)) (fun j => vp (j + ap)) j)) :
 Int)))
 then (bif (decide (Int.tmod x0 (64 : Int) < (0 : Int)))
 then (none)
 else (bif (S.andB IntKind.u64 (S.shrB IntKind.u64 os (Int.tmod x0 (64 : Int))) (1 : Int) == (1 : Int))
 then (bif (decide (List.length x4 + 1 ≤ 1000000))
 then (bif (decide (List.length x4 ≤ List.length x4))
 then (bif (lim IntKind.i64 (x0 + (1 : Int)))
 then (some (.inl (.h0 (x0 + (1 : Int)) (x1) (x2) (x3) (S.snoc x4 true))))
 else (none))
 else (none))
 else (none))
 else (bif (decide (List.length x4 + 1 ≤ 1000000))
 then (bif (decide (List.length x4 ≤ List.length x4))
 then (bif (lim IntKind.i64 (x0 + (1 : Int)))
 then (some (.inl (.h0 (x0 + (1 : Int)) (x1) (x2) (x3) (S.snoc x4 false))))
 else (none))
 else (none))
 else (none))))
 else (bif (decide
 ((0 + List.length x1 ≤ List.length x1 ∧ List.length x1 ≤ 1000000) ∧
 (0 + List.length x2 ≤ List.length x2 ∧ List.length x2 ≤ 1000000) ∧
 (0 + List.length x3 ≤ List.length x3 ∧ List.length x3 ≤ 1000000) ∧
 0 ≤ 0 ∧ 0 ≤ 1000000))
 then (bif (decide
 ((0 + List.length x1 ≤ List.length x1 ∧ List.length x1 ≤ 1000000) ∧
 (0 + List.length x4 ≤ List.length x4 ∧ List.length x4 ≤ 1000000) ∧
 (0 + List.length x3 ≤ List.length x3 ∧ List.length x3 ≤ 1000000) ∧
 0 ≤ 0 ∧ 0 ≤ 1000000))
 then (bif (Prod.snd
 (S.faS
 (S.botE
 (S.magE (List.length x1) (fun j => (S.at' x1 j).1)
 (fun j => (S.at' x1 j).2.1)
 (fun j => (S.at' x1 j).2.2) (List.length x2))
 (S.cyE (ByteArray.mk #[(99 : UInt8)]) (List.length x3) (fun j => S.at' x3 j)
 ((1 : Int) + Int.tmod rp (3 : Int)) (S.crF fi (S.crL nl fun j => tl (j + al)))))
 (0 : Int)
 (S.erB (fun j => (S.at' x1 j).1)
 (fun j => (S.at' x1 j).2.1)
 (List.length
 (S.stpL (List.length x3) (fun j => S.at' x3 j) ((1 : Int) + Int.tmod rp (3 : Int))
 (S.crF fi (S.crL nl fun j => tl (j + al)))))
 (fun j =>
 S.at'
 (S.stpL (List.length x3) (fun j => S.at' x3 j) ((1 : Int) + Int.tmod rp (3 : Int))
 (S.crF fi (S.crL nl fun j => tl (j + al))))
 j)
 (0) (List.length x1))
 (S.fldH (List.length x1) (fun j => (S.at' x1 j).1)
 (fun j => (S.at' x1 j).2.1)
 (fun j => (S.at' x1 j).2.2) (fun j => S.at' x2 j)
 (List.length
 (S.stpL (List.length x3) (fun j => S.at' x3 j) ((1 : Int) + Int.tmod rp (3 : Int))
 (S.crF fi (S.crL nl fun j => tl (j + al)))))
 fun j =>
 bif
 Nat.blt j
 (List.length
 (S.stpL (List.length x3) (fun j => S.at' x3 j) ((1 : Int) + Int.tmod rp (3 : Int))
 (S.crF fi (S.crL nl fun j => tl (j + al))))) then
 S.at'
 (S.stpL (List.length x3) (fun j => S.at' x3 j) ((1 : Int) + Int.tmod rp (3 : Int))
 (S.crF fi (S.crL nl fun j => tl (j + al))))
 j
 else (0 : Int))) ==
 (0 : Int))
 then (bif (Prod.snd
 (S.faS
 (S.botE
 (S.magE (List.length x1) (fun j => (S.at' x1 j).1)
 (fun j => (S.at' x1 j).2.1)
 (fun j => (S.at' x1 j).2.2) (List.length x4))
 (S.cyE (ByteArray.mk #[(99 : UInt8)]) (List.length x3) (fun j => S.at' x3 j)
 ((1 : Int) + Int.tmod rp (3 : Int)) (S.crF fi (S.crL nl fun j => tl (j + al)))))
 (0 : Int)
 (S.erB (fun j => (S.at' x1 j).1)
 (fun j => (S.at' x1 j).2.1)
 (List.length
 (S.stpL (List.length x3) (fun j => S.at' x3 j) ((1 : Int) + Int.tmod rp (3 : Int))
 (S.crF fi (S.crL nl fun j => tl (j + al)))))
 (fun j =>
 S.at'
 (S.stpL (List.length x3) (fun j => S.at' x3 j) ((1 : Int) + Int.tmod rp (3 : Int))
 (S.crF fi (S.crL nl fun j => tl (j + al))))
 j)
 (0) (List.length x1))
 (S.fldH (List.length x1) (fun j => (S.at' x1 j).1)
 (fun j => (S.at' x1 j).2.1)
 (fun j => (S.at' x1 j).2.2) (fun j => S.at' x4 j)
 (List.length
 (S.stpL (List.length x3) (fun j => S.at' x3 j) ((1 : Int) + Int.tmod rp (3 : Int))
 (S.crF fi (S.crL nl fun j => tl (j + al)))))
 fun j =>
 bif
 Nat.blt j
 (List.length
 (S.stpL (List.length x3) (fun j => S.at' x3 j) ((1 : Int) + Int.tmod rp (3 : Int))
 (S.crF fi (S.crL nl fun j => tl (j + al))))) then
 S.at'
 (S.stpL (List.length x3) (fun j => S.at' x3 j) ((1 : Int) + Int.tmod rp (3 : Int))
 (S.crF fi (S.crL nl fun j => tl (j + al))))
 j
 else (0 : Int))) ==
 (0 : Int))
 then (bif (Prod.fst
 (S.faS
 (S.botE
 (S.magE (List.length x1) (fun j => (S.at' x1 j).1)
 (fun j => (S.at' x1 j).2.1)
 (fun j => (S.at' x1 j).2.2) (List.length x2))
 (S.cyE (ByteArray.mk #[(99 : UInt8)]) (List.length x3) (fun j => S.at' x3 j)
 ((1 : Int) + Int.tmod rp (3 : Int)) (S.crF fi (S.crL nl fun j => tl (j + al)))))
 (0 : Int)
 (S.erB (fun j => (S.at' x1 j).1)
 (fun j => (S.at' x1 j).2.1)
 (List.length
 (S.stpL (List.length x3) (fun j => S.at' x3 j) ((1 : Int) + Int.tmod rp (3 : Int))
 (S.crF fi (S.crL nl fun j => tl (j + al)))))
 (fun j =>
 S.at'
 (S.stpL (List.length x3) (fun j => S.at' x3 j) ((1 : Int) + Int.tmod rp (3 : Int))
 (S.crF fi (S.crL nl fun j => tl (j + al))))
 j)
 (0) (List.length x1))
 (S.fldH (List.length x1) (fun j => (S.at' x1 j).1)
 (fun j => (S.at' x1 j).2.1)
 (fun j => (S.at' x1 j).2.2) (fun j => S.at' x2 j)
 (List.length
 (S.stpL (List.length x3) (fun j => S.at' x3 j) ((1 : Int) + Int.tmod rp (3 : Int))
 (S.crF fi (S.crL nl fun j => tl (j + al)))))
 fun j =>
 bif
 Nat.blt j
 (List.length
 (S.stpL (List.length x3) (fun j => S.at' x3 j) ((1 : Int) + Int.tmod rp (3 : Int))
 (S.crF fi (S.crL nl fun j => tl (j + al))))) then
 S.at'
 (S.stpL (List.length x3) (fun j => S.at' x3 j) ((1 : Int) + Int.tmod rp (3 : Int))
 (S.crF fi (S.crL nl fun j => tl (j + al))))
 j
 else (0 : Int))) ==
 Prod.fst
 (S.faS
 (S.botE
 (S.magE (List.length x1) (fun j => (S.at' x1 j).1)
 (fun j => (S.at' x1 j).2.1)
 (fun j => (S.at' x1 j).2.2) (List.length x4))
 (S.cyE (ByteArray.mk #[(99 : UInt8)]) (List.length x3) (fun j => S.at' x3 j)
 ((1 : Int) + Int.tmod rp (3 : Int)) (S.crF fi (S.crL nl fun j => tl (j + al)))))
 (0 : Int)
 (S.erB (fun j => (S.at' x1 j).1)
 (fun j => (S.at' x1 j).2.1)
 (List.length
 (S.stpL (List.length x3) (fun j => S.at' x3 j) ((1 : Int) + Int.tmod rp (3 : Int))
 (S.crF fi (S.crL nl fun j => tl (j + al)))))
 (fun j =>
 S.at'
 (S.stpL (List.length x3) (fun j => S.at' x3 j) ((1 : Int) + Int.tmod rp (3 : Int))
 (S.crF fi (S.crL nl fun j => tl (j + al))))
 j)
 (0) (List.length x1))
 (S.fldH (List.length x1) (fun j => (S.at' x1 j).1)
 (fun j => (S.at' x1 j).2.1)
 (fun j => (S.at' x1 j).2.2) (fun j => S.at' x4 j)
 (List.length
 (S.stpL (List.length x3) (fun j => S.at' x3 j) ((1 : Int) + Int.tmod rp (3 : Int))
 (S.crF fi (S.crL nl fun j => tl (j + al)))))
 fun j =>
 bif
 Nat.blt j
 (List.length
 (S.stpL (List.length x3) (fun j => S.at' x3 j) ((1 : Int) + Int.tmod rp (3 : Int))
 (S.crF fi (S.crL nl fun j => tl (j + al))))) then
 S.at'
 (S.stpL (List.length x3) (fun j => S.at' x3 j) ((1 : Int) + Int.tmod rp (3 : Int))
 (S.crF fi (S.crL nl fun j => tl (j + al))))
 j
 else (0 : Int))))
 then (some (.inr (true)))
 else (some (.inr (false))))
 else (some (.inr (false))))
 else (some (.inr (false))))
 else (none))
 else (none))
noncomputable def p107 (ap np mp : Nat) (tp : Nat → Int) (vp : Nat → Int) (o : Int) (al nl ml : Nat) (tl : Nat → Int) (rp : Int) (fi : Int) (os : Int) : Option (St107 ⊕ Rt107) := bif (decide ((↑np : Int) > (60 : Int)))
 then (some (.inr (true)))
 else (bif (decide ((↑nl : Int) > (20 : Int)))
 then (some (.inr (true)))
 else (bif (decide
 (ap + np ≤ mp ∧
 (S.bytes np fun j => tp (j + ap)) = true ∧
 (S.bytes np fun j => vp (j + ap)) = true))
 then (bif (decide
 (al + nl ≤ ml ∧
 (S.bytes nl fun j => tl (j + al)) = true ∧
 ((0 : Int) ≤ rp ∧ rp ≤ (255 : Int)) ∧ (0 : Int) ≤ fi ∧ fi ≤ (255 : Int)))
 then (bif (decide
 (0 +
 List.length
 (S.mkl (S.mdN np) fun j =>
 S.mdR np (fun j => tp (j + ap)) (fun j => vp (j + ap)) j) ≤
 List.length
 (S.mkl (S.mdN np) fun j =>
 S.mdR np (fun j => tp (j + ap)) (fun j => vp (j + ap)) j) ∧
 List.length
 (S.mkl (S.mdN np) fun j =>
 S.mdR np (fun j => tp (j + ap)) (fun j => vp (j + ap)) j) ≤
 1000000))
 then (bif (S.magE
 (List.length
 (S.mkl (S.mdN np) fun j =>
 S.mdR np (fun j => tp (j + ap)) (fun j => vp (j + ap)) j))
 (fun j =>
 Prod.fst
 (S.at'
 (S.mkl (S.mdN np) fun j =>
 S.mdR np (fun j => tp (j + ap)) (fun j => vp (j + ap)) j)
 j))
 (fun j =>
 Prod.fst
 (Prod.snd
 (S.at'
 (S.mkl (S.mdN np) fun j =>
 S.mdR np (fun j => tp (j + ap)) (fun j => vp (j + ap)) j)
 j)))
 (fun j =>
 Prod.snd
 (Prod.snd
 (S.at'
 (S.mkl (S.mdN np) fun j =>
 S.mdR np (fun j => tp (j + ap)) (fun j => vp (j + ap)) j)
 j)))
 (List.length (S.mkl (S.mdN np) fun j => S.mdB o j)) !=
 (0 : Int))
 then (some (.inr (true)))
 else (bif (decide
 ((0 +
 List.length
 (S.mkl (S.mdN np) fun j =>
 S.mdR np (fun j => tp (j + ap)) (fun j => vp (j + ap)) j) ≤
 List.length
 (S.mkl (S.mdN np) fun j =>
 S.mdR np (fun j => tp (j + ap)) (fun j => vp (j + ap)) j) ∧
 List.length
 (S.mkl (S.mdN np) fun j =>
 S.mdR np (fun j => tp (j + ap)) (fun j => vp (j + ap)) j) ≤
 1000000) ∧
 (0 + List.length (S.mkl (S.mdN np) fun j => S.mdB o j) ≤
 List.length (S.mkl (S.mdN np) fun j => S.mdB o j) ∧
 List.length (S.mkl (S.mdN np) fun j => S.mdB o j) ≤ 1000000) ∧
 0 + List.length (S.crL nl fun j => tl (j + al)) ≤
 List.length (S.crL nl fun j => tl (j + al)) ∧
 List.length (S.crL nl fun j => tl (j + al)) ≤ 1000000))
 then (bif (Prod.fst
 (S.suiS
 (S.botE
 (S.magE
 (List.length
 (S.mkl (S.mdN np) fun j =>
 S.mdR np (fun j => tp (j + ap)) (fun j => vp (j + ap)) j))
 (fun j =>
 Prod.fst
 (S.at'
 (S.mkl (S.mdN np) fun j =>
 S.mdR np (fun j => tp (j + ap)) (fun j => vp (j + ap)) j)
 j))
 (fun j =>
 Prod.fst
 (Prod.snd
 (S.at'
 (S.mkl (S.mdN np) fun j =>
 S.mdR np (fun j => tp (j + ap)) (fun j => vp (j + ap)) j)
 j)))
 (fun j =>
 Prod.snd
 (Prod.snd
 (S.at'
 (S.mkl (S.mdN np) fun j =>
 S.mdR np (fun j => tp (j + ap)) (fun j => vp (j + ap)) j)
 j)))
 (List.length (S.mkl (S.mdN np) fun j => S.mdB o j)))
 (S.cyE (ByteArray.mk #[(99 : UInt8)]) (List.length (S.crL nl fun j => tl (j + al)))
 (fun j => S.at' (S.crL nl fun j => tl (j + al)) j)
 ((1 : Int) + Int.tmod rp (3 : Int)) (S.crF fi (S.crL nl fun j => tl (j + al)))))
 (S.erB
 (fun j =>
 Prod.fst
 (S.at'
 (S.mkl (S.mdN np) fun j =>
 S.mdR np (fun j => tp (j + ap)) (fun j => vp (j + ap)) j)
 j))
 (fun j =>
 Prod.fst
 (Prod.snd
 (S.at'
 (S.mkl (S.mdN np) fun j =>
 S.mdR np (fun j => tp (j + ap)) (fun j => vp (j + ap)) j)
 j)))
 (List.length
 (S.stpL (List.length (S.crL nl fun j => tl (j + al)))
 (fun j => S.at' (S.crL nl fun j => tl (j + al)) j)
 ((1 : Int) + Int.tmod rp (3 : Int)) (S.crF fi (S.crL nl fun j => tl (j + al)))))
 (fun j =>
 S.at'
 (S.stpL (List.length (S.crL nl fun j => tl (j + al)))
 (fun j => S.at' (S.crL nl fun j => tl (j + al)) j)
 ((1 : Int) + Int.tmod rp (3 : Int)) (S.crF fi (S.crL nl fun j => tl (j + al))))
 j)
 (0)
 (List.length
 (S.mkl (S.mdN np) fun j =>
 S.mdR np (fun j => tp (j + ap)) (fun j => vp (j + ap)) j)))))
 then (bif (Prod.snd
 (S.suiS
 (S.botE
 (S.magE
 (List.length
 (S.mkl (S.mdN np) fun j =>
 S.mdR np (fun j => tp (j + ap)) (fun j => vp (j + ap)) j))
 (fun j =>
 Prod.fst
 (S.at'
 (S.mkl (S.mdN np) fun j =>
 S.mdR np (fun j => tp (j + ap)) (fun j => vp (j + ap)) j)
 j))
 (fun j =>
 Prod.fst
 (Prod.snd
 (S.at'
 (S.mkl (S.mdN np) fun j =>
 S.mdR np (fun j => tp (j + ap)) (fun j => vp (j + ap)) j)
 j)))
 (fun j =>
 Prod.snd
 (Prod.snd
 (S.at'
 (S.mkl (S.mdN np) fun j =>
 S.mdR np (fun j => tp (j + ap)) (fun j => vp (j + ap)) j)
 j)))
 (List.length (S.mkl (S.mdN np) fun j => S.mdB o j)))
 (S.cyE (ByteArray.mk #[(99 : UInt8)]) (List.length (S.crL nl fun j => tl (j + al)))
 (fun j => S.at' (S.crL nl fun j => tl (j + al)) j)
 ((1 : Int) + Int.tmod rp (3 : Int)) (S.crF fi (S.crL nl fun j => tl (j + al)))))
 (S.erB
 (fun j =>
 Prod.fst
 (S.at'
 (S.mkl (S.mdN np) fun j =>
 S.mdR np (fun j => tp (j + ap)) (fun j => vp (j + ap)) j)
 j))
 (fun j =>
 Prod.fst
 (Prod.snd
 (S.at'
 (S.mkl (S.mdN np) fun j =>
 S.mdR np (fun j => tp (j + ap)) (fun j => vp (j + ap)) j)
 j)))
 (List.length
 (S.stpL (List.length (S.crL nl fun j => tl (j + al)))
 (fun j => S.at' (S.crL nl fun j => tl (j + al)) j)
 ((1 : Int) + Int.tmod rp (3 : Int)) (S.crF fi (S.crL nl fun j => tl (j + al)))))
 (fun j =>
 S.at'
 (S.stpL (List.length (S.crL nl fun j => tl (j + al)))
 (fun j => S.at' (S.crL nl fun j => tl (j + al)) j)
 ((1 : Int) + Int.tmod rp (3 : Int)) (S.crF fi (S.crL nl fun j => tl (j + al))))
 j)
 (0)
 (List.length
 (S.mkl (S.mdN np) fun j =>
 S.mdR np (fun j => tp (j + ap)) (fun j => vp (j + ap)) j)))) !=
 (0 : Int))
 then (bif (Prod.snd
 (S.suiS
 (S.botE
 (S.magE
 (List.length
 (S.mkl (S.mdN np) fun j =>
 S.mdR np (fun j => tp (j + ap)) (fun j => vp (j + ap)) j))
 (fun j =>
 Prod.fst
 (S.at'
 (S.mkl (S.mdN np) fun j =>
 S.mdR np (fun j => tp (j + ap)) (fun j => vp (j + ap)) j)
 j))
 (fun j =>
 Prod.fst
 (Prod.snd
 (S.at'
 (S.mkl (S.mdN np) fun j =>
 S.mdR np (fun j => tp (j + ap)) (fun j => vp (j + ap)) j)
 j)))
 (fun j =>
 Prod.snd
 (Prod.snd
 (S.at'
 (S.mkl (S.mdN np) fun j =>
 S.mdR np (fun j => tp (j + ap)) (fun j => vp (j + ap)) j)
 j)))
 (List.length (S.mkl (S.mdN np) fun j => S.mdB o j)))
 (S.cyE (ByteArray.mk #[(99 : UInt8)]) (List.length (S.crL nl fun j => tl (j + al)))
 (fun j => S.at' (S.crL nl fun j => tl (j + al)) j)
 ((1 : Int) + Int.tmod rp (3 : Int)) (S.crF fi (S.crL nl fun j => tl (j + al)))))
 (S.erB
 (fun j =>
 Prod.fst
 (S.at'
 (S.mkl (S.mdN np) fun j =>
 S.mdR np (fun j => tp (j + ap)) (fun j => vp (j + ap)) j)
 j))
 (fun j =>
 Prod.fst
 (Prod.snd
 (S.at'
 (S.mkl (S.mdN np) fun j =>
 S.mdR np (fun j => tp (j + ap)) (fun j => vp (j + ap)) j)
 j)))
 (List.length
 (S.stpL (List.length (S.crL nl fun j => tl (j + al)))
 (fun j => S.at' (S.crL nl fun j => tl (j + al)) j)
 ((1 : Int) + Int.tmod rp (3 : Int)) (S.crF fi (S.crL nl fun j => tl (j + al)))))
 (fun j =>
 S.at'
 (S.stpL (List.length (S.crL nl fun j => tl (j + al)))
 (fun j => S.at' (S.crL nl fun j => tl (j + al)) j)
 ((1 : Int) + Int.tmod rp (3 : Int)) (S.crF fi (S.crL nl fun j => tl (j + al))))
 j)
 (0)
 (List.length
 (S.mkl (S.mdN np) fun j =>
 S.mdR np (fun j => tp (j + ap)) (fun j => vp (j + ap)) j)))) ==
 (0 : Int))
 then (some (.inr (true)))
 else (some (.inr (false))))
 else (some (.inl (.h0 ((0 : Int)) (S.mkl (S.mdN np) fun j =>
 S.mdR np (fun j => tp (j + ap)) (fun j => vp (j + ap)) j) (S.mkl (S.mdN np) fun j => S.mdB o j) (S.crL nl fun j => tl (j + al)) ([])))))
 else (bif (Prod.snd
 (S.suiS
 (S.botE
 (S.magE
 (List.length
 (S.mkl (S.mdN np) fun j =>
 S.mdR np (fun j => tp (j + ap)) (fun j => vp (j + ap)) j))
 (fun j =>
 Prod.fst
 (S.at'
 (S.mkl (S.mdN np) fun j =>
 S.mdR np (fun j => tp (j + ap)) (fun j => vp (j + ap)) j)
 j))
 (fun j =>
 Prod.fst
 (Prod.snd
 (S.at'
 (S.mkl (S.mdN np) fun j =>
 S.mdR np (fun j => tp (j + ap)) (fun j => vp (j + ap)) j)
 j)))
 (fun j =>
 Prod.snd
 (Prod.snd
 (S.at'
 (S.mkl (S.mdN np) fun j =>
 S.mdR np (fun j => tp (j + ap)) (fun j => vp (j + ap)) j)
 j)))
 (List.length (S.mkl (S.mdN np) fun j => S.mdB o j)))
 (S.cyE (ByteArray.mk #[(99 : UInt8)]) (List.length (S.crL nl fun j => tl (j + al)))
 (fun j => S.at' (S.crL nl fun j => tl (j + al)) j)
 ((1 : Int) + Int.tmod rp (3 : Int)) (S.crF fi (S.crL nl fun j => tl (j + al)))))
 (S.erB
 (fun j =>
 Prod.fst
 (S.at'
 (S.mkl (S.mdN np) fun j =>
 S.mdR np (fun j => tp (j + ap)) (fun j => vp (j + ap)) j)
 j))
 (fun j =>
 Prod.fst
 (Prod.snd
 (S.at'
 (S.mkl (S.mdN np) fun j =>
 S.mdR np (fun j => tp (j + ap)) (fun j => vp (j + ap)) j)
 j)))
 (List.length
 (S.stpL (List.length (S.crL nl fun j => tl (j + al)))
 (fun j => S.at' (S.crL nl fun j => tl (j + al)) j)
 ((1 : Int) + Int.tmod rp (3 : Int)) (S.crF fi (S.crL nl fun j => tl (j + al)))))
 (fun j =>
 S.at'
 (S.stpL (List.length (S.crL nl fun j => tl (j + al)))
 (fun j => S.at' (S.crL nl fun j => tl (j + al)) j)
 ((1 : Int) + Int.tmod rp (3 : Int)) (S.crF fi (S.crL nl fun j => tl (j + al))))
 j)
 (0)
 (List.length
 (S.mkl (S.mdN np) fun j =>
 S.mdR np (fun j => tp (j + ap)) (fun j => vp (j + ap)) j)))) !=
 (0 : Int))
 then (bif (Prod.snd
 (S.suiS
 (S.botE
 (S.magE
 (List.length
 (S.mkl (S.mdN np) fun j =>
 S.mdR np (fun j => tp (j + ap)) (fun j => vp (j + ap)) j))
 (fun j =>
 Prod.fst
 (S.at'
 (S.mkl (S.mdN np) fun j =>
 S.mdR np (fun j => tp (j + ap)) (fun j => vp (j + ap)) j)
 j))
 (fun j =>
 Prod.fst
 (Prod.snd
 (S.at'
 (S.mkl (S.mdN np) fun j =>
 S.mdR np (fun j => tp (j + ap)) (fun j => vp (j + ap)) j)
 j)))
 (fun j =>
 Prod.snd
 (Prod.snd
 (S.at'
 (S.mkl (S.mdN np) fun j =>
 S.mdR np (fun j => tp (j + ap)) (fun j => vp (j + ap)) j)
 j)))
 (List.length (S.mkl (S.mdN np) fun j => S.mdB o j)))
 (S.cyE (ByteArray.mk #[(99 : UInt8)]) (List.length (S.crL nl fun j => tl (j + al)))
 (fun j => S.at' (S.crL nl fun j => tl (j + al)) j)
 ((1 : Int) + Int.tmod rp (3 : Int)) (S.crF fi (S.crL nl fun j => tl (j + al)))))
 (S.erB
 (fun j =>
 Prod.fst
 (S.at'
 (S.mkl (S.mdN np) fun j =>
 S.mdR np (fun j => tp (j + ap)) (fun j => vp (j + ap)) j)
 j))
 (fun j =>
 Prod.fst
 (Prod.snd
 (S.at'
 (S.mkl (S.mdN np) fun j =>
 S.mdR np (fun j => tp (j + ap)) (fun j => vp (j + ap)) j)
 j)))
 (List.length
 (S.stpL (List.length (S.crL nl fun j => tl (j + al)))
 (fun j => S.at' (S.crL nl fun j => tl (j + al)) j)
 ((1 : Int) + Int.tmod rp (3 : Int)) (S.crF fi (S.crL nl fun j => tl (j + al)))))
 (fun j =>
 S.at'
 (S.stpL (List.length (S.crL nl fun j => tl (j + al)))
 (fun j => S.at' (S.crL nl fun j => tl (j + al)) j)
 ((1 : Int) + Int.tmod rp (3 : Int)) (S.crF fi (S.crL nl fun j => tl (j + al))))
 j)
 (0)
 (List.length
 (S.mkl (S.mdN np) fun j =>
 S.mdR np (fun j => tp (j + ap)) (fun j => vp (j + ap)) j)))) ==
 (0 : Int))
 then (some (.inr (true)))
 else (some (.inr (false))))
 else (bif (Prod.snd
 (S.suiS
 (S.botE
 (S.magE
 (List.length
 (S.mkl (S.mdN np) fun j =>
 S.mdR np (fun j => tp (j + ap)) (fun j => vp (j + ap)) j))
 (fun j =>
 Prod.fst
 (S.at'
 (S.mkl (S.mdN np) fun j =>
 S.mdR np (fun j => tp (j + ap)) (fun j => vp (j + ap)) j)
 j))
 (fun j =>
 Prod.fst
 (Prod.snd
 (S.at'
 (S.mkl (S.mdN np) fun j =>
 S.mdR np (fun j => tp (j + ap)) (fun j => vp (j + ap)) j)
 j)))
 (fun j =>
 Prod.snd
 (Prod.snd
 (S.at'
 (S.mkl (S.mdN np) fun j =>
 S.mdR np (fun j => tp (j + ap)) (fun j => vp (j + ap)) j)
 j)))
 (List.length (S.mkl (S.mdN np) fun j => S.mdB o j)))
 (S.cyE (ByteArray.mk #[(99 : UInt8)]) (List.length (S.crL nl fun j => tl (j + al)))
 (fun j => S.at' (S.crL nl fun j => tl (j + al)) j)
 ((1 : Int) + Int.tmod rp (3 : Int)) (S.crF fi (S.crL nl fun j => tl (j + al)))))
 (S.erB
 (fun j =>
 Prod.fst
 (S.at'
 (S.mkl (S.mdN np) fun j =>
 S.mdR np (fun j => tp (j + ap)) (fun j => vp (j + ap)) j)
 j))
 (fun j =>
 Prod.fst
 (Prod.snd
 (S.at'
 (S.mkl (S.mdN np) fun j =>
 S.mdR np (fun j => tp (j + ap)) (fun j => vp (j + ap)) j)
 j)))
 (List.length
 (S.stpL (List.length (S.crL nl fun j => tl (j + al)))
 (fun j => S.at' (S.crL nl fun j => tl (j + al)) j)
 ((1 : Int) + Int.tmod rp (3 : Int)) (S.crF fi (S.crL nl fun j => tl (j + al)))))
 (fun j =>
 S.at'
 (S.stpL (List.length (S.crL nl fun j => tl (j + al)))
 (fun j => S.at' (S.crL nl fun j => tl (j + al)) j)
 ((1 : Int) + Int.tmod rp (3 : Int)) (S.crF fi (S.crL nl fun j => tl (j + al))))
 j)
 (0)
 (List.length
 (S.mkl (S.mdN np) fun j =>
 S.mdR np (fun j => tp (j + ap)) (fun j => vp (j + ap)) j)))) ==
 (0 : Int))
 then (some (.inr (true)))
 else (some (.inr (false))))))
 else (none)))
 else (none))
 else (none))
 else (none)))
noncomputable def Te107 (test : Bool → Prop → Prop → Prop) (Kst : KS) (Kret : KR) (ap np mp : Nat) (tp : Nat → Int) (vp : Nat → Int) (o : Int) (al nl ml : Nat) (tl : Nat → Int) (rp : Int) (fi : Int) (os : Int) : Prop :=
  test (true)
 (test (true)
 (test (decide ((↑np : Int) > (60 : Int)))
 (test (true)
 (test (true)
 (Kret (PV.tf true) ([[(1, false, Blk.cols ml [Col.int IntKind.u8 tl]),
 (0, false, Blk.cols mp [Col.int IntKind.u8 tp, Col.int IntKind.u8 vp])]]) (6))
 (Kret (PV.tf false) ([[(1, false, Blk.cols ml [Col.int IntKind.u8 tl]),
 (0, false, Blk.cols mp [Col.int IntKind.u8 tp, Col.int IntKind.u8 vp])]]) (6)))
 (False))
 (test (decide ((↑nl : Int) > (20 : Int)))
 (test (true)
 (test (true)
 (Kret (PV.tf true) ([[(1, false, Blk.cols ml [Col.int IntKind.u8 tl]),
 (0, false, Blk.cols mp [Col.int IntKind.u8 tp, Col.int IntKind.u8 vp])]]) (6))
 (Kret (PV.tf false) ([[(1, false, Blk.cols ml [Col.int IntKind.u8 tl]),
 (0, false, Blk.cols mp [Col.int IntKind.u8 tp, Col.int IntKind.u8 vp])]]) (6)))
 (False))
 (test (decide
 (ap + np ≤ mp ∧
 (S.bytes np fun j => tp (j + ap)) = true ∧
 (S.bytes np fun j => vp (j + ap)) = true))
 (test (decide
 (al + nl ≤ ml ∧
 (S.bytes nl fun j => tl (j + al)) = true ∧
 ((0 : Int) ≤ rp ∧ rp ≤ (255 : Int)) ∧ (0 : Int) ≤ fi ∧ fi ≤ (255 : Int)))
 (test (decide
 (0 +
 List.length
 (S.mkl (S.mdN np) fun j =>
 S.mdR np (fun j => tp (j + ap)) (fun j => vp (j + ap)) j) ≤
 List.length
 (S.mkl (S.mdN np) fun j =>
 S.mdR np (fun j => tp (j + ap)) (fun j => vp (j + ap)) j) ∧
 List.length
 (S.mkl (S.mdN np) fun j =>
 S.mdR np (fun j => tp (j + ap)) (fun j => vp (j + ap)) j) ≤
 1000000))
 (test (S.magE
 (List.length
 (S.mkl (S.mdN np) fun j =>
 S.mdR np (fun j => tp (j + ap)) (fun j => vp (j + ap)) j))
 (fun j =>
 Prod.fst
 (S.at'
 (S.mkl (S.mdN np) fun j =>
 S.mdR np (fun j => tp (j + ap)) (fun j => vp (j + ap)) j)
 j))
 (fun j =>
 Prod.fst
 (Prod.snd
 (S.at'
 (S.mkl (S.mdN np) fun j =>
 S.mdR np (fun j => tp (j + ap)) (fun j => vp (j + ap)) j)
 j)))
 (fun j =>
 Prod.snd
 (Prod.snd
 (S.at'
 (S.mkl (S.mdN np) fun j =>
 S.mdR np (fun j => tp (j + ap)) (fun j => vp (j + ap)) j)
 j)))
 (List.length (S.mkl (S.mdN np) fun j => S.mdB o j)) !=
 (0 : Int))
 (Kret (PV.tf true) ([[(1, false, Blk.cols ml [Col.int IntKind.u8 tl]),
 (0, false, Blk.cols mp [Col.int IntKind.u8 tp, Col.int IntKind.u8 vp])]]) (13))
 (test (decide
 ((0 +
 List.length
 (S.mkl (S.mdN np) fun j =>
 S.mdR np (fun j => tp (j + ap)) (fun j => vp (j + ap)) j) ≤
 List.length
 (S.mkl (S.mdN np) fun j =>
 S.mdR np (fun j => tp (j + ap)) (fun j => vp (j + ap)) j) ∧
 List.length
 (S.mkl (S.mdN np) fun j =>
 S.mdR np (fun j => tp (j + ap)) (fun j => vp (j + ap)) j) ≤
 1000000) ∧
 (0 + List.length (S.mkl (S.mdN np) fun j => S.mdB o j) ≤
 List.length (S.mkl (S.mdN np) fun j => S.mdB o j) ∧
 List.length (S.mkl (S.mdN np) fun j => S.mdB o j) ≤ 1000000) ∧
 0 + List.length (S.crL nl fun j => tl (j + al)) ≤
 List.length (S.crL nl fun j => tl (j + al)) ∧
 List.length (S.crL nl fun j => tl (j + al)) ≤ 1000000))
 (test (Prod.fst
 (S.suiS
 (S.botE
 (S.magE
 (List.length
 (S.mkl (S.mdN np) fun j =>
 S.mdR np (fun j => tp (j + ap)) (fun j => vp (j + ap)) j))
 (fun j =>
 Prod.fst
 (S.at'
 (S.mkl (S.mdN np) fun j =>
 S.mdR np (fun j => tp (j + ap)) (fun j => vp (j + ap)) j)
 j))
 (fun j =>
 Prod.fst
 (Prod.snd
 (S.at'
 (S.mkl (S.mdN np) fun j =>
 S.mdR np (fun j => tp (j + ap)) (fun j => vp (j + ap)) j)
 j)))
 (fun j =>
 Prod.snd
 (Prod.snd
 (S.at'
 (S.mkl (S.mdN np) fun j =>
 S.mdR np (fun j => tp (j + ap)) (fun j => vp (j + ap)) j)
 j)))
 (List.length (S.mkl (S.mdN np) fun j => S.mdB o j)))
 (S.cyE (ByteArray.mk #[(99 : UInt8)]) (List.length (S.crL nl fun j => tl (j + al)))
 (fun j => S.at' (S.crL nl fun j => tl (j + al)) j)
 ((1 : Int) + Int.tmod rp (3 : Int)) (S.crF fi (S.crL nl fun j => tl (j + al)))))
 (S.erB
 (fun j =>
 Prod.fst
 (S.at'
 (S.mkl (S.mdN np) fun j =>
 S.mdR np (fun j => tp (j + ap)) (fun j => vp (j + ap)) j)
 j))
 (fun j =>
 Prod.fst
 (Prod.snd
 (S.at'
 (S.mkl (S.mdN np) fun j =>
 S.mdR np (fun j => tp (j + ap)) (fun j => vp (j + ap)) j)
 j)))
 (List.length
 (S.stpL (List.length (S.crL nl fun j => tl (j + al)))
 (fun j => S.at' (S.crL nl fun j => tl (j + al)) j)
 ((1 : Int) + Int.tmod rp (3 : Int)) (S.crF fi (S.crL nl fun j => tl (j + al)))))
 (fun j =>
 S.at'
 (S.stpL (List.length (S.crL nl fun j => tl (j + al)))
 (fun j => S.at' (S.crL nl fun j => tl (j + al)) j)
 ((1 : Int) + Int.tmod rp (3 : Int)) (S.crF fi (S.crL nl fun j => tl (j + al))))
 j)
 (0)
 (List.length
 (S.mkl (S.mdN np) fun j =>
 S.mdR np (fun j => tp (j + ap)) (fun j => vp (j + ap)) j)))))
 (test (Prod.snd
 (S.suiS
 (S.botE
 (S.magE
 (List.length
 (S.mkl (S.mdN np) fun j =>
 S.mdR np (fun j => tp (j + ap)) (fun j => vp (j + ap)) j))
 (fun j =>
 Prod.fst
 (S.at'
 (S.mkl (S.mdN np) fun j =>
 S.mdR np (fun j => tp (j + ap)) (fun j => vp (j + ap)) j)
 j))
 (fun j =>
 Prod.fst
 (Prod.snd
 (S.at'
 (S.mkl (S.mdN np) fun j =>
 S.mdR np (fun j => tp (j + ap)) (fun j => vp (j + ap)) j)
 j)))
 (fun j =>
 Prod.snd
 (Prod.snd
 (S.at'
 (S.mkl (S.mdN np) fun j =>
 S.mdR np (fun j => tp (j + ap)) (fun j => vp (j + ap)) j)
 j)))
 (List.length (S.mkl (S.mdN np) fun j => S.mdB o j)))
 (S.cyE (ByteArray.mk #[(99 : UInt8)]) (List.length (S.crL nl fun j => tl (j + al)))
 (fun j => S.at' (S.crL nl fun j => tl (j + al)) j)
 ((1 : Int) + Int.tmod rp (3 : Int)) (S.crF fi (S.crL nl fun j => tl (j + al)))))
 (S.erB
 (fun j =>
 Prod.fst
 (S.at'
 (S.mkl (S.mdN np) fun j =>
 S.mdR np (fun j => tp (j + ap)) (fun j => vp (j + ap)) j)
 j))
 (fun j =>
 Prod.fst
 (Prod.snd
 (S.at'
 (S.mkl (S.mdN np) fun j =>
 S.mdR np (fun j => tp (j + ap)) (fun j => vp (j + ap)) j)
 j)))
 (List.length
 (S.stpL (List.length (S.crL nl fun j => tl (j + al)))
 (fun j => S.at' (S.crL nl fun j => tl (j + al)) j)
 ((1 : Int) + Int.tmod rp (3 : Int)) (S.crF fi (S.crL nl fun j => tl (j + al)))))
 (fun j =>
 S.at'
 (S.stpL (List.length (S.crL nl fun j => tl (j + al)))
 (fun j => S.at' (S.crL nl fun j => tl (j + al)) j)
 ((1 : Int) + Int.tmod rp (3 : Int)) (S.crF fi (S.crL nl fun j => tl (j + al))))
 j)
 (0)
 (List.length
 (S.mkl (S.mdN np) fun j =>
 S.mdR np (fun j => tp (j + ap)) (fun j => vp (j + ap)) j)))) !=
 (0 : Int))
 (test (Prod.snd
 (S.suiS
 (S.botE
 (S.magE
 (List.length
 (S.mkl (S.mdN np) fun j =>
 S.mdR np (fun j => tp (j + ap)) (fun j => vp (j + ap)) j))
 (fun j =>
 Prod.fst
 (S.at'
 (S.mkl (S.mdN np) fun j =>
 S.mdR np (fun j => tp (j + ap)) (fun j => vp (j + ap)) j)
 j))
 (fun j =>
 Prod.fst
 (Prod.snd
 (S.at'
 (S.mkl (S.mdN np) fun j =>
 S.mdR np (fun j => tp (j + ap)) (fun j => vp (j + ap)) j)
 j)))
 (fun j =>
 Prod.snd
 (Prod.snd
 (S.at'
 (S.mkl (S.mdN np) fun j =>
 S.mdR np (fun j => tp (j + ap)) (fun j => vp (j + ap)) j)
 j)))
 (List.length (S.mkl (S.mdN np) fun j => S.mdB o j)))
 (S.cyE (ByteArray.mk #[(99 : UInt8)]) (List.length (S.crL nl fun j => tl (j + al)))
 (fun j => S.at' (S.crL nl fun j => tl (j + al)) j)
 ((1 : Int) + Int.tmod rp (3 : Int)) (S.crF fi (S.crL nl fun j => tl (j + al)))))
 (S.erB
 (fun j =>
 Prod.fst
 (S.at'
 (S.mkl (S.mdN np) fun j =>
 S.mdR np (fun j => tp (j + ap)) (fun j => vp (j + ap)) j)
 j))
 (fun j =>
 Prod.fst
 (Prod.snd
 (S.at'
 (S.mkl (S.mdN np) fun j =>
 S.mdR np (fun j => tp (j + ap)) (fun j => vp (j + ap)) j)
 j)))
 (List.length
 (S.stpL (List.length (S.crL nl fun j => tl (j + al)))
 (fun j => S.at' (S.crL nl fun j => tl (j + al)) j)
 ((1 : Int) + Int.tmod rp (3 : Int)) (S.crF fi (S.crL nl fun j => tl (j + al)))))
 (fun j =>
 S.at'
 (S.stpL (List.length (S.crL nl fun j => tl (j + al)))
 (fun j => S.at' (S.crL nl fun j => tl (j + al)) j)
 ((1 : Int) + Int.tmod rp (3 : Int)) (S.crF fi (S.crL nl fun j => tl (j + al))))
 j)
 (0)
 (List.length
 (S.mkl (S.mdN np) fun j =>
 S.mdR np (fun j => tp (j + ap)) (fun j => vp (j + ap)) j)))) ==
 (0 : Int))
 (Kret (PV.tf true) ([[(1, false, Blk.cols ml [Col.int IntKind.u8 tl]),
 (0, false, Blk.cols mp [Col.int IntKind.u8 tp, Col.int IntKind.u8 vp])]]) (14))
 (Kret (PV.tf false) ([[(1, false, Blk.cols ml [Col.int IntKind.u8 tl]),
 (0, false, Blk.cols mp [Col.int IntKind.u8 tp, Col.int IntKind.u8 vp])]]) (14)))
 (Kst (hd Try.f7 0) ([PV.int IntKind.u64 os, PV.ptr (PA.mk (10) (0) (0) (0)),
 PV.ptr (PA.mk (11) (0) (0) (0)),
 PV.ptr (PA.mk (14) (0) (0) (0)),
 PV.int IntKind.i64
 (↑(List.length
 (S.mkl (S.mdN np) fun j =>
 S.mdR np (fun j => tp (j + ap)) (fun j => vp (j + ap)) j)) :
 Int),
 PV.int IntKind.i64 (0 : Int)]) ([[(1, false, Blk.cols ml [Col.int IntKind.u8 tl]),
 (0, false, Blk.cols mp [Col.int IntKind.u8 tp, Col.int IntKind.u8 vp]),
 (14, true,
 Blk.cells
 [PV.own (6) (3)
 (List.length
 (S.mkl (S.mdN np) fun j =>
 S.mdR np (fun j => tp (j + ap)) (fun j => vp (j + ap)) j)),
 PV.nils]),
 (11, true,
 Blk.cells
 [PV.str (ByteArray.mk #[(99 : UInt8)]),
 PV.own (9) (1) (List.length (S.crL nl fun j => tl (j + al))),
 PV.int IntKind.i64 ((1 : Int) + Int.tmod rp (3 : Int)),
 PV.int IntKind.i64 (S.crF fi (S.crL nl fun j => tl (j + al)))]),
 (10, true,
 Blk.cells
 [PV.own (6) (3)
 (List.length
 (S.mkl (S.mdN np) fun j =>
 S.mdR np (fun j => tp (j + ap)) (fun j => vp (j + ap)) j)),
 PV.own (7) (1)
 (List.length (S.mkl (S.mdN np) fun j => S.mdB o j))]),
 (7, true,
 Blk.cols (List.length (S.mkl (S.mdN np) fun j => S.mdB o j))
 [Col.bool fun j =>
 S.at' (S.mkl (S.mdN np) fun j => S.mdB o j) j]),
 (6, true,
 Blk.cols
 (List.length
 (S.mkl (S.mdN np) fun j =>
 S.mdR np (fun j => tp (j + ap)) (fun j => vp (j + ap)) j))
 [Col.int IntKind.i64 fun j =>
 Prod.fst
 (S.at'
 (S.mkl (S.mdN np) fun j =>
 S.mdR np (fun j => tp (j + ap)) (fun j => vp (j + ap)) j)
 j),
 Col.int IntKind.i64 fun j =>
 Prod.fst
 (Prod.snd
 (S.at'
 (S.mkl (S.mdN np) fun j =>
 S.mdR np (fun j => tp (j + ap)) (fun j => vp (j + ap)) j)
 j)),
 Col.int IntKind.i64 fun j =>
 Prod.snd
 (Prod.snd
 (S.at'
 (S.mkl (S.mdN np) fun j =>
 S.mdR np (fun j => tp (j + ap)) (fun j => vp (j + ap)) j)
 j))]),
 (9, true,
 Blk.cols (List.length (S.crL nl fun j => tl (j + al)))
 [Col.int IntKind.i64 fun j => S.at' (S.crL nl fun j => tl (j + al)) j])]]) (15)))
 (test (Prod.snd
 (S.suiS
 (S.botE
 (S.magE
 (List.length
 (S.mkl (S.mdN np) fun j =>
 S.mdR np (fun j => tp (j + ap)) (fun j => vp (j + ap)) j))
 (fun j =>
 Prod.fst
 (S.at'
 (S.mkl (S.mdN np) fun j =>
 S.mdR np (fun j => tp (j + ap)) (fun j => vp (j + ap)) j)
 j))
 (fun j =>
 Prod.fst
 (Prod.snd
 (S.at'
 (S.mkl (S.mdN np) fun j =>
 S.mdR np (fun j => tp (j + ap)) (fun j => vp (j + ap)) j)
 j)))
 (fun j =>
 Prod.snd
 (Prod.snd
 (S.at'
 (S.mkl (S.mdN np) fun j =>
 S.mdR np (fun j => tp (j + ap)) (fun j => vp (j + ap)) j)
 j)))
 (List.length (S.mkl (S.mdN np) fun j => S.mdB o j)))
 (S.cyE (ByteArray.mk #[(99 : UInt8)]) (List.length (S.crL nl fun j => tl (j + al)))
 (fun j => S.at' (S.crL nl fun j => tl (j + al)) j)
 ((1 : Int) + Int.tmod rp (3 : Int)) (S.crF fi (S.crL nl fun j => tl (j + al)))))
 (S.erB
 (fun j =>
 Prod.fst
 (S.at'
 (S.mkl (S.mdN np) fun j =>
 S.mdR np (fun j => tp (j + ap)) (fun j => vp (j + ap)) j)
 j))
 (fun j =>
 Prod.fst
 (Prod.snd
 (S.at'
 (S.mkl (S.mdN np) fun j =>
 S.mdR np (fun j => tp (j + ap)) (fun j => vp (j + ap)) j)
 j)))
 (List.length
 (S.stpL (List.length (S.crL nl fun j => tl (j + al)))
 (fun j => S.at' (S.crL nl fun j => tl (j + al)) j)
 ((1 : Int) + Int.tmod rp (3 : Int)) (S.crF fi (S.crL nl fun j => tl (j + al)))))
 (fun j =>
 S.at'
 (S.stpL (List.length (S.crL nl fun j => tl (j + al)))
 (fun j => S.at' (S.crL nl fun j => tl (j + al)) j)
 ((1 : Int) + Int.tmod rp (3 : Int)) (S.crF fi (S.crL nl fun j => tl (j + al))))
 j)
 (0)
 (List.length
 (S.mkl (S.mdN np) fun j =>
 S.mdR np (fun j => tp (j + ap)) (fun j => vp (j + ap)) j)))) !=
 (0 : Int))
 (test (Prod.snd
 (S.suiS
 (S.botE
 (S.magE
 (List.length
 (S.mkl (S.mdN np) fun j =>
 S.mdR np (fun j => tp (j + ap)) (fun j => vp (j + ap)) j))
 (fun j =>
 Prod.fst
 (S.at'
 (S.mkl (S.mdN np) fun j =>
 S.mdR np (fun j => tp (j + ap)) (fun j => vp (j + ap)) j)
 j))
 (fun j =>
 Prod.fst
 (Prod.snd
 (S.at'
 (S.mkl (S.mdN np) fun j =>
 S.mdR np (fun j => tp (j + ap)) (fun j => vp (j + ap)) j)
 j)))
 (fun j =>
 Prod.snd
 (Prod.snd
 (S.at'
 (S.mkl (S.mdN np) fun j =>
 S.mdR np (fun j => tp (j + ap)) (fun j => vp (j + ap)) j)
 j)))
 (List.length (S.mkl (S.mdN np) fun j => S.mdB o j)))
 (S.cyE (ByteArray.mk #[(99 : UInt8)]) (List.length (S.crL nl fun j => tl (j + al)))
 (fun j => S.at' (S.crL nl fun j => tl (j + al)) j)
 ((1 : Int) + Int.tmod rp (3 : Int)) (S.crF fi (S.crL nl fun j => tl (j + al)))))
 (S.erB
 (fun j =>
 Prod.fst
 (S.at'
 (S.mkl (S.mdN np) fun j =>
 S.mdR np (fun j => tp (j + ap)) (fun j => vp (j + ap)) j)
 j))
 (fun j =>
 Prod.fst
 (Prod.snd
 (S.at'
 (S.mkl (S.mdN np) fun j =>
 S.mdR np (fun j => tp (j + ap)) (fun j => vp (j + ap)) j)
 j)))
 (List.length
 (S.stpL (List.length (S.crL nl fun j => tl (j + al)))
 (fun j => S.at' (S.crL nl fun j => tl (j + al)) j)
 ((1 : Int) + Int.tmod rp (3 : Int)) (S.crF fi (S.crL nl fun j => tl (j + al)))))
 (fun j =>
 S.at'
 (S.stpL (List.length (S.crL nl fun j => tl (j + al)))
 (fun j => S.at' (S.crL nl fun j => tl (j + al)) j)
 ((1 : Int) + Int.tmod rp (3 : Int)) (S.crF fi (S.crL nl fun j => tl (j + al))))
 j)
 (0)
 (List.length
 (S.mkl (S.mdN np) fun j =>
 S.mdR np (fun j => tp (j + ap)) (fun j => vp (j + ap)) j)))) ==
 (0 : Int))
 (Kret (PV.tf true) ([[(1, false, Blk.cols ml [Col.int IntKind.u8 tl]),
 (0, false, Blk.cols mp [Col.int IntKind.u8 tp, Col.int IntKind.u8 vp])]]) (14))
 (Kret (PV.tf false) ([[(1, false, Blk.cols ml [Col.int IntKind.u8 tl]),
 (0, false, Blk.cols mp [Col.int IntKind.u8 tp, Col.int IntKind.u8 vp])]]) (14)))
 (test (Prod.snd
 (S.suiS
 (S.botE
 (S.magE
 (List.length
 (S.mkl (S.mdN np) fun j =>
 S.mdR np (fun j => tp (j + ap)) (fun j => vp (j + ap)) j))
 (fun j =>
 Prod.fst
 (S.at'
 (S.mkl (S.mdN np) fun j =>
 S.mdR np (fun j => tp (j + ap)) (fun j => vp (j + ap)) j)
 j))
 (fun j =>
 Prod.fst
 (Prod.snd
 (S.at'
 (S.mkl (S.mdN np) fun j =>
 S.mdR np (fun j => tp (j + ap)) (fun j => vp (j + ap)) j)
 j)))
 (fun j =>
 Prod.snd
 (Prod.snd
 (S.at'
 (S.mkl (S.mdN np) fun j =>
 S.mdR np (fun j => tp (j + ap)) (fun j => vp (j + ap)) j)
 j)))
 (List.length (S.mkl (S.mdN np) fun j => S.mdB o j)))
 (S.cyE (ByteArray.mk #[(99 : UInt8)]) (List.length (S.crL nl fun j => tl (j + al)))
 (fun j => S.at' (S.crL nl fun j => tl (j + al)) j)
 ((1 : Int) + Int.tmod rp (3 : Int)) (S.crF fi (S.crL nl fun j => tl (j + al)))))
 (S.erB
 (fun j =>
 Prod.fst
 (S.at'
 (S.mkl (S.mdN np) fun j =>
 S.mdR np (fun j => tp (j + ap)) (fun j => vp (j + ap)) j)
 j))
 (fun j =>
 Prod.fst
 (Prod.snd
 (S.at'
 (S.mkl (S.mdN np) fun j =>
 S.mdR np (fun j => tp (j + ap)) (fun j => vp (j + ap)) j)
 j)))
 (List.length
 (S.stpL (List.length (S.crL nl fun j => tl (j + al)))
 (fun j => S.at' (S.crL nl fun j => tl (j + al)) j)
 ((1 : Int) + Int.tmod rp (3 : Int)) (S.crF fi (S.crL nl fun j => tl (j + al)))))
 (fun j =>
 S.at'
 (S.stpL (List.length (S.crL nl fun j => tl (j + al)))
 (fun j => S.at' (S.crL nl fun j => tl (j + al)) j)
 ((1 : Int) + Int.tmod rp (3 : Int)) (S.crF fi (S.crL nl fun j => tl (j + al))))
 j)
 (0)
 (List.length
 (S.mkl (S.mdN np) fun j =>
 S.mdR np (fun j => tp (j + ap)) (fun j => vp (j + ap)) j)))) ==
 (0 : Int))
 (Kret (PV.tf true) ([[(1, false, Blk.cols ml [Col.int IntKind.u8 tl]),
 (0, false, Blk.cols mp [Col.int IntKind.u8 tp, Col.int IntKind.u8 vp])]]) (14))
 (Kret (PV.tf false) ([[(1, false, Blk.cols ml [Col.int IntKind.u8 tl]),
 (0, false, Blk.cols mp [Col.int IntKind.u8 tp, Col.int IntKind.u8 vp])]]) (14)))))
 (False)))
 (False))
 (False))
 (False))))
 (test (true)
 (test (true)
 (Kret (PV.tf true) ([[(1, false, Blk.cols ml [Col.int IntKind.u8 tl]),
 (0, false, Blk.cols mp [Col.int IntKind.u8 tp, Col.int IntKind.u8 vp])]]) (6))
 (Kret (PV.tf false) ([[(1, false, Blk.cols ml [Col.int IntKind.u8 tl]),
 (0, false, Blk.cols mp [Col.int IntKind.u8 tp, Col.int IntKind.u8 vp])]]) (6)))
 (False)))
 (False)
theorem te107 (test : Bool → Prop → Prop → Prop) (Kst : KS) (Kret : KR) (ap np mp : Nat) (tp : Nat → Int) (vp : Nat → Int) (o : Int) (al nl ml : Nat) (tl : Nat → Int) (rp : Int) (fi : Int) (os : Int) : run test Try.env true (xC7 test) true 400 ⟨7, [.cd (mkFn Try.f7).body], argT 0 [.agg [.loose ⟨0, 2, ap, 0⟩ np, .int .u32 o], .agg [.loose ⟨1, 1, al, 0⟩ nl, .int .u8 rp, .int .u8 fi], .int .u64 os], [[], [(0, (false, .cols mp [.int .u8 tp, .int .u8 vp])), (1, (false, .cols ml [.int .u8 tl]))]], 2⟩ (proj 2 [2, 7, 8, 11, 57, 58] Kst Kret) =
  Te107 test Kst Kret ap np mp tp vp o al nl ml tl rp fi os := by kernel_rfl
noncomputable def T107_0 (test : Bool → Prop → Prop → Prop) (Kst : KS) (Kret : KR) (ap np mp : Nat) (tp : Nat → Int) (vp : Nat → Int) (o : Int) (al nl ml : Nat) (tl : Nat → Int) (rp : Int) (fi : Int) (os : Int) (x0 : Int) (x1 : List (Int × Int × Int)) (x2 : List Bool) (x3 : List Int) (x4 : List Bool) : Prop :=
  test (decide
 (x0 <
 (↑(List.length
 (S.mkl (S.mdN np) fun j =>
 S.mdR np (fun j => tp (j + ap)) (fun j => vp (j + ap)) j)) :
 Int)))
 (test (false)
 (False)
 (test (decide (Int.tmod x0 (64 : Int) < (0 : Int)))
 (False)
 (test (S.andB IntKind.u64 (S.shrB IntKind.u64 os (Int.tmod x0 (64 : Int))) (1 : Int) == (1 : Int))
 (test (decide (List.length x4 + 1 ≤ 1000000))
 (test (decide (List.length x4 ≤ List.length x4))
 (test (true)
 (test (lim IntKind.i64 (x0 + (1 : Int)))
 (Kst (hd Try.f7 0) ([PV.int IntKind.u64 os, PV.ptr (PA.mk (2) (0) (0) (0)),
 PV.ptr (PA.mk (5) (0) (0) (0)),
 PV.ptr (PA.mk (7) (0) (0) (0)),
 PV.int IntKind.i64
 (↑(List.length
 (S.mkl (S.mdN np) fun j =>
 S.mdR np (fun j => tp (j + ap)) (fun j => vp (j + ap)) j)) :
 Int),
 PV.int IntKind.i64 (x0 + (1 : Int))]) ([[(1, false, Blk.cols ml [Col.int IntKind.u8 tl]),
 (0, false, Blk.cols mp [Col.int IntKind.u8 tp, Col.int IntKind.u8 vp]),
 (7, true,
 Blk.cells
 [PV.own (3) (3) (List.length x1),
 PV.own (10) (1) (List.length x4 + 1)]),
 (5, true,
 Blk.cells
 [PV.str (ByteArray.mk #[(99 : UInt8)]), PV.own (6) (1) (List.length x3),
 PV.int IntKind.i64 ((1 : Int) + Int.tmod rp (3 : Int)),
 PV.int IntKind.i64 (S.crF fi (S.crL nl fun j => tl (j + al)))]),
 (2, true,
 Blk.cells
 [PV.own (3) (3) (List.length x1), PV.own (4) (1) (List.length x2)]),
 (4, true, Blk.cols (List.length x2) [Col.bool fun j => S.at' x2 j]),
 (3, true,
 Blk.cols (List.length x1)
 [Col.int IntKind.i64 fun j => (S.at' x1 j).1,
 Col.int IntKind.i64 fun j => (S.at' x1 j).2.1,
 Col.int IntKind.i64 fun j => (S.at' x1 j).2.2]),
 (6, true,
 Blk.cols (List.length x3) [Col.int IntKind.i64 fun j => S.at' x3 j]),
 (10, true,
 Blk.cols (List.length x4 + 1)
 [Col.bool fun j => bif Nat.blt j (List.length x4) then S.at' x4 j else true])]]) (11))
 (False))
 (False))
 (False))
 (False))
 (test (decide (List.length x4 + 1 ≤ 1000000))
 (test (decide (List.length x4 ≤ List.length x4))
 (test (true)
 (test (lim IntKind.i64 (x0 + (1 : Int)))
 (Kst (hd Try.f7 0) ([PV.int IntKind.u64 os, PV.ptr (PA.mk (2) (0) (0) (0)),
 PV.ptr (PA.mk (5) (0) (0) (0)),
 PV.ptr (PA.mk (7) (0) (0) (0)),
 PV.int IntKind.i64
 (↑(List.length
 (S.mkl (S.mdN np) fun j =>
 S.mdR np (fun j => tp (j + ap)) (fun j => vp (j + ap)) j)) :
 Int),
 PV.int IntKind.i64 (x0 + (1 : Int))]) ([[(1, false, Blk.cols ml [Col.int IntKind.u8 tl]),
 (0, false, Blk.cols mp [Col.int IntKind.u8 tp, Col.int IntKind.u8 vp]),
 (7, true,
 Blk.cells
 [PV.own (3) (3) (List.length x1),
 PV.own (10) (1) (List.length x4 + 1)]),
 (5, true,
 Blk.cells
 [PV.str (ByteArray.mk #[(99 : UInt8)]), PV.own (6) (1) (List.length x3),
 PV.int IntKind.i64 ((1 : Int) + Int.tmod rp (3 : Int)),
 PV.int IntKind.i64 (S.crF fi (S.crL nl fun j => tl (j + al)))]),
 (2, true,
 Blk.cells
 [PV.own (3) (3) (List.length x1), PV.own (4) (1) (List.length x2)]),
 (4, true, Blk.cols (List.length x2) [Col.bool fun j => S.at' x2 j]),
 (3, true,
 Blk.cols (List.length x1)
 [Col.int IntKind.i64 fun j => (S.at' x1 j).1,
 Col.int IntKind.i64 fun j => (S.at' x1 j).2.1,
 Col.int IntKind.i64 fun j => (S.at' x1 j).2.2]),
 (6, true,
 Blk.cols (List.length x3) [Col.int IntKind.i64 fun j => S.at' x3 j]),
 (10, true,
 Blk.cols (List.length x4 + 1)
 [Col.bool fun j => bif Nat.blt j (List.length x4) then S.at' x4 j else false])]]) (11))
 (False))
 (False))
 (False))
 (False)))))
 (test (decide
 ((0 + List.length x1 ≤ List.length x1 ∧ List.length x1 ≤ 1000000) ∧
 (0 + List.length x2 ≤ List.length x2 ∧ List.length x2 ≤ 1000000) ∧
 (0 + List.length x3 ≤ List.length x3 ∧ List.length x3 ≤ 1000000) ∧
 0 ≤ 0 ∧ 0 ≤ 1000000))
 (test (decide
 ((0 + List.length x1 ≤ List.length x1 ∧ List.length x1 ≤ 1000000) ∧
 (0 + List.length x4 ≤ List.length x4 ∧ List.length x4 ≤ 1000000) ∧
 (0 + List.length x3 ≤ List.length x3 ∧ List.length x3 ≤ 1000000) ∧
 0 ≤ 0 ∧ 0 ≤ 1000000))
 (test (Prod.snd
 (S.faS
 (S.botE
 (S.magE (List.length x1) (fun j => (S.at' x1 j).1)
 (fun j => (S.at' x1 j).2.1)
 (fun j => (S.at' x1 j).2.2) (List.length x2))
 (S.cyE (ByteArray.mk #[(99 : UInt8)]) (List.length x3) (fun j => S.at' x3 j)
 ((1 : Int) + Int.tmod rp (3 : Int)) (S.crF fi (S.crL nl fun j => tl (j + al)))))
 (0 : Int)
 (S.erB (fun j => (S.at' x1 j).1)
 (fun j => (S.at' x1 j).2.1)
 (List.length
 (S.stpL (List.length x3) (fun j => S.at' x3 j) ((1 : Int) + Int.tmod rp (3 : Int))
 (S.crF fi (S.crL nl fun j => tl (j + al)))))
 (fun j =>
 S.at'
 (S.stpL (List.length x3) (fun j => S.at' x3 j) ((1 : Int) + Int.tmod rp (3 : Int))
 (S.crF fi (S.crL nl fun j => tl (j + al))))
 j)
 (0) (List.length x1))
 (S.fldH (List.length x1) (fun j => (S.at' x1 j).1)
 (fun j => (S.at' x1 j).2.1)
 (fun j => (S.at' x1 j).2.2) (fun j => S.at' x2 j)
 (List.length
 (S.stpL (List.length x3) (fun j => S.at' x3 j) ((1 : Int) + Int.tmod rp (3 : Int))
 (S.crF fi (S.crL nl fun j => tl (j + al)))))
 fun j =>
 bif
 Nat.blt j
 (List.length
 (S.stpL (List.length x3) (fun j => S.at' x3 j) ((1 : Int) + Int.tmod rp (3 : Int))
 (S.crF fi (S.crL nl fun j => tl (j + al))))) then
 S.at'
 (S.stpL (List.length x3) (fun j => S.at' x3 j) ((1 : Int) + Int.tmod rp (3 : Int))
 (S.crF fi (S.crL nl fun j => tl (j + al))))
 j
 else (0 : Int))) ==
 (0 : Int))
 (test (Prod.snd
 (S.faS
 (S.botE
 (S.magE (List.length x1) (fun j => (S.at' x1 j).1)
 (fun j => (S.at' x1 j).2.1)
 (fun j => (S.at' x1 j).2.2) (List.length x4))
 (S.cyE (ByteArray.mk #[(99 : UInt8)]) (List.length x3) (fun j => S.at' x3 j)
 ((1 : Int) + Int.tmod rp (3 : Int)) (S.crF fi (S.crL nl fun j => tl (j + al)))))
 (0 : Int)
 (S.erB (fun j => (S.at' x1 j).1)
 (fun j => (S.at' x1 j).2.1)
 (List.length
 (S.stpL (List.length x3) (fun j => S.at' x3 j) ((1 : Int) + Int.tmod rp (3 : Int))
 (S.crF fi (S.crL nl fun j => tl (j + al)))))
 (fun j =>
 S.at'
 (S.stpL (List.length x3) (fun j => S.at' x3 j) ((1 : Int) + Int.tmod rp (3 : Int))
 (S.crF fi (S.crL nl fun j => tl (j + al))))
 j)
 (0) (List.length x1))
 (S.fldH (List.length x1) (fun j => (S.at' x1 j).1)
 (fun j => (S.at' x1 j).2.1)
 (fun j => (S.at' x1 j).2.2) (fun j => S.at' x4 j)
 (List.length
 (S.stpL (List.length x3) (fun j => S.at' x3 j) ((1 : Int) + Int.tmod rp (3 : Int))
 (S.crF fi (S.crL nl fun j => tl (j + al)))))
 fun j =>
 bif
 Nat.blt j
 (List.length
 (S.stpL (List.length x3) (fun j => S.at' x3 j) ((1 : Int) + Int.tmod rp (3 : Int))
 (S.crF fi (S.crL nl fun j => tl (j + al))))) then
 S.at'
 (S.stpL (List.length x3) (fun j => S.at' x3 j) ((1 : Int) + Int.tmod rp (3 : Int))
 (S.crF fi (S.crL nl fun j => tl (j + al))))
 j
 else (0 : Int))) ==
 (0 : Int))
 (test (Prod.fst
 (S.faS
 (S.botE
 (S.magE (List.length x1) (fun j => (S.at' x1 j).1)
 (fun j => (S.at' x1 j).2.1)
 (fun j => (S.at' x1 j).2.2) (List.length x2))
 (S.cyE (ByteArray.mk #[(99 : UInt8)]) (List.length x3) (fun j => S.at' x3 j)
 ((1 : Int) + Int.tmod rp (3 : Int)) (S.crF fi (S.crL nl fun j => tl (j + al)))))
 (0 : Int)
 (S.erB (fun j => (S.at' x1 j).1)
 (fun j => (S.at' x1 j).2.1)
 (List.length
 (S.stpL (List.length x3) (fun j => S.at' x3 j) ((1 : Int) + Int.tmod rp (3 : Int))
 (S.crF fi (S.crL nl fun j => tl (j + al)))))
 (fun j =>
 S.at'
 (S.stpL (List.length x3) (fun j => S.at' x3 j) ((1 : Int) + Int.tmod rp (3 : Int))
 (S.crF fi (S.crL nl fun j => tl (j + al))))
 j)
 (0) (List.length x1))
 (S.fldH (List.length x1) (fun j => (S.at' x1 j).1)
 (fun j => (S.at' x1 j).2.1)
 (fun j => (S.at' x1 j).2.2) (fun j => S.at' x2 j)
 (List.length
 (S.stpL (List.length x3) (fun j => S.at' x3 j) ((1 : Int) + Int.tmod rp (3 : Int))
 (S.crF fi (S.crL nl fun j => tl (j + al)))))
 fun j =>
 bif
 Nat.blt j
 (List.length
 (S.stpL (List.length x3) (fun j => S.at' x3 j) ((1 : Int) + Int.tmod rp (3 : Int))
 (S.crF fi (S.crL nl fun j => tl (j + al))))) then
 S.at'
 (S.stpL (List.length x3) (fun j => S.at' x3 j) ((1 : Int) + Int.tmod rp (3 : Int))
 (S.crF fi (S.crL nl fun j => tl (j + al))))
 j
 else (0 : Int))) ==
 Prod.fst
 (S.faS
 (S.botE
 (S.magE (List.length x1) (fun j => (S.at' x1 j).1)
 (fun j => (S.at' x1 j).2.1)
 (fun j => (S.at' x1 j).2.2) (List.length x4))
 (S.cyE (ByteArray.mk #[(99 : UInt8)]) (List.length x3) (fun j => S.at' x3 j)
 ((1 : Int) + Int.tmod rp (3 : Int)) (S.crF fi (S.crL nl fun j => tl (j + al)))))
 (0 : Int)
 (S.erB (fun j => (S.at' x1 j).1)
 (fun j => (S.at' x1 j).2.1)
 (List.length
 (S.stpL (List.length x3) (fun j => S.at' x3 j) ((1 : Int) + Int.tmod rp (3 : Int))
 (S.crF fi (S.crL nl fun j => tl (j + al)))))
 (fun j =>
 S.at'
 (S.stpL (List.length x3) (fun j => S.at' x3 j) ((1 : Int) + Int.tmod rp (3 : Int))
 (S.crF fi (S.crL nl fun j => tl (j + al))))
 j)
 (0) (List.length x1))
 (S.fldH (List.length x1) (fun j => (S.at' x1 j).1)
 (fun j => (S.at' x1 j).2.1)
 (fun j => (S.at' x1 j).2.2) (fun j => S.at' x4 j)
 (List.length
 (S.stpL (List.length x3) (fun j => S.at' x3 j) ((1 : Int) + Int.tmod rp (3 : Int))
 (S.crF fi (S.crL nl fun j => tl (j + al)))))
 fun j =>
 bif
 Nat.blt j
 (List.length
 (S.stpL (List.length x3) (fun j => S.at' x3 j) ((1 : Int) + Int.tmod rp (3 : Int))
 (S.crF fi (S.crL nl fun j => tl (j + al))))) then
 S.at'
 (S.stpL (List.length x3) (fun j => S.at' x3 j) ((1 : Int) + Int.tmod rp (3 : Int))
 (S.crF fi (S.crL nl fun j => tl (j + al))))
 j
 else (0 : Int))))
 (Kret (PV.tf true) ([[(1, false, Blk.cols ml [Col.int IntKind.u8 tl]),
 (0, false, Blk.cols mp [Col.int IntKind.u8 tp, Col.int IntKind.u8 vp])]]) (11))
 (Kret (PV.tf false) ([[(1, false, Blk.cols ml [Col.int IntKind.u8 tl]),
 (0, false, Blk.cols mp [Col.int IntKind.u8 tp, Col.int IntKind.u8 vp])]]) (11)))
 (Kret (PV.tf false) ([[(1, false, Blk.cols ml [Col.int IntKind.u8 tl]),
 (0, false, Blk.cols mp [Col.int IntKind.u8 tp, Col.int IntKind.u8 vp])]]) (11)))
 (Kret (PV.tf false) ([[(1, false, Blk.cols ml [Col.int IntKind.u8 tl]),
 (0, false, Blk.cols mp [Col.int IntKind.u8 tp, Col.int IntKind.u8 vp])]]) (11)))
 (False))
 (False))
theorem t107_0 (test : Bool → Prop → Prop → Prop) (Kst : KS) (Kret : KR) (ap np mp : Nat) (tp : Nat → Int) (vp : Nat → Int) (o : Int) (al nl ml : Nat) (tl : Nat → Int) (rp : Int) (fi : Int) (os : Int) (x0 : Int) (x1 : List (Int × Int × Int)) (x2 : List Bool) (x3 : List Int) (x4 : List Bool) : run test Try.env true (xC7 test) true 400 ⟨7, hd Try.f7 0, zipT [2, 7, 8, 11, 57, 58] [PV.int IntKind.u64 os, PV.ptr (PA.mk (2) (0) (0) (0)),
 PV.ptr (PA.mk (5) (0) (0) (0)),
 PV.ptr (PA.mk (7) (0) (0) (0)),
 PV.int IntKind.i64
 (↑(List.length
 (S.mkl (S.mdN np) fun j =>
 S.mdR np (fun j => tp (j + ap)) (fun j => vp (j + ap)) j)) :
 Int),
 PV.int IntKind.i64 x0], [[(2, (true, Blk.cells
 [PV.own (3) (3) (List.length x1), PV.own (4) (1) (List.length x2)])), (3, (true, Blk.cols (List.length x1)
 [Col.int IntKind.i64 fun j => (S.at' x1 j).1,
 Col.int IntKind.i64 fun j => (S.at' x1 j).2.1,
 Col.int IntKind.i64 fun j => (S.at' x1 j).2.2])), (4, (true, Blk.cols (List.length x2) [Col.bool fun j => S.at' x2 j])), (5, (true, Blk.cells
 [PV.str (ByteArray.mk #[(99 : UInt8)]), PV.own (6) (1) (List.length x3),
 PV.int IntKind.i64 ((1 : Int) + Int.tmod rp (3 : Int)),
 PV.int IntKind.i64 (S.crF fi (S.crL nl fun j => tl (j + al)))])), (6, (true, Blk.cols (List.length x3) [Col.int IntKind.i64 fun j => S.at' x3 j])), (7, (true, Blk.cells
 [PV.own (3) (3) (List.length x1), PV.own (8) (1) (List.length x4)])), (8, (true, Blk.cols (List.length x4) [Col.bool fun j => S.at' x4 j]))], [(0, (false, .cols mp [.int .u8 tp, .int .u8 vp])), (1, (false, .cols ml [.int .u8 tl]))]], 9⟩ (proj 2 [2, 7, 8, 11, 57, 58] Kst Kret) =
  T107_0 test Kst Kret ap np mp tp vp o al nl ml tl rp fi os x0 x1 x2 x3 x4 := by kernel_rfl
theorem be107 (ap np mp : Nat) (tp : Nat → Int) (vp : Nat → Int) (o : Int) (al nl ml : Nat) (tl : Nat → Int) (rp : Int) (fi : Int) (os : Int) (Kst : KS) (Kret : KR) (x : St107 ⊕ Rt107) (hS : HS 2 400 ((I107 ap np mp tp vp o al nl ml tl rp fi os)) Kst x) (hR : HR 2 400 ((V107 ap np mp tp vp o al nl ml tl rp fi os)) (fun r => [newL (2 + 1) ((N107 ap np mp tp vp o al nl ml tl rp fi os) r) ++ [(0, (false, .cols mp [.int .u8 tp, .int .u8 vp])), (1, (false, .cols ml [.int .u8 tl]))]]) Kret x) (h : (bif (decide ((↑np : Int) > (60 : Int)))
 then (some (.inr (true)))
 else (bif (decide ((↑nl : Int) > (20 : Int)))
 then (some (.inr (true)))
 else (bif (decide
 (ap + np ≤ mp ∧
 (S.bytes np fun j => tp (j + ap)) = true ∧
 (S.bytes np fun j => vp (j + ap)) = true))
 then (bif (decide
 (al + nl ≤ ml ∧
 (S.bytes nl fun j => tl (j + al)) = true ∧
 ((0 : Int) ≤ rp ∧ rp ≤ (255 : Int)) ∧ (0 : Int) ≤ fi ∧ fi ≤ (255 : Int)))
 then (bif (decide
 (0 +
 List.length
 (S.mkl (S.mdN np) fun j =>
 S.mdR np (fun j => tp (j + ap)) (fun j => vp (j + ap)) j) ≤
 List.length
 (S.mkl (S.mdN np) fun j =>
 S.mdR np (fun j => tp (j + ap)) (fun j => vp (j + ap)) j) ∧
 List.length
 (S.mkl (S.mdN np) fun j =>
 S.mdR np (fun j => tp (j + ap)) (fun j => vp (j + ap)) j) ≤
 1000000))
 then (bif (S.magE
 (List.length
 (S.mkl (S.mdN np) fun j =>
 S.mdR np (fun j => tp (j + ap)) (fun j => vp (j + ap)) j))
 (fun j =>
 Prod.fst
 (S.at'
 (S.mkl (S.mdN np) fun j =>
 S.mdR np (fun j => tp (j + ap)) (fun j => vp (j + ap)) j)
 j))
 (fun j =>
 Prod.fst
 (Prod.snd
 (S.at'
 (S.mkl (S.mdN np) fun j =>
 S.mdR np (fun j => tp (j + ap)) (fun j => vp (j + ap)) j)
 j)))
 (fun j =>
 Prod.snd
 (Prod.snd
 (S.at'
 (S.mkl (S.mdN np) fun j =>
 S.mdR np (fun j => tp (j + ap)) (fun j => vp (j + ap)) j)
 j)))
 (List.length (S.mkl (S.mdN np) fun j => S.mdB o j)) !=
 (0 : Int))
 then (some (.inr (true)))
 else (bif (decide
 ((0 +
 List.length
 (S.mkl (S.mdN np) fun j =>
 S.mdR np (fun j => tp (j + ap)) (fun j => vp (j + ap)) j) ≤
 List.length
 (S.mkl (S.mdN np) fun j =>
 S.mdR np (fun j => tp (j + ap)) (fun j => vp (j + ap)) j) ∧
 List.length
 (S.mkl (S.mdN np) fun j =>
 S.mdR np (fun j => tp (j + ap)) (fun j => vp (j + ap)) j) ≤
 1000000) ∧
 (0 + List.length (S.mkl (S.mdN np) fun j => S.mdB o j) ≤
 List.length (S.mkl (S.mdN np) fun j => S.mdB o j) ∧
 List.length (S.mkl (S.mdN np) fun j => S.mdB o j) ≤ 1000000) ∧
 0 + List.length (S.crL nl fun j => tl (j + al)) ≤
 List.length (S.crL nl fun j => tl (j + al)) ∧
 List.length (S.crL nl fun j => tl (j + al)) ≤ 1000000))
 then (bif (Prod.fst
 (S.suiS
 (S.botE
 (S.magE
 (List.length
 (S.mkl (S.mdN np) fun j =>
 S.mdR np (fun j => tp (j + ap)) (fun j => vp (j + ap)) j))
 (fun j =>
 Prod.fst
 (S.at'
 (S.mkl (S.mdN np) fun j =>
 S.mdR np (fun j => tp (j + ap)) (fun j => vp (j + ap)) j)
 j))
 (fun j =>
 Prod.fst
 (Prod.snd
 (S.at'
 (S.mkl (S.mdN np) fun j =>
 S.mdR np (fun j => tp (j + ap)) (fun j => vp (j + ap)) j)
 j)))
 (fun j =>
 Prod.snd
 (Prod.snd
 (S.at'
 (S.mkl (S.mdN np) fun j =>
 S.mdR np (fun j => tp (j + ap)) (fun j => vp (j + ap)) j)
 j)))
 (List.length (S.mkl (S.mdN np) fun j => S.mdB o j)))
 (S.cyE (ByteArray.mk #[(99 : UInt8)]) (List.length (S.crL nl fun j => tl (j + al)))
 (fun j => S.at' (S.crL nl fun j => tl (j + al)) j)
 ((1 : Int) + Int.tmod rp (3 : Int)) (S.crF fi (S.crL nl fun j => tl (j + al)))))
 (S.erB
 (fun j =>
 Prod.fst
 (S.at'
 (S.mkl (S.mdN np) fun j =>
 S.mdR np (fun j => tp (j + ap)) (fun j => vp (j + ap)) j)
 j))
 (fun j =>
 Prod.fst
 (Prod.snd
 (S.at'
 (S.mkl (S.mdN np) fun j =>
 S.mdR np (fun j => tp (j + ap)) (fun j => vp (j + ap)) j)
 j)))
 (List.length
 (S.stpL (List.length (S.crL nl fun j => tl (j + al)))
 (fun j => S.at' (S.crL nl fun j => tl (j + al)) j)
 ((1 : Int) + Int.tmod rp (3 : Int)) (S.crF fi (S.crL nl fun j => tl (j + al)))))
 (fun j =>
 S.at'
 (S.stpL (List.length (S.crL nl fun j => tl (j + al)))
 (fun j => S.at' (S.crL nl fun j => tl (j + al)) j)
 ((1 : Int) + Int.tmod rp (3 : Int)) (S.crF fi (S.crL nl fun j => tl (j + al))))
 j)
 (0)
 (List.length
 (S.mkl (S.mdN np) fun j =>
 S.mdR np (fun j => tp (j + ap)) (fun j => vp (j + ap)) j)))))
 then (bif (Prod.snd
 (S.suiS
 (S.botE
 (S.magE
 (List.length
 (S.mkl (S.mdN np) fun j =>
 S.mdR np (fun j => tp (j + ap)) (fun j => vp (j + ap)) j))
 (fun j =>
 Prod.fst
 (S.at'
 (S.mkl (S.mdN np) fun j =>
 S.mdR np (fun j => tp (j + ap)) (fun j => vp (j + ap)) j)
 j))
 (fun j =>
 Prod.fst
 (Prod.snd
 (S.at'
 (S.mkl (S.mdN np) fun j =>
 S.mdR np (fun j => tp (j + ap)) (fun j => vp (j + ap)) j)
 j)))
 (fun j =>
 Prod.snd
 (Prod.snd
 (S.at'
 (S.mkl (S.mdN np) fun j =>
 S.mdR np (fun j => tp (j + ap)) (fun j => vp (j + ap)) j)
 j)))
 (List.length (S.mkl (S.mdN np) fun j => S.mdB o j)))
 (S.cyE (ByteArray.mk #[(99 : UInt8)]) (List.length (S.crL nl fun j => tl (j + al)))
 (fun j => S.at' (S.crL nl fun j => tl (j + al)) j)
 ((1 : Int) + Int.tmod rp (3 : Int)) (S.crF fi (S.crL nl fun j => tl (j + al)))))
 (S.erB
 (fun j =>
 Prod.fst
 (S.at'
 (S.mkl (S.mdN np) fun j =>
 S.mdR np (fun j => tp (j + ap)) (fun j => vp (j + ap)) j)
 j))
 (fun j =>
 Prod.fst
 (Prod.snd
 (S.at'
 (S.mkl (S.mdN np) fun j =>
 S.mdR np (fun j => tp (j + ap)) (fun j => vp (j + ap)) j)
 j)))
 (List.length
 (S.stpL (List.length (S.crL nl fun j => tl (j + al)))
 (fun j => S.at' (S.crL nl fun j => tl (j + al)) j)
 ((1 : Int) + Int.tmod rp (3 : Int)) (S.crF fi (S.crL nl fun j => tl (j + al)))))
 (fun j =>
 S.at'
 (S.stpL (List.length (S.crL nl fun j => tl (j + al)))
 (fun j => S.at' (S.crL nl fun j => tl (j + al)) j)
 ((1 : Int) + Int.tmod rp (3 : Int)) (S.crF fi (S.crL nl fun j => tl (j + al))))
 j)
 (0)
 (List.length
 (S.mkl (S.mdN np) fun j =>
 S.mdR np (fun j => tp (j + ap)) (fun j => vp (j + ap)) j)))) !=
 (0 : Int))
 then (bif (Prod.snd
 (S.suiS
 (S.botE
 (S.magE
 (List.length
 (S.mkl (S.mdN np) fun j =>
 S.mdR np (fun j => tp (j + ap)) (fun j => vp (j + ap)) j))
 (fun j =>
 Prod.fst
 (S.at'
 (S.mkl (S.mdN np) fun j =>
 S.mdR np (fun j => tp (j + ap)) (fun j => vp (j + ap)) j)
 j))
 (fun j =>
 Prod.fst
 (Prod.snd
 (S.at'
 (S.mkl (S.mdN np) fun j =>
 S.mdR np (fun j => tp (j + ap)) (fun j => vp (j + ap)) j)
 j)))
 (fun j =>
 Prod.snd
 (Prod.snd
 (S.at'
 (S.mkl (S.mdN np) fun j =>
 S.mdR np (fun j => tp (j + ap)) (fun j => vp (j + ap)) j)
 j)))
 (List.length (S.mkl (S.mdN np) fun j => S.mdB o j)))
 (S.cyE (ByteArray.mk #[(99 : UInt8)]) (List.length (S.crL nl fun j => tl (j + al)))
 (fun j => S.at' (S.crL nl fun j => tl (j + al)) j)
 ((1 : Int) + Int.tmod rp (3 : Int)) (S.crF fi (S.crL nl fun j => tl (j + al)))))
 (S.erB
 (fun j =>
 Prod.fst
 (S.at'
 (S.mkl (S.mdN np) fun j =>
 S.mdR np (fun j => tp (j + ap)) (fun j => vp (j + ap)) j)
 j))
 (fun j =>
 Prod.fst
 (Prod.snd
 (S.at'
 (S.mkl (S.mdN np) fun j =>
 S.mdR np (fun j => tp (j + ap)) (fun j => vp (j + ap)) j)
 j)))
 (List.length
 (S.stpL (List.length (S.crL nl fun j => tl (j + al)))
 (fun j => S.at' (S.crL nl fun j => tl (j + al)) j)
 ((1 : Int) + Int.tmod rp (3 : Int)) (S.crF fi (S.crL nl fun j => tl (j + al)))))
 (fun j =>
 S.at'
 (S.stpL (List.length (S.crL nl fun j => tl (j + al)))
 (fun j => S.at' (S.crL nl fun j => tl (j + al)) j)
 ((1 : Int) + Int.tmod rp (3 : Int)) (S.crF fi (S.crL nl fun j => tl (j + al))))
 j)
 (0)
 (List.length
 (S.mkl (S.mdN np) fun j =>
 S.mdR np (fun j => tp (j + ap)) (fun j => vp (j + ap)) j)))) ==
 (0 : Int))
 then (some (.inr (true)))
 else (some (.inr (false))))
 else (some (.inl (.h0 ((0 : Int)) (S.mkl (S.mdN np) fun j =>
 S.mdR np (fun j => tp (j + ap)) (fun j => vp (j + ap)) j) (S.mkl (S.mdN np) fun j => S.mdB o j) (S.crL nl fun j => tl (j + al)) ([])))))
 else (bif (Prod.snd
 (S.suiS
 (S.botE
 (S.magE
 (List.length
 (S.mkl (S.mdN np) fun j =>
 S.mdR np (fun j => tp (j + ap)) (fun j => vp (j + ap)) j))
 (fun j =>
 Prod.fst
 (S.at'
 (S.mkl (S.mdN np) fun j =>
 S.mdR np (fun j => tp (j + ap)) (fun j => vp (j + ap)) j)
 j))
 (fun j =>
 Prod.fst
 (Prod.snd
 (S.at'
 (S.mkl (S.mdN np) fun j =>
 S.mdR np (fun j => tp (j + ap)) (fun j => vp (j + ap)) j)
 j)))
 (fun j =>
 Prod.snd
 (Prod.snd
 (S.at'
 (S.mkl (S.mdN np) fun j =>
 S.mdR np (fun j => tp (j + ap)) (fun j => vp (j + ap)) j)
 j)))
 (List.length (S.mkl (S.mdN np) fun j => S.mdB o j)))
 (S.cyE (ByteArray.mk #[(99 : UInt8)]) (List.length (S.crL nl fun j => tl (j + al)))
 (fun j => S.at' (S.crL nl fun j => tl (j + al)) j)
 ((1 : Int) + Int.tmod rp (3 : Int)) (S.crF fi (S.crL nl fun j => tl (j + al)))))
 (S.erB
 (fun j =>
 Prod.fst
 (S.at'
 (S.mkl (S.mdN np) fun j =>
 S.mdR np (fun j => tp (j + ap)) (fun j => vp (j + ap)) j)
 j))
 (fun j =>
 Prod.fst
 (Prod.snd
 (S.at'
 (S.mkl (S.mdN np) fun j =>
 S.mdR np (fun j => tp (j + ap)) (fun j => vp (j + ap)) j)
 j)))
 (List.length
 (S.stpL (List.length (S.crL nl fun j => tl (j + al)))
 (fun j => S.at' (S.crL nl fun j => tl (j + al)) j)
 ((1 : Int) + Int.tmod rp (3 : Int)) (S.crF fi (S.crL nl fun j => tl (j + al)))))
 (fun j =>
 S.at'
 (S.stpL (List.length (S.crL nl fun j => tl (j + al)))
 (fun j => S.at' (S.crL nl fun j => tl (j + al)) j)
 ((1 : Int) + Int.tmod rp (3 : Int)) (S.crF fi (S.crL nl fun j => tl (j + al))))
 j)
 (0)
 (List.length
 (S.mkl (S.mdN np) fun j =>
 S.mdR np (fun j => tp (j + ap)) (fun j => vp (j + ap)) j)))) !=
 (0 : Int))
 then (bif (Prod.snd
 (S.suiS
 (S.botE
 (S.magE
 (List.length
 (S.mkl (S.mdN np) fun j =>
 S.mdR np (fun j => tp (j + ap)) (fun j => vp (j + ap)) j))
 (fun j =>
 Prod.fst
 (S.at'
 (S.mkl (S.mdN np) fun j =>
 S.mdR np (fun j => tp (j + ap)) (fun j => vp (j + ap)) j)
 j))
 (fun j =>
 Prod.fst
 (Prod.snd
 (S.at'
 (S.mkl (S.mdN np) fun j =>
 S.mdR np (fun j => tp (j + ap)) (fun j => vp (j + ap)) j)
 j)))
 (fun j =>
 Prod.snd
 (Prod.snd
 (S.at'
 (S.mkl (S.mdN np) fun j =>
 S.mdR np (fun j => tp (j + ap)) (fun j => vp (j + ap)) j)
 j)))
 (List.length (S.mkl (S.mdN np) fun j => S.mdB o j)))
 (S.cyE (ByteArray.mk #[(99 : UInt8)]) (List.length (S.crL nl fun j => tl (j + al)))
 (fun j => S.at' (S.crL nl fun j => tl (j + al)) j)
 ((1 : Int) + Int.tmod rp (3 : Int)) (S.crF fi (S.crL nl fun j => tl (j + al)))))
 (S.erB
 (fun j =>
 Prod.fst
 (S.at'
 (S.mkl (S.mdN np) fun j =>
 S.mdR np (fun j => tp (j + ap)) (fun j => vp (j + ap)) j)
 j))
 (fun j =>
 Prod.fst
 (Prod.snd
 (S.at'
 (S.mkl (S.mdN np) fun j =>
 S.mdR np (fun j => tp (j + ap)) (fun j => vp (j + ap)) j)
 j)))
 (List.length
 (S.stpL (List.length (S.crL nl fun j => tl (j + al)))
 (fun j => S.at' (S.crL nl fun j => tl (j + al)) j)
 ((1 : Int) + Int.tmod rp (3 : Int)) (S.crF fi (S.crL nl fun j => tl (j + al)))))
 (fun j =>
 S.at'
 (S.stpL (List.length (S.crL nl fun j => tl (j + al)))
 (fun j => S.at' (S.crL nl fun j => tl (j + al)) j)
 ((1 : Int) + Int.tmod rp (3 : Int)) (S.crF fi (S.crL nl fun j => tl (j + al))))
 j)
 (0)
 (List.length
 (S.mkl (S.mdN np) fun j =>
 S.mdR np (fun j => tp (j + ap)) (fun j => vp (j + ap)) j)))) ==
 (0 : Int))
 then (some (.inr (true)))
 else (some (.inr (false))))
 else (bif (Prod.snd
 (S.suiS
 (S.botE
 (S.magE
 (List.length
 (S.mkl (S.mdN np) fun j =>
 S.mdR np (fun j => tp (j + ap)) (fun j => vp (j + ap)) j))
 (fun j =>
 Prod.fst
 (S.at'
 (S.mkl (S.mdN np) fun j =>
 S.mdR np (fun j => tp (j + ap)) (fun j => vp (j + ap)) j)
 j))
 (fun j =>
 Prod.fst
 (Prod.snd
 (S.at'
 (S.mkl (S.mdN np) fun j =>
 S.mdR np (fun j => tp (j + ap)) (fun j => vp (j + ap)) j)
 j)))
 (fun j =>
 Prod.snd
 (Prod.snd
 (S.at'
 (S.mkl (S.mdN np) fun j =>
 S.mdR np (fun j => tp (j + ap)) (fun j => vp (j + ap)) j)
 j)))
 (List.length (S.mkl (S.mdN np) fun j => S.mdB o j)))
 (S.cyE (ByteArray.mk #[(99 : UInt8)]) (List.length (S.crL nl fun j => tl (j + al)))
 (fun j => S.at' (S.crL nl fun j => tl (j + al)) j)
 ((1 : Int) + Int.tmod rp (3 : Int)) (S.crF fi (S.crL nl fun j => tl (j + al)))))
 (S.erB
 (fun j =>
 Prod.fst
 (S.at'
 (S.mkl (S.mdN np) fun j =>
 S.mdR np (fun j => tp (j + ap)) (fun j => vp (j + ap)) j)
 j))
 (fun j =>
 Prod.fst
 (Prod.snd
 (S.at'
 (S.mkl (S.mdN np) fun j =>
 S.mdR np (fun j => tp (j + ap)) (fun j => vp (j + ap)) j)
 j)))
 (List.length
 (S.stpL (List.length (S.crL nl fun j => tl (j + al)))
 (fun j => S.at' (S.crL nl fun j => tl (j + al)) j)
 ((1 : Int) + Int.tmod rp (3 : Int)) (S.crF fi (S.crL nl fun j => tl (j + al)))))
 (fun j =>
 S.at'
 (S.stpL (List.length (S.crL nl fun j => tl (j + al)))
 (fun j => S.at' (S.crL nl fun j => tl (j + al)) j)
 ((1 : Int) + Int.tmod rp (3 : Int)) (S.crF fi (S.crL nl fun j => tl (j + al))))
 j)
 (0)
 (List.length
 (S.mkl (S.mdN np) fun j =>
 S.mdR np (fun j => tp (j + ap)) (fun j => vp (j + ap)) j)))) ==
 (0 : Int))
 then (some (.inr (true)))
 else (some (.inr (false))))))
 else (none)))
 else (none))
 else (none))
 else (none))) : Option (St107 ⊕ Rt107)) = some x) : Te107 cond Kst Kret ap np mp tp vp o al nl ml tl rp fi os := by
  unfold Te107
  exact cond_yes rfl (cond_yes rfl (bif_split h
   (fun c0 h => cond_yes rfl (cond_yes rfl (ret_at hR _ h (fun n => n) rfl rfl rfl (rn_bool_tf rfl) rfl (entl_bor (use_lo rfl) rfl rfl (entl_bor (use_lo rfl) rfl rfl entl_nil)))))
   (fun c0 h => bif_split h
   (fun c1 h => cond_yes rfl (cond_yes rfl (ret_at hR _ h (fun n => n) rfl rfl rfl (rn_bool_tf rfl) rfl (entl_bor (use_lo rfl) rfl rfl (entl_bor (use_lo rfl) rfl rfl entl_nil)))))
   (fun c1 h => bif_split h
   (fun c2 h => bif_split h
   (fun c3 h => bif_split h
   (fun c4 h => bif_split h
   (fun c5 h => ret_at hR _ h (fun n => n) rfl rfl rfl (rn_bool_tf rfl) rfl (entl_bor (use_lo rfl) rfl rfl (entl_bor (use_lo rfl) rfl rfl entl_nil)))
   (fun c5 h => bif_split h
   (fun c6 h => bif_split h
   (fun c7 h => bif_split h
   (fun c8 h => bif_split h
   (fun c9 h => ret_at hR _ h (fun n => n) rfl rfl rfl (rn_bool_tf rfl) rfl (entl_bor (use_lo rfl) rfl rfl (entl_bor (use_lo rfl) rfl rfl entl_nil)))
   (fun c9 h => ret_at hR _ h (fun n => n) rfl rfl rfl (rn_bool_tf rfl) rfl (entl_bor (use_lo rfl) rfl rfl (entl_bor (use_lo rfl) rfl rfl entl_nil))))
   (fun c8 h => stop_at hS _ h (fun n => bif Nat.beq n 2 then 10 else bif Nat.beq n 3 then 6 else bif Nat.beq n 4 then 7 else bif Nat.beq n 5 then 11 else bif Nat.beq n 6 then 9 else bif Nat.beq n 7 then 14 else bif Nat.beq n 8 then 399 else n) rfl rfl rfl ⟨(rn_int rfl), ⟨(rn_ptr (use_own rfl) rfl rfl), ⟨(rn_ptr (use_own rfl) rfl rfl), ⟨(rn_ptr (use_own rfl) rfl rfl), ⟨(rn_int rfl), ⟨(rn_int rfl), trivial⟩⟩⟩⟩⟩⟩ rfl (entl_b (use_own rfl) rfl (by simp) (rb_cells ⟨(rn_own (use_own rfl) rfl rfl), (rn_own (use_own rfl) rfl rfl), trivial⟩) (entl_new (use_own rfl) rfl (Nat.le_of_eq rfl) (rcs_int (fun _ _ => rfl) (rcs_int (fun _ _ => rfl) (rcs_int (fun _ _ => rfl) rcs_nil))) (entl_new (use_own rfl) rfl (Nat.le_of_eq rfl) (rcs_bool (fun _ _ => rfl) rcs_nil) (entl_b (use_own rfl) rfl (by simp) (rb_cells ⟨(rn_str rfl), (rn_own (use_own rfl) rfl rfl), (rn_int rfl), (rn_int rfl), trivial⟩) (entl_new (use_own rfl) rfl (Nat.le_of_eq rfl) (rcs_int (fun _ _ => rfl) rcs_nil) (entl_b (use_own rfl) rfl (by simp) (rb_cells ⟨(rn_own (use_own rfl) rfl rfl), (rn_own_nils rfl), trivial⟩) (entl_fresh (use_own rfl) (fresh_ok rfl) (entl_bor (use_lo rfl) rfl rfl (entl_bor (use_lo rfl) rfl rfl entl_nil)))))))))))
   (fun c7 h => bif_split h
   (fun c8 h => bif_split h
   (fun c9 h => ret_at hR _ h (fun n => n) rfl rfl rfl (rn_bool_tf rfl) rfl (entl_bor (use_lo rfl) rfl rfl (entl_bor (use_lo rfl) rfl rfl entl_nil)))
   (fun c9 h => ret_at hR _ h (fun n => n) rfl rfl rfl (rn_bool_tf rfl) rfl (entl_bor (use_lo rfl) rfl rfl (entl_bor (use_lo rfl) rfl rfl entl_nil))))
   (fun c8 h => bif_split h
   (fun c9 h => ret_at hR _ h (fun n => n) rfl rfl rfl (rn_bool_tf rfl) rfl (entl_bor (use_lo rfl) rfl rfl (entl_bor (use_lo rfl) rfl rfl entl_nil)))
   (fun c9 h => ret_at hR _ h (fun n => n) rfl rfl rfl (rn_bool_tf rfl) rfl (entl_bor (use_lo rfl) rfl rfl (entl_bor (use_lo rfl) rfl rfl entl_nil))))))
   (fun c6 h => no_some h)))
   (fun c4 h => no_some h))
   (fun c3 h => no_some h))
   (fun c2 h => no_some h)))))
theorem b107_0 (ap np mp : Nat) (tp : Nat → Int) (vp : Nat → Int) (o : Int) (al nl ml : Nat) (tl : Nat → Int) (rp : Int) (fi : Int) (os : Int) (Kst : KS) (Kret : KR) (x : St107 ⊕ Rt107) (hS : HS 2 400 ((I107 ap np mp tp vp o al nl ml tl rp fi os)) Kst x) (hR : HR 2 400 ((V107 ap np mp tp vp o al nl ml tl rp fi os)) (fun r => [newL (2 + 1) ((N107 ap np mp tp vp o al nl ml tl rp fi os) r) ++ [(0, (false, .cols mp [.int .u8 tp, .int .u8 vp])), (1, (false, .cols ml [.int .u8 tl]))]]) Kret x) (x0 : Int) (x1 : List (Int × Int × Int)) (x2 : List Bool) (x3 : List Int) (x4 : List Bool) (h : (bif (decide
 (x0 <
 (↑(List.length
 (S.mkl (S.mdN np) fun j =>
 S.mdR np (fun j => tp (j + ap)) (fun j => vp (j + ap)) j)) :
 Int)))
 then (bif (decide (Int.tmod x0 (64 : Int) < (0 : Int)))
 then (none)
 else (bif (S.andB IntKind.u64 (S.shrB IntKind.u64 os (Int.tmod x0 (64 : Int))) (1 : Int) == (1 : Int))
 then (bif (decide (List.length x4 + 1 ≤ 1000000))
 then (bif (decide (List.length x4 ≤ List.length x4))
 then (bif (lim IntKind.i64 (x0 + (1 : Int)))
 then (some (.inl (.h0 (x0 + (1 : Int)) (x1) (x2) (x3) (S.snoc x4 true))))
 else (none))
 else (none))
 else (none))
 else (bif (decide (List.length x4 + 1 ≤ 1000000))
 then (bif (decide (List.length x4 ≤ List.length x4))
 then (bif (lim IntKind.i64 (x0 + (1 : Int)))
 then (some (.inl (.h0 (x0 + (1 : Int)) (x1) (x2) (x3) (S.snoc x4 false))))
 else (none))
 else (none))
 else (none))))
 else (bif (decide
 ((0 + List.length x1 ≤ List.length x1 ∧ List.length x1 ≤ 1000000) ∧
 (0 + List.length x2 ≤ List.length x2 ∧ List.length x2 ≤ 1000000) ∧
 (0 + List.length x3 ≤ List.length x3 ∧ List.length x3 ≤ 1000000) ∧
 0 ≤ 0 ∧ 0 ≤ 1000000))
 then (bif (decide
 ((0 + List.length x1 ≤ List.length x1 ∧ List.length x1 ≤ 1000000) ∧
 (0 + List.length x4 ≤ List.length x4 ∧ List.length x4 ≤ 1000000) ∧
 (0 + List.length x3 ≤ List.length x3 ∧ List.length x3 ≤ 1000000) ∧
 0 ≤ 0 ∧ 0 ≤ 1000000))
 then (bif (Prod.snd
 (S.faS
 (S.botE
 (S.magE (List.length x1) (fun j => (S.at' x1 j).1)
 (fun j => (S.at' x1 j).2.1)
 (fun j => (S.at' x1 j).2.2) (List.length x2))
 (S.cyE (ByteArray.mk #[(99 : UInt8)]) (List.length x3) (fun j => S.at' x3 j)
 ((1 : Int) + Int.tmod rp (3 : Int)) (S.crF fi (S.crL nl fun j => tl (j + al)))))
 (0 : Int)
 (S.erB (fun j => (S.at' x1 j).1)
 (fun j => (S.at' x1 j).2.1)
 (List.length
 (S.stpL (List.length x3) (fun j => S.at' x3 j) ((1 : Int) + Int.tmod rp (3 : Int))
 (S.crF fi (S.crL nl fun j => tl (j + al)))))
 (fun j =>
 S.at'
 (S.stpL (List.length x3) (fun j => S.at' x3 j) ((1 : Int) + Int.tmod rp (3 : Int))
 (S.crF fi (S.crL nl fun j => tl (j + al))))
 j)
 (0) (List.length x1))
 (S.fldH (List.length x1) (fun j => (S.at' x1 j).1)
 (fun j => (S.at' x1 j).2.1)
 (fun j => (S.at' x1 j).2.2) (fun j => S.at' x2 j)
 (List.length
 (S.stpL (List.length x3) (fun j => S.at' x3 j) ((1 : Int) + Int.tmod rp (3 : Int))
 (S.crF fi (S.crL nl fun j => tl (j + al)))))
 fun j =>
 bif
 Nat.blt j
 (List.length
 (S.stpL (List.length x3) (fun j => S.at' x3 j) ((1 : Int) + Int.tmod rp (3 : Int))
 (S.crF fi (S.crL nl fun j => tl (j + al))))) then
 S.at'
 (S.stpL (List.length x3) (fun j => S.at' x3 j) ((1 : Int) + Int.tmod rp (3 : Int))
 (S.crF fi (S.crL nl fun j => tl (j + al))))
 j
 else (0 : Int))) ==
 (0 : Int))
 then (bif (Prod.snd
 (S.faS
 (S.botE
 (S.magE (List.length x1) (fun j => (S.at' x1 j).1)
 (fun j => (S.at' x1 j).2.1)
 (fun j => (S.at' x1 j).2.2) (List.length x4))
 (S.cyE (ByteArray.mk #[(99 : UInt8)]) (List.length x3) (fun j => S.at' x3 j)
 ((1 : Int) + Int.tmod rp (3 : Int)) (S.crF fi (S.crL nl fun j => tl (j + al)))))
 (0 : Int)
 (S.erB (fun j => (S.at' x1 j).1)
 (fun j => (S.at' x1 j).2.1)
 (List.length
 (S.stpL (List.length x3) (fun j => S.at' x3 j) ((1 : Int) + Int.tmod rp (3 : Int))
 (S.crF fi (S.crL nl fun j => tl (j + al)))))
 (fun j =>
 S.at'
 (S.stpL (List.length x3) (fun j => S.at' x3 j) ((1 : Int) + Int.tmod rp (3 : Int))
 (S.crF fi (S.crL nl fun j => tl (j + al))))
 j)
 (0) (List.length x1))
 (S.fldH (List.length x1) (fun j => (S.at' x1 j).1)
 (fun j => (S.at' x1 j).2.1)
 (fun j => (S.at' x1 j).2.2) (fun j => S.at' x4 j)
 (List.length
 (S.stpL (List.length x3) (fun j => S.at' x3 j) ((1 : Int) + Int.tmod rp (3 : Int))
 (S.crF fi (S.crL nl fun j => tl (j + al)))))
 fun j =>
 bif
 Nat.blt j
 (List.length
 (S.stpL (List.length x3) (fun j => S.at' x3 j) ((1 : Int) + Int.tmod rp (3 : Int))
 (S.crF fi (S.crL nl fun j => tl (j + al))))) then
 S.at'
 (S.stpL (List.length x3) (fun j => S.at' x3 j) ((1 : Int) + Int.tmod rp (3 : Int))
 (S.crF fi (S.crL nl fun j => tl (j + al))))
 j
 else (0 : Int))) ==
 (0 : Int))
 then (bif (Prod.fst
 (S.faS
 (S.botE
 (S.magE (List.length x1) (fun j => (S.at' x1 j).1)
 (fun j => (S.at' x1 j).2.1)
 (fun j => (S.at' x1 j).2.2) (List.length x2))
 (S.cyE (ByteArray.mk #[(99 : UInt8)]) (List.length x3) (fun j => S.at' x3 j)
 ((1 : Int) + Int.tmod rp (3 : Int)) (S.crF fi (S.crL nl fun j => tl (j + al)))))
 (0 : Int)
 (S.erB (fun j => (S.at' x1 j).1)
 (fun j => (S.at' x1 j).2.1)
 (List.length
 (S.stpL (List.length x3) (fun j => S.at' x3 j) ((1 : Int) + Int.tmod rp (3 : Int))
 (S.crF fi (S.crL nl fun j => tl (j + al)))))
 (fun j =>
 S.at'
 (S.stpL (List.length x3) (fun j => S.at' x3 j) ((1 : Int) + Int.tmod rp (3 : Int))
 (S.crF fi (S.crL nl fun j => tl (j + al))))
 j)
 (0) (List.length x1))
 (S.fldH (List.length x1) (fun j => (S.at' x1 j).1)
 (fun j => (S.at' x1 j).2.1)
 (fun j => (S.at' x1 j).2.2) (fun j => S.at' x2 j)
 (List.length
 (S.stpL (List.length x3) (fun j => S.at' x3 j) ((1 : Int) + Int.tmod rp (3 : Int))
 (S.crF fi (S.crL nl fun j => tl (j + al)))))
 fun j =>
 bif
 Nat.blt j
 (List.length
 (S.stpL (List.length x3) (fun j => S.at' x3 j) ((1 : Int) + Int.tmod rp (3 : Int))
 (S.crF fi (S.crL nl fun j => tl (j + al))))) then
 S.at'
 (S.stpL (List.length x3) (fun j => S.at' x3 j) ((1 : Int) + Int.tmod rp (3 : Int))
 (S.crF fi (S.crL nl fun j => tl (j + al))))
 j
 else (0 : Int))) ==
 Prod.fst
 (S.faS
 (S.botE
 (S.magE (List.length x1) (fun j => (S.at' x1 j).1)
 (fun j => (S.at' x1 j).2.1)
 (fun j => (S.at' x1 j).2.2) (List.length x4))
 (S.cyE (ByteArray.mk #[(99 : UInt8)]) (List.length x3) (fun j => S.at' x3 j)
 ((1 : Int) + Int.tmod rp (3 : Int)) (S.crF fi (S.crL nl fun j => tl (j + al)))))
 (0 : Int)
 (S.erB (fun j => (S.at' x1 j).1)
 (fun j => (S.at' x1 j).2.1)
 (List.length
 (S.stpL (List.length x3) (fun j => S.at' x3 j) ((1 : Int) + Int.tmod rp (3 : Int))
 (S.crF fi (S.crL nl fun j => tl (j + al)))))
 (fun j =>
 S.at'
 (S.stpL (List.length x3) (fun j => S.at' x3 j) ((1 : Int) + Int.tmod rp (3 : Int))
 (S.crF fi (S.crL nl fun j => tl (j + al))))
 j)
 (0) (List.length x1))
 (S.fldH (List.length x1) (fun j => (S.at' x1 j).1)
 (fun j => (S.at' x1 j).2.1)
 (fun j => (S.at' x1 j).2.2) (fun j => S.at' x4 j)
 (List.length
 (S.stpL (List.length x3) (fun j => S.at' x3 j) ((1 : Int) + Int.tmod rp (3 : Int))
 (S.crF fi (S.crL nl fun j => tl (j + al)))))
 fun j =>
 bif
 Nat.blt j
 (List.length
 (S.stpL (List.length x3) (fun j => S.at' x3 j) ((1 : Int) + Int.tmod rp (3 : Int))
 (S.crF fi (S.crL nl fun j => tl (j + al))))) then
 S.at'
 (S.stpL (List.length x3) (fun j => S.at' x3 j) ((1 : Int) + Int.tmod rp (3 : Int))
 (S.crF fi (S.crL nl fun j => tl (j + al))))
 j
 else (0 : Int))))
 then (some (.inr (true)))
 else (some (.inr (false))))
 else (some (.inr (false))))
 else (some (.inr (false))))
 else (none))
 else (none)) : Option (St107 ⊕ Rt107)) = some x) : T107_0 cond Kst Kret ap np mp tp vp o al nl ml tl rp fi os x0 x1 x2 x3 x4 := by
  unfold T107_0
  exact bif_split h
   (fun c0 h => cond_no rfl (bif_split h
   (fun c1 h => no_some h)
   (fun c1 h => bif_split h
   (fun c2 h => bif_split h
   (fun c3 h => bif_split h
   (fun c4 h => cond_yes rfl (bif_split h
   (fun c5 h => stop_at hS _ h (fun n => bif Nat.beq n 2 then 2 else bif Nat.beq n 3 then 3 else bif Nat.beq n 4 then 4 else bif Nat.beq n 5 then 5 else bif Nat.beq n 6 then 6 else bif Nat.beq n 7 then 7 else bif Nat.beq n 8 then 10 else n) rfl rfl rfl ⟨(rn_int rfl), ⟨(rn_ptr (use_own rfl) rfl rfl), ⟨(rn_ptr (use_own rfl) rfl rfl), ⟨(rn_ptr (use_own rfl) rfl rfl), ⟨(rn_int rfl), ⟨(rn_int rfl), trivial⟩⟩⟩⟩⟩⟩ rfl (entl_b (use_own rfl) rfl (by simp) (rb_cells ⟨(rn_own (use_own rfl) rfl rfl), (rn_own (use_own rfl) rfl rfl), trivial⟩) (entl_new (use_own rfl) rfl (Nat.le_of_eq rfl) (rcs_int (fun _ _ => rfl) (rcs_int (fun _ _ => rfl) (rcs_int (fun _ _ => rfl) rcs_nil))) (entl_new (use_own rfl) rfl (Nat.le_of_eq rfl) (rcs_bool (fun _ _ => rfl) rcs_nil) (entl_b (use_own rfl) rfl (by simp) (rb_cells ⟨(rn_str rfl), (rn_own (use_own rfl) rfl rfl), (rn_int rfl), (rn_int rfl), trivial⟩) (entl_new (use_own rfl) rfl (Nat.le_of_eq rfl) (rcs_int (fun _ _ => rfl) rcs_nil) (entl_b (use_own rfl) rfl (by simp) (rb_cells ⟨(rn_own (use_own rfl) rfl rfl), (rn_own (use_own rfl) rfl (snoc_len' rfl)), trivial⟩) (entl_new (use_own rfl) rfl (Nat.le_of_eq (snoc_len' rfl)) (rcs_bool (col_snoc' (fun (t : Bool) => t) rfl (fun _ _ => rfl)) rcs_nil) (entl_bor (use_lo rfl) rfl rfl (entl_bor (use_lo rfl) rfl rfl entl_nil))))))))))
   (fun c5 h => no_some h)))
   (fun c4 h => no_some h))
   (fun c3 h => no_some h))
   (fun c2 h => bif_split h
   (fun c3 h => bif_split h
   (fun c4 h => cond_yes rfl (bif_split h
   (fun c5 h => stop_at hS _ h (fun n => bif Nat.beq n 2 then 2 else bif Nat.beq n 3 then 3 else bif Nat.beq n 4 then 4 else bif Nat.beq n 5 then 5 else bif Nat.beq n 6 then 6 else bif Nat.beq n 7 then 7 else bif Nat.beq n 8 then 10 else n) rfl rfl rfl ⟨(rn_int rfl), ⟨(rn_ptr (use_own rfl) rfl rfl), ⟨(rn_ptr (use_own rfl) rfl rfl), ⟨(rn_ptr (use_own rfl) rfl rfl), ⟨(rn_int rfl), ⟨(rn_int rfl), trivial⟩⟩⟩⟩⟩⟩ rfl (entl_b (use_own rfl) rfl (by simp) (rb_cells ⟨(rn_own (use_own rfl) rfl rfl), (rn_own (use_own rfl) rfl rfl), trivial⟩) (entl_new (use_own rfl) rfl (Nat.le_of_eq rfl) (rcs_int (fun _ _ => rfl) (rcs_int (fun _ _ => rfl) (rcs_int (fun _ _ => rfl) rcs_nil))) (entl_new (use_own rfl) rfl (Nat.le_of_eq rfl) (rcs_bool (fun _ _ => rfl) rcs_nil) (entl_b (use_own rfl) rfl (by simp) (rb_cells ⟨(rn_str rfl), (rn_own (use_own rfl) rfl rfl), (rn_int rfl), (rn_int rfl), trivial⟩) (entl_new (use_own rfl) rfl (Nat.le_of_eq rfl) (rcs_int (fun _ _ => rfl) rcs_nil) (entl_b (use_own rfl) rfl (by simp) (rb_cells ⟨(rn_own (use_own rfl) rfl rfl), (rn_own (use_own rfl) rfl (snoc_len' rfl)), trivial⟩) (entl_new (use_own rfl) rfl (Nat.le_of_eq (snoc_len' rfl)) (rcs_bool (col_snoc' (fun (t : Bool) => t) rfl (fun _ _ => rfl)) rcs_nil) (entl_bor (use_lo rfl) rfl rfl (entl_bor (use_lo rfl) rfl rfl entl_nil))))))))))
   (fun c5 h => no_some h)))
   (fun c4 h => no_some h))
   (fun c3 h => no_some h)))))
   (fun c0 h => bif_split h
   (fun c1 h => bif_split h
   (fun c2 h => bif_split h
   (fun c3 h => bif_split h
   (fun c4 h => bif_split h
   (fun c5 h => ret_at hR _ h (fun n => n) rfl rfl rfl (rn_bool_tf rfl) rfl (entl_bor (use_lo rfl) rfl rfl (entl_bor (use_lo rfl) rfl rfl entl_nil)))
   (fun c5 h => ret_at hR _ h (fun n => n) rfl rfl rfl (rn_bool_tf rfl) rfl (entl_bor (use_lo rfl) rfl rfl (entl_bor (use_lo rfl) rfl rfl entl_nil))))
   (fun c4 h => ret_at hR _ h (fun n => n) rfl rfl rfl (rn_bool_tf rfl) rfl (entl_bor (use_lo rfl) rfl rfl (entl_bor (use_lo rfl) rfl rfl entl_nil))))
   (fun c3 h => ret_at hR _ h (fun n => n) rfl rfl rfl (rn_bool_tf rfl) rfl (entl_bor (use_lo rfl) rfl rfl (entl_bor (use_lo rfl) rfl rfl entl_nil))))
   (fun c2 h => no_some h))
   (fun c1 h => no_some h))
theorem a107 (ap np mp : Nat) (tp : Nat → Int) (vp : Nat → Int) (o : Int) (al nl ml : Nat) (tl : Nat → Int) (rp : Int) (fi : Int) (os : Int) {r : Rt107} (h : Goes ((q107 ap np mp tp vp o al nl ml tl rp fi os)) ((p107 ap np mp tp vp o al nl ml tl rp fi os)) r) : CallR Try.prog 7 [.agg [.loose ⟨0, 2, ap, 0⟩ np, .int .u32 o], .agg [.loose ⟨1, 1, al, 0⟩ nl, .int .u8 rp, .int .u8 fi], .int .u64 os] [[(0, (false, .cols mp [.int .u8 tp, .int .u8 vp])), (1, (false, .cols ml [.int .u8 tl]))]] 2 ((V107 ap np mp tp vp o al nl ml tl rp fi os) r) ((fun r => [newL (2 + 1) ((N107 ap np mp tp vp o al nl ml tl rp fi os) r) ++ [(0, (false, .cols mp [.int .u8 tp, .int .u8 vp])), (1, (false, .cols ml [.int .u8 tl]))]]) r) 400 ∧ ∃ F, Try.prog.funcs[7]? = some F ∧ F.body.isSome = true ∧ (F.name == "runtime.NumGoroutine") = false := by
  refine dec_calls (f := 7) (lo := 2) (hi := 400) (H := [[(0, (false, .cols mp [.int .u8 tp, .int .u8 vp])), (1, (false, .cols ml [.int .u8 tl]))]]) (args := [.agg [.loose ⟨0, 2, ap, 0⟩ np, .int .u32 o], .agg [.loose ⟨1, 1, al, 0⟩ nl, .int .u8 rp, .int .u8 fi], .int .u64 os]) Try.envOk Try.mixed xC7_ok ((I107 ap np mp tp vp o al nl ml tl rp fi os)) ((V107 ap np mp tp vp o al nl ml tl rp fi os)) (fun r => [newL (2 + 1) ((N107 ap np mp tp vp o al nl ml tl rp fi os) r) ++ [(0, (false, .cols mp [.int .u8 tp, .int .u8 vp])), (1, (false, .cols ml [.int .u8 tl]))]]) (fn := mkFn Try.f7) (ts := [2, 7, 8, 11, 57, 58]) (n := 400) rfl (by decide) (by simp) (names_of rfl) ?_ ?_ ?_ h
  · intro s; cases s <;> exact ⟨hd_ok _ _, by simp [I107], names_of rfl, Nat.le_of_ble_eq_true rfl⟩
  · intro Kst Kret x hS hR h
    exact Holds.eq (te107 cond Kst Kret ap np mp tp vp o al nl ml tl rp fi os) (be107 ap np mp tp vp o al nl ml tl rp fi os Kst Kret x hS hR h)
  · intro Kst Kret x hS hR s h
    cases s with
    | h0 x0 x1 x2 x3 x4 => exact Holds.eq (t107_0 cond Kst Kret ap np mp tp vp o al nl ml tl rp fi os x0 x1 x2 x3 x4) (b107_0 ap np mp tp vp o al nl ml tl rp fi os Kst Kret x hS hR x0 x1 x2 x3 x4 h)
noncomputable def k107 : Con := ⟨7, [.agg [.list [.int .u8, .int .u8], .plain (.int .u32)], .agg [.list [.int .u8], .plain (.int .u8), .plain (.int .u8)], .one (.plain (.int .u64))], fun (x : ((Nat × Nat × Nat × (Nat → Int) × (Nat → Int) × Unit) × Int × Unit) × ((Nat × Nat × Nat × (Nat → Int) × Unit) × Int × Int × Unit) × Int × Unit) => (fun (ap np mp : Nat) (tp : Nat → Int) (vp : Nat → Int) (o : Int) (al nl ml : Nat) (tl : Nat → Int) (rp : Int) (fi : Int) (os : Int) => decide ((ap + np ≤ mp ∧ al + nl ≤ ml) ∧ (S.bytes np (fun j => tp (j + ap)) = true ∧ S.bytes np (fun j => vp (j + ap)) = true) ∧ S.bytes nl (fun j => tl (j + al)) = true ∧ (0 ≤ rp ∧ rp ≤ 255) ∧ 0 ≤ fi ∧ fi ≤ 255)) x.1.1.1 x.1.1.2.1 x.1.1.2.2.1 x.1.1.2.2.2.1 x.1.1.2.2.2.2.1 x.1.2.1 x.2.1.1.1 x.2.1.1.2.1 x.2.1.1.2.2.1 x.2.1.1.2.2.2.1 x.2.1.2.1 x.2.1.2.2.1 x.2.2.1, fun (x : ((Nat × Nat × Nat × (Nat → Int) × (Nat → Int) × Unit) × Int × Unit) × ((Nat × Nat × Nat × (Nat → Int) × Unit) × Int × Int × Unit) × Int × Unit) => (fun (ap np mp : Nat) (tp : Nat → Int) (vp : Nat → Int) (o : Int) (al nl ml : Nat) (tl : Nat → Int) (rp : Int) (fi : Int) (os : Int) => (V107 ap np mp tp vp o al nl ml tl rp fi os) (true)) x.1.1.1 x.1.1.2.1 x.1.1.2.2.1 x.1.1.2.2.2.1 x.1.1.2.2.2.2.1 x.1.2.1 x.2.1.1.1 x.2.1.1.2.1 x.2.1.1.2.2.1 x.2.1.1.2.2.2.1 x.2.1.2.1 x.2.1.2.2.1 x.2.2.1, fun (x : ((Nat × Nat × Nat × (Nat → Int) × (Nat → Int) × Unit) × Int × Unit) × ((Nat × Nat × Nat × (Nat → Int) × Unit) × Int × Int × Unit) × Int × Unit) => (fun (ap np mp : Nat) (tp : Nat → Int) (vp : Nat → Int) (o : Int) (al nl ml : Nat) (tl : Nat → Int) (rp : Int) (fi : Int) (os : Int) => (N107 ap np mp tp vp o al nl ml tl rp fi os) (true)) x.1.1.1 x.1.1.2.1 x.1.1.2.2.1 x.1.1.2.2.2.1 x.1.1.2.2.2.2.1 x.1.2.1 x.2.1.1.1 x.2.1.1.2.1 x.2.1.1.2.2.1 x.2.1.1.2.2.2.1 x.2.1.2.1 x.2.1.2.2.1 x.2.2.1, fun _ _ => .dead⟩
theorem s107' (ap np mp : Nat) (tp : Nat → Int) (vp : Nat → Int) (o : Int) (al nl ml : Nat) (tl : Nat → Int) (rp : Int) (fi : Int) (os : Int) (X1 : List (Int × Int × Int)) (hx1 : Holds ((S.mkl (S.mdN np) fun j => S.mdR np (fun j => tp (j + ap)) (fun j => vp (j + ap)) j) = X1)) (X2 : List Bool) (X3 : List Int) (cf : Int) (hcf : S.crF fi (S.crL nl (fun j => tl (j + al))) = cf) (hl1 : (S.mkl (S.mdN np) fun j => S.mdR np (fun j => tp (j + ap)) (fun j => vp (j + ap)) j).length = X1.length) (hn1 : X1.length ≤ 40) (hn2 : X2.length = X1.length) (hn3 : X3.length ≤ 8) (hm : S.magE X1.length (fun j => (S.at' X1 j).1) (fun j => (S.at' X1 j).2.1) (fun j => (S.at' X1 j).2.2) X1.length = 0) (hy : S.cyE (ByteArray.mk #[99]) X3.length (fun j => S.at' X3 j) (1 + Int.tmod rp 3) cf = 0) (her : S.erB (fun j => (S.at' X1 j).1) (fun j => (S.at' X1 j).2.1) (S.stpL X3.length (fun j => S.at' X3 j) (1 + Int.tmod rp 3) cf).length (fun j => S.at' (S.stpL X3.length (fun j => S.at' X3 j) (1 + Int.tmod rp 3) cf) j) 0 X1.length = true) : ∀ (k i : Nat) (L : List Bool), i + k = X1.length → L.length = i → Comes (q107 ap np mp tp vp o al nl ml tl rp fi os) (.h0 (i : Int) X1 X2 X3 L) true := by
  have hb0 : S.botE 0 0 = 0 := rfl
  have hfa : ∀ F : Int, S.faS 0 0 true F = (F, 0) := fun F => rfl
  intro k
  induction k with
  | zero =>
    intro i L hi hL
    have hLn : L.length = X1.length := by omega
    have hfs := fld_same (w := fun j => (S.at' X1 j).2.2) (t' := fun j => bif Nat.blt j (S.stpL X3.length (fun j => S.at' X3 j) (1 + Int.tmod rp 3) cf).length then S.at' (S.stpL X3.length (fun j => S.at' X3 j) (1 + Int.tmod rp 3) cf) j else 0) (o := fun j => S.at' X2 j) (o' := fun j => S.at' L j) her (fun j hj => by
      rw [show Nat.blt j (S.stpL X3.length (fun j => S.at' X3 j) (1 + Int.tmod rp 3) cf).length = true by rw [Nat.blt_eq]; exact hj, cond_true])
    apply Comes.of
    show Goes _ _ _
    rw [q107]
    simp only [hl1, hcf, hn2, hLn, hm, hy, hb0, her, hfa, hfs, BEq.rfl]
    clear hfs her hy hm hfa
    show Goes _ _ _
    repeat' first
      | with_reducible refine goes_if (fun h => ?_) (fun h => ?_) <;> (try simp only [lim64, imp_false, decide_eq_true_eq, decide_eq_false_iff_not, Int.toNat_natCast, toNat_pred, toNat_succ, Option.getD_some, Option.getD_none, Bool.not_eq_true', Bool.not_eq_false', Bool.and_eq_true, Bool.or_eq_true, Bool.and_eq_false_iff, Bool.or_eq_false_iff, bne_iff_ne, beq_iff_eq, bne_eq_false_iff_eq, beq_eq_false_iff_ne, ne_eq, not_and, Int.not_le, Int.not_lt, ge_iff_le, gt_iff_lt, Nat.not_lt, Nat.not_le, Bool.not_eq_true, Bool.not_eq_false, Bool.true_eq_false, Bool.false_eq_true, not_false_eq_true, not_true_eq_false] at h)
      | exact goes_none.mpr (by omega)
    all_goals first | (exfalso; omega) | exact goes_inr.mpr rfl | (exfalso; simp_all; done)
  | succ k ih =>
    intro i L hi hL
    have ih := fun v => ih (i + 1) (S.snoc L v) (by omega) (by rw [snoc_len, hL])
    have ht : 0 ≤ Int.tmod (i : Int) 64 := Int.tmod_nonneg 64 (Int.natCast_nonneg i)
    apply Comes.of
    show Goes _ _ _
    rw [q107]
    simp only [hl1]
    clear her hy hm hfa
    show Goes _ _ _
    repeat' first
      | with_reducible refine goes_if (fun h => ?_) (fun h => ?_) <;> (try simp only [lim64, imp_false, decide_eq_true_eq, decide_eq_false_iff_not, Int.toNat_natCast, toNat_pred, toNat_succ, Option.getD_some, Option.getD_none, Bool.not_eq_true', Bool.not_eq_false', Bool.and_eq_true, Bool.or_eq_true, Bool.and_eq_false_iff, Bool.or_eq_false_iff, bne_iff_ne, beq_iff_eq, bne_eq_false_iff_eq, beq_eq_false_iff_ne, ne_eq, not_and, Int.not_le, Int.not_lt, ge_iff_le, gt_iff_lt, Nat.not_lt, Nat.not_le, Bool.not_eq_true, Bool.not_eq_false, Bool.true_eq_false, Bool.false_eq_true, not_false_eq_true, not_true_eq_false] at h)
      | exact goes_none.mpr (by omega)
    all_goals first | (exfalso; omega) | exact ih true | exact ih false
theorem s107 (ap np mp : Nat) (tp : Nat → Int) (vp : Nat → Int) (o : Int) (al nl ml : Nat) (tl : Nat → Int) (rp : Int) (fi : Int) (os : Int) (hp : (ap + np ≤ mp ∧ al + nl ≤ ml) ∧ (S.bytes np (fun j => tp (j + ap)) = true ∧ S.bytes np (fun j => vp (j + ap)) = true) ∧ S.bytes nl (fun j => tl (j + al)) = true ∧ (0 ≤ rp ∧ rp ≤ 255) ∧ 0 ≤ fi ∧ fi ≤ 255) : Goes ((q107 ap np mp tp vp o al nl ml tl rp fi os)) ((p107 ap np mp tp vp o al nl ml tl rp fi os)) (true) := by
  obtain ⟨⟨hp1, hp2⟩, ⟨hb1, hb2⟩, hb3, hr, hf⟩ := hp
  obtain ⟨c1, c2⟩ := crL_ok hb3
  obtain ⟨n1, n2, -⟩ := mdN_le (np := np)
  have hmag := made_mag hb1 hb2
  have hmg : S.magE (S.mkl (S.mdN np) fun j => S.mdR np (fun j => tp (j + ap)) (fun j => vp (j + ap)) j).length (fun j => (S.at' (S.mkl (S.mdN np) fun j => S.mdR np (fun j => tp (j + ap)) (fun j => vp (j + ap)) j) j).1) (fun j => (S.at' (S.mkl (S.mdN np) fun j => S.mdR np (fun j => tp (j + ap)) (fun j => vp (j + ap)) j) j).2.1) (fun j => (S.at' (S.mkl (S.mdN np) fun j => S.mdR np (fun j => tp (j + ap)) (fun j => vp (j + ap)) j) j).2.2) (S.mkl (S.mdN np) fun j => S.mdB o j).length = 0 := by
    rw [mkl_len, mkl_len]
    rw [mag_congr (u' := fun j => (S.mdR np (fun j => tp (j + ap)) (fun j => vp (j + ap)) j).1) (d' := fun j => (S.mdR np (fun j => tp (j + ap)) (fun j => vp (j + ap)) j).2.1) (w' := fun j => (S.mdR np (fun j => tp (j + ap)) (fun j => vp (j + ap)) j).2.2) (fun j hj => by rw [at_mkl hj]; exact ⟨rfl, rfl, rfl⟩)]
    exact hmag
  have hx : 0 ≤ Int.tmod rp 3 ∧ Int.tmod rp 3 < 3 := ⟨Int.tmod_nonneg _ hr.1, Int.tmod_lt_of_pos _ (by decide)⟩
  have hcy := draft_ok c1 c2 (rp := 1 + Int.tmod rp 3) (by omega) (crF_ok (L := (S.crL nl (fun j => tl (j + al)))) hf.1)
  have hl1 : (S.mkl (S.mdN np) fun j => S.mdR np (fun j => tp (j + ap)) (fun j => vp (j + ap)) j).length = S.mdN np := mkl_len
  have hl2 : (S.mkl (S.mdN np) fun j => S.mdB o j).length = S.mdN np := mkl_len
  have hl3 : (S.mkl (S.mdN np) fun j => S.mdB o j).length = (S.mkl (S.mdN np) fun j => S.mdR np (fun j => tp (j + ap)) (fun j => vp (j + ap)) j).length := hl2.trans hl1.symm
  have hm := fun her => s107' ap np mp tp vp o al nl ml tl rp fi os (S.mkl (S.mdN np) fun j => S.mdR np (fun j => tp (j + ap)) (fun j => vp (j + ap)) j) ⟨rfl⟩ (S.mkl (S.mdN np) fun j => S.mdB o j) (S.crL nl (fun j => tl (j + al))) _ rfl rfl (by omega) (by omega) c2.2 (by rw [hl3] at hmg; exact hmg) hcy her (S.mkl (S.mdN np) fun j => S.mdR np (fun j => tp (j + ap)) (fun j => vp (j + ap)) j).length 0 [] (Nat.zero_add _) rfl
  have hb0 : S.botE 0 0 = 0 := rfl
  have hsu : ∀ A : Bool, S.suiS 0 A = (A, 0) := fun A => rfl
  unfold p107
  simp only [hmg, hcy, hb0, hsu, hb1, hb2, hb3, eq_self, true_and, and_true]
  clear hmg hcy hmag
  generalize hA : S.erB (fun j => (S.at' (S.mkl (S.mdN np) fun j => S.mdR np (fun j => tp (j + ap)) (fun j => vp (j + ap)) j) j).1) (fun j => (S.at' (S.mkl (S.mdN np) fun j => S.mdR np (fun j => tp (j + ap)) (fun j => vp (j + ap)) j) j).2.1) (S.stpL (S.crL nl (fun j => tl (j + al))).length (fun j => S.at' (S.crL nl (fun j => tl (j + al))) j) (1 + Int.tmod rp 3) (S.crF fi (S.crL nl (fun j => tl (j + al))))).length (fun j => S.at' (S.stpL (S.crL nl (fun j => tl (j + al))).length (fun j => S.at' (S.crL nl (fun j => tl (j + al))) j) (1 + Int.tmod rp 3) (S.crF fi (S.crL nl (fun j => tl (j + al))))) j) 0 (S.mkl (S.mdN np) fun j => S.mdR np (fun j => tp (j + ap)) (fun j => vp (j + ap)) j).length = A at *
  generalize (S.crL nl (fun j => tl (j + al))) = X3 at *
  generalize (S.mkl (S.mdN np) fun j => S.mdR np (fun j => tp (j + ap)) (fun j => vp (j + ap)) j) = X1 at *
  generalize (S.mkl (S.mdN np) fun j => S.mdB o j) = X2 at *
  show Goes _ _ _
  cases A
  · repeat' first
      | with_reducible exact goes_inr.mpr rfl
      | with_reducible refine goes_if (fun h => ?_) (fun h => ?_) <;> (try simp only [lim64, imp_false, decide_eq_true_eq, decide_eq_false_iff_not, Int.toNat_natCast, toNat_pred, toNat_succ, Option.getD_some, Option.getD_none, Bool.not_eq_true', Bool.not_eq_false', Bool.and_eq_true, Bool.or_eq_true, Bool.and_eq_false_iff, Bool.or_eq_false_iff, bne_iff_ne, beq_iff_eq, bne_eq_false_iff_eq, beq_eq_false_iff_ne, ne_eq, not_and, Int.not_le, Int.not_lt, ge_iff_le, gt_iff_lt, Nat.not_lt, Nat.not_le, Bool.not_eq_true, Bool.not_eq_false, Bool.true_eq_false, Bool.false_eq_true, not_false_eq_true, not_true_eq_false] at h)
      | exact goes_none.mpr (by omega)
    all_goals first | (exfalso; omega) | exact goes_inr.mpr rfl | (exfalso; simp_all; done)
  · have hm := hm rfl
    repeat' first
      | with_reducible exact goes_inr.mpr rfl
      | with_reducible refine goes_if (fun h => ?_) (fun h => ?_) <;> (try simp only [lim64, imp_false, decide_eq_true_eq, decide_eq_false_iff_not, Int.toNat_natCast, toNat_pred, toNat_succ, Option.getD_some, Option.getD_none, Bool.not_eq_true', Bool.not_eq_false', Bool.and_eq_true, Bool.or_eq_true, Bool.and_eq_false_iff, Bool.or_eq_false_iff, bne_iff_ne, beq_iff_eq, bne_eq_false_iff_eq, beq_eq_false_iff_ne, ne_eq, not_and, Int.not_le, Int.not_lt, ge_iff_le, gt_iff_lt, Nat.not_lt, Nat.not_le, Bool.not_eq_true, Bool.not_eq_false, Bool.true_eq_false, Bool.false_eq_true, not_false_eq_true, not_true_eq_false] at h)
      | exact goes_none.mpr (by omega)
    all_goals first | (exfalso; omega) | exact hm | (exfalso; simp_all; done)
theorem k107_ok : k107.ok Try.prog := by
  intro x hx
  obtain ⟨⟨⟨ap, np, mp, tp, vp, _⟩, o, _⟩, ⟨⟨al, nl, ml, tl, _⟩, rp, fi, _⟩, os, _⟩ := x
  obtain ⟨h1, h2⟩ := a107 ap np mp tp vp o al nl ml tl rp fi os (s107 ap np mp tp vp o al nl ml tl rp fi os (of_dec hx rfl))
  exact ⟨⟨400, (by decide : 2 + 1 + 0 ≤ 400), h1⟩, h2⟩
theorem pre107 {x : SsI k107.ss} (hx : ssFits k107.ss x) : k107.pre (ssj k107.ss x) = true := by
  obtain ⟨⟨⟨n, t, v, u'⟩, o, u2⟩, ⟨⟨n2, t2, u3⟩, r, g, u4⟩, os, u''⟩ := x
  obtain ⟨⟨⟨hn, ht, hv, -⟩, ho, -⟩, ⟨⟨hn2, ht2, -⟩, hr, hg, -⟩, -⟩ := hx
  exact decide_eq_true ⟨⟨Nat.le_of_eq (Nat.zero_add _), Nat.le_of_eq (Nat.zero_add _)⟩, ⟨bytes_mk ht, bytes_mk hv⟩, bytes_mk ht2, hr, hg⟩
end Go.Ev
