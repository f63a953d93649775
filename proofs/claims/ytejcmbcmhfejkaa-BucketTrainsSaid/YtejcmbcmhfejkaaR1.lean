/-
  Runs of buckets.
-/
import Derived.Test.YtejcmbcmhfejkaaB3
import Derived.Test.YtejcmbcmhfejkaaS2
namespace Go.Ev
open Go.Proofs
set_option linter.unusedVariables false
set_option linter.unusedSimpArgs false
set_option maxRecDepth 100000
inductive St51 where
  | h0 (x0 : Int)
abbrev Rt51 := Int
noncomputable def V51 (al nl ml : Nat) (tl : Nat → Bool) (sk : Bool) (r : Rt51) : PV := PV.int IntKind.i64 r
noncomputable def N51 (al nl ml : Nat) (tl : Nat → Bool) (sk : Bool) (r : Rt51) : List Blk := []
noncomputable def I51 (al nl ml : Nat) (tl : Nat → Bool) (sk : Bool) : St51 → Hd
  | .h0 x0 => ⟨hd Try.f51 0, [PV.loose (PA.mk (0) (1) al (0)) nl, PV.bool sk,
 PV.int IntKind.i64 (↑nl : Int), PV.int IntKind.i64 x0], [[], [(0, (false, .cols ml [.bool tl]))]], 1⟩
noncomputable def q51 (al nl ml : Nat) (tl : Nat → Bool) (sk : Bool) : St51 → Option (St51 ⊕ Rt51)
  | .h0 x0 => bif (decide (x0 < (↑nl : Int)))
 then (bif (sk)
 then (bif (decide ((0 : Int) ≤ x0 ∧ x0 < (↑nl : Int)))
 then (bif (decide (Int.toNat x0 + al < ml))
 then (bif (tl (Int.toNat x0 + al))
 then (some (.inr (x0)))
 else (bif (lim IntKind.i64 (x0 + (1 : Int)))
 then (some (.inl (.h0 (x0 + (1 : Int)))))
 else (none)))
 else (none))
 else (none))
 else (bif (decide ((0 : Int) ≤ x0 ∧ x0 < (↑nl : Int)))
 then (bif (decide (Int.toNat x0 + al < ml))
 then (bif (tl (Int.toNat x0 + al))
 then (bif (lim IntKind.i64 (x0 + (1 : Int)))
 then (some (.inl (.h0 (x0 + (1 : Int)))))
 else (none))
 else (some (.inr (x0))))
 else (none))
 else (none)))
 else (some (.inr ((-1 : Int))))
noncomputable def p51 (al nl ml : Nat) (tl : Nat → Bool) (sk : Bool) : Option (St51 ⊕ Rt51) := some (.inl (.h0 ((0 : Int))))
noncomputable def Te51 (test : Bool → Prop → Prop → Prop) (Kst : KS) (Kret : KR) (al nl ml : Nat) (tl : Nat → Bool) (sk : Bool) : Prop :=
  Kst (hd Try.f51 0) ([PV.loose (PA.mk (0) (1) al (0)) nl, PV.bool sk,
 PV.int IntKind.i64 (↑nl : Int), PV.int IntKind.i64 (0 : Int)]) ([[(0, false, Blk.cols ml [Col.bool tl])]]) (1)
set_option maxRecDepth 100000 in
theorem te51 (test : Bool → Prop → Prop → Prop) (Kst : KS) (Kret : KR) (al nl ml : Nat) (tl : Nat → Bool) (sk : Bool) : run test Try.env true noX true 400 ⟨51, [.cd (mkFn Try.f51).body], argT 0 [.loose ⟨0, 1, al, 0⟩ nl, .bool sk], [[], [(0, (false, .cols ml [.bool tl]))]], 1⟩ (proj 1 [0, 1, 7, 8] Kst Kret) =
  Te51 test Kst Kret al nl ml tl sk := by kernel_rfl
noncomputable def T51_0 (test : Bool → Prop → Prop → Prop) (Kst : KS) (Kret : KR) (al nl ml : Nat) (tl : Nat → Bool) (sk : Bool) (x0 : Int) : Prop :=
  test (decide (x0 < (↑nl : Int)))
 (test (sk)
 (test (decide ((0 : Int) ≤ x0 ∧ x0 < (↑nl : Int)))
 (test (decide (Int.toNat x0 + al < ml))
 (test (tl (Int.toNat x0 + al))
 (Kret (PV.int IntKind.i64 x0) ([[(0, false, Blk.cols ml [Col.bool tl])]]) (1))
 (test (lim IntKind.i64 (x0 + (1 : Int)))
 (Kst (hd Try.f51 0) ([PV.loose (PA.mk (0) (1) al (0)) nl, PV.bool sk,
 PV.int IntKind.i64 (↑nl : Int), PV.int IntKind.i64 (x0 + (1 : Int))]) ([[(0, false, Blk.cols ml [Col.bool tl])]]) (1))
 (False)))
 (False))
 (False))
 (test (decide ((0 : Int) ≤ x0 ∧ x0 < (↑nl : Int)))
 (test (decide (Int.toNat x0 + al < ml))
 (test (tl (Int.toNat x0 + al))
 (test (lim IntKind.i64 (x0 + (1 : Int)))
 (Kst (hd Try.f51 0) ([PV.loose (PA.mk (0) (1) al (0)) nl, PV.bool sk,
 PV.int IntKind.i64 (↑nl : Int), PV.int IntKind.i64 (x0 + (1 : Int))]) ([[(0, false, Blk.cols ml [Col.bool tl])]]) (1))
 (False))
 (Kret (PV.int IntKind.i64 x0) ([[(0, false, Blk.cols ml [Col.bool tl])]]) (1)))
 (False))
 (False)))
 (Kret (PV.int IntKind.i64 (-1 : Int)) ([[(0, false, Blk.cols ml [Col.bool tl])]]) (1))
set_option maxRecDepth 100000 in
theorem t51_0 (test : Bool → Prop → Prop → Prop) (Kst : KS) (Kret : KR) (al nl ml : Nat) (tl : Nat → Bool) (sk : Bool) (x0 : Int) : run test Try.env true noX true 400 ⟨51, hd Try.f51 0, zipT [0, 1, 7, 8] [PV.loose (PA.mk (0) (1) al (0)) nl, PV.bool sk,
 PV.int IntKind.i64 (↑nl : Int), PV.int IntKind.i64 x0], [[], [(0, (false, .cols ml [.bool tl]))]], 1⟩ (proj 1 [0, 1, 7, 8] Kst Kret) =
  T51_0 test Kst Kret al nl ml tl sk x0 := by kernel_rfl
attribute [local irreducible] Int.subNatNat in
set_option maxRecDepth 100000 in
theorem be51 (al nl ml : Nat) (tl : Nat → Bool) (sk : Bool) (Kst : KS) (Kret : KR) (x : St51 ⊕ Rt51) (hS : HS 1 400 ((I51 al nl ml tl sk)) Kst x) (hR : HR 1 400 ((V51 al nl ml tl sk)) (fun r => [newL (1 + 1) ((N51 al nl ml tl sk) r) ++ [(0, (false, .cols ml [.bool tl]))]]) Kret x) (h : (some (.inl (.h0 ((0 : Int)))) : Option (St51 ⊕ Rt51)) = some x) : Te51 cond Kst Kret al nl ml tl sk := by
  unfold Te51
  exact stop_at hS _ h (fun n => n) rfl rfl rfl ⟨(rn_loose (use_lo rfl) rfl rfl rfl), ⟨(rn_bool rfl), ⟨(rn_int rfl), ⟨(rn_int rfl), trivial⟩⟩⟩⟩ rfl (entl_bor (use_lo rfl) rfl rfl entl_nil)
attribute [local irreducible] Int.subNatNat in
set_option maxRecDepth 100000 in
theorem b51_0 (al nl ml : Nat) (tl : Nat → Bool) (sk : Bool) (Kst : KS) (Kret : KR) (x : St51 ⊕ Rt51) (hS : HS 1 400 ((I51 al nl ml tl sk)) Kst x) (hR : HR 1 400 ((V51 al nl ml tl sk)) (fun r => [newL (1 + 1) ((N51 al nl ml tl sk) r) ++ [(0, (false, .cols ml [.bool tl]))]]) Kret x) (x0 : Int) (h : (bif (decide (x0 < (↑nl : Int)))
 then (bif (sk)
 then (bif (decide ((0 : Int) ≤ x0 ∧ x0 < (↑nl : Int)))
 then (bif (decide (Int.toNat x0 + al < ml))
 then (bif (tl (Int.toNat x0 + al))
 then (some (.inr (x0)))
 else (bif (lim IntKind.i64 (x0 + (1 : Int)))
 then (some (.inl (.h0 (x0 + (1 : Int)))))
 else (none)))
 else (none))
 else (none))
 else (bif (decide ((0 : Int) ≤ x0 ∧ x0 < (↑nl : Int)))
 then (bif (decide (Int.toNat x0 + al < ml))
 then (bif (tl (Int.toNat x0 + al))
 then (bif (lim IntKind.i64 (x0 + (1 : Int)))
 then (some (.inl (.h0 (x0 + (1 : Int)))))
 else (none))
 else (some (.inr (x0))))
 else (none))
 else (none)))
 else (some (.inr ((-1 : Int)))) : Option (St51 ⊕ Rt51)) = some x) : T51_0 cond Kst Kret al nl ml tl sk x0 := by
  unfold T51_0
  exact bif_split h
   (fun c0 h => bif_split h
   (fun c1 h => bif_split h
   (fun c2 h => bif_split h
   (fun c3 h => bif_split h
   (fun c4 h => ret_at hR _ h (fun n => n) rfl rfl rfl (rn_int rfl) rfl (entl_bor (use_lo rfl) rfl rfl entl_nil))
   (fun c4 h => bif_split h
   (fun c5 h => stop_at hS _ h (fun n => n) rfl rfl rfl ⟨(rn_loose (use_lo rfl) rfl rfl rfl), ⟨(rn_bool rfl), ⟨(rn_int rfl), ⟨(rn_int rfl), trivial⟩⟩⟩⟩ rfl (entl_bor (use_lo rfl) rfl rfl entl_nil))
   (fun c5 h => no_some h)))
   (fun c3 h => no_some h))
   (fun c2 h => no_some h))
   (fun c1 h => bif_split h
   (fun c2 h => bif_split h
   (fun c3 h => bif_split h
   (fun c4 h => bif_split h
   (fun c5 h => stop_at hS _ h (fun n => n) rfl rfl rfl ⟨(rn_loose (use_lo rfl) rfl rfl rfl), ⟨(rn_bool rfl), ⟨(rn_int rfl), ⟨(rn_int rfl), trivial⟩⟩⟩⟩ rfl (entl_bor (use_lo rfl) rfl rfl entl_nil))
   (fun c5 h => no_some h))
   (fun c4 h => ret_at hR _ h (fun n => n) rfl rfl rfl (rn_int rfl) rfl (entl_bor (use_lo rfl) rfl rfl entl_nil)))
   (fun c3 h => no_some h))
   (fun c2 h => no_some h)))
   (fun c0 h => ret_at hR _ h (fun n => n) rfl rfl rfl (rn_int rfl) rfl (entl_bor (use_lo rfl) rfl rfl entl_nil))
theorem a51 (al nl ml : Nat) (tl : Nat → Bool) (sk : Bool) {r : Rt51} (h : Goes ((q51 al nl ml tl sk)) ((p51 al nl ml tl sk)) r) : CallR Try.prog 51 [.loose ⟨0, 1, al, 0⟩ nl, .bool sk] [[(0, (false, .cols ml [.bool tl]))]] 1 ((V51 al nl ml tl sk) r) ((fun r => [newL (1 + 1) ((N51 al nl ml tl sk) r) ++ [(0, (false, .cols ml [.bool tl]))]]) r) 400 ∧ ∃ F, Try.prog.funcs[51]? = some F ∧ F.body.isSome = true ∧ (F.name == "runtime.NumGoroutine") = false := by
  refine dec_calls (f := 51) (lo := 1) (hi := 400) (H := [[(0, (false, .cols ml [.bool tl]))]]) (args := [.loose ⟨0, 1, al, 0⟩ nl, .bool sk]) Try.envOk Try.mixed noX_ok ((I51 al nl ml tl sk)) ((V51 al nl ml tl sk)) (fun r => [newL (1 + 1) ((N51 al nl ml tl sk) r) ++ [(0, (false, .cols ml [.bool tl]))]]) (fn := mkFn Try.f51) (ts := [0, 1, 7, 8]) (n := 400) rfl (by decide) (by simp) (names_of rfl) ?_ ?_ ?_ h
  · intro s; cases s <;> exact ⟨hd_ok _ _, by simp [I51], names_of rfl, Nat.le_of_ble_eq_true rfl⟩
  · intro Kst Kret x hS hR h
    exact Holds.eq (te51 cond Kst Kret al nl ml tl sk) (be51 al nl ml tl sk Kst Kret x hS hR h)
  · intro Kst Kret x hS hR s h
    cases s with
    | h0 x0 => exact Holds.eq (t51_0 cond Kst Kret al nl ml tl sk x0) (b51_0 al nl ml tl sk Kst Kret x hS hR x0 h)
noncomputable def k51 : Con := ⟨51, [.one (.list [.bool]), .one (.plain (.bool))], fun (x : (Nat × Nat × Nat × (Nat → Bool) × Unit) × Bool × Unit) => (fun (al nl ml : Nat) (tl : Nat → Bool) (sk : Bool) => decide (al + nl ≤ ml ∧ nl ≤ 1000000)) x.1.1 x.1.2.1 x.1.2.2.1 x.1.2.2.2.1 x.2.1, fun (x : (Nat × Nat × Nat × (Nat → Bool) × Unit) × Bool × Unit) => (fun (al nl ml : Nat) (tl : Nat → Bool) (sk : Bool) => (V51 al nl ml tl sk) (S.idx (fun j => (tl (j + al) == sk)) 0 nl)) x.1.1 x.1.2.1 x.1.2.2.1 x.1.2.2.2.1 x.2.1, fun (x : (Nat × Nat × Nat × (Nat → Bool) × Unit) × Bool × Unit) => (fun (al nl ml : Nat) (tl : Nat → Bool) (sk : Bool) => (N51 al nl ml tl sk) (S.idx (fun j => (tl (j + al) == sk)) 0 nl)) x.1.1 x.1.2.1 x.1.2.2.1 x.1.2.2.2.1 x.2.1, fun _ _ => .dead⟩
theorem s51' (al nl ml : Nat) (tl : Nat → Bool) (sk : Bool) (hp : al + nl ≤ ml ∧ nl ≤ 1000000) : ∀ k i : Nat, i + k = nl → Comes (q51 al nl ml tl sk) (.h0 (i : Int)) (S.idx (fun j => (tl (j + al) == sk)) i k) := by
  obtain ⟨hp1, hp2⟩ := hp
  intro k
  induction k with
  | zero =>
    intro i hi
    apply Comes.of
    show Goes _ _ _
    (first | rw [q51] | unfold q51)
    repeat' first
      | with_reducible refine goes_if (fun h => ?_) (fun h => ?_) <;> (try simp only [lim64, imp_false, decide_eq_true_eq, decide_eq_false_iff_not, Int.toNat_natCast, toNat_pred, toNat_succ, Option.getD_some, Option.getD_none, Bool.not_eq_true', Bool.not_eq_false', Bool.and_eq_true, Bool.or_eq_true, Bool.and_eq_false_iff, Bool.or_eq_false_iff, bne_iff_ne, beq_iff_eq, bne_eq_false_iff_eq, beq_eq_false_iff_ne, ne_eq, not_and, Int.not_le, Int.not_lt, ge_iff_le, gt_iff_lt, Nat.not_lt, Nat.not_le, Bool.not_eq_true, Bool.not_eq_false, Bool.true_eq_false, Bool.false_eq_true, not_false_eq_true, not_true_eq_false] at h)
      | exact goes_none.mpr (by omega)
    all_goals first | (exfalso; omega) | rfl | (refine Eq.mpr (congrArg (Comes _ _) ?_) True; simp only [S.idx, Bool.and_eq_true, Bool.or_eq_true, decide_eq_true_eq]; (repeat' split) <;> first | rfl | omega | (exfalso; omega) | (exfalso; simp_all; done) | (exfalso; simp_all; omega) | simp_all) | (refine goes_inr.mpr ?_; simp only [S.idx, Bool.and_eq_true, Bool.or_eq_true, decide_eq_true_eq]; (repeat' split) <;> first | rfl | omega | (exfalso; omega) | (exfalso; simp_all; done) | (exfalso; simp_all; omega) | simp_all)
  | succ k ih =>
    intro i hi
    have ih := ih (i + 1) (by omega)
    apply Comes.of
    show Goes _ _ _
    (first | rw [q51] | unfold q51)
    repeat' first
      | with_reducible refine goes_if (fun h => ?_) (fun h => ?_) <;> (try simp only [lim64, imp_false, decide_eq_true_eq, decide_eq_false_iff_not, Int.toNat_natCast, toNat_pred, toNat_succ, Option.getD_some, Option.getD_none, Bool.not_eq_true', Bool.not_eq_false', Bool.and_eq_true, Bool.or_eq_true, Bool.and_eq_false_iff, Bool.or_eq_false_iff, bne_iff_ne, beq_iff_eq, bne_eq_false_iff_eq, beq_eq_false_iff_ne, ne_eq, not_and, Int.not_le, Int.not_lt, ge_iff_le, gt_iff_lt, Nat.not_lt, Nat.not_le, Bool.not_eq_true, Bool.not_eq_false, Bool.true_eq_false, Bool.false_eq_true, not_false_eq_true, not_true_eq_false] at h)
      | exact goes_none.mpr (by omega)
    all_goals first | (exfalso; omega) | rfl | (refine Eq.mpr (congrArg (Comes _ _) ?_) ih; simp only [S.idx, Bool.and_eq_true, Bool.or_eq_true, decide_eq_true_eq]; (repeat' split) <;> first | rfl | omega | (exfalso; omega) | (exfalso; simp_all; done) | (exfalso; simp_all; omega) | simp_all) | (refine goes_inr.mpr ?_; simp only [S.idx, Bool.and_eq_true, Bool.or_eq_true, decide_eq_true_eq]; (repeat' split) <;> first | rfl | omega | (exfalso; omega) | (exfalso; simp_all; done) | (exfalso; simp_all; omega) | simp_all)
theorem s51 (al nl ml : Nat) (tl : Nat → Bool) (sk : Bool) (hp : al + nl ≤ ml ∧ nl ≤ 1000000) : Goes ((q51 al nl ml tl sk)) ((p51 al nl ml tl sk)) (S.idx (fun j => (tl (j + al) == sk)) 0 nl) := by
  exact s51' al nl ml tl sk hp nl 0 (by omega)
theorem k51_ok : k51.ok Try.prog := by
  intro x hx
  obtain ⟨⟨al, nl, ml, tl, _⟩, sk, _⟩ := x
  obtain ⟨h1, h2⟩ := a51 al nl ml tl sk (s51 al nl ml tl sk (of_dec hx rfl))
  exact ⟨⟨400, (by decide : 1 + 1 + 0 ≤ 400), h1⟩, h2⟩
noncomputable def xR0 (test : Bool → Prop → Prop → Prop) : Ext := consX test [k51, k46, k52]
theorem xR0_ok : ExtOk Try.prog (xR0 cond) := consX_ok ⟨k51_ok, k46_ok, k52_ok, trivial⟩

end Go.Ev
namespace Go.Ev
open Go.Proofs
set_option linter.unusedVariables false
set_option linter.unusedSimpArgs false
set_option maxRecDepth 100000
namespace S
/-- How many places from the i-th on, one behind the other, something holds at. -/
def runN (p : Nat → Bool) : Nat → Nat → Nat
  | _, 0 => 0
  | i, k + 1 => if p i = true then runN p (i + 1) k + 1 else 0
end S
theorem runN_le {p : Nat → Bool} : ∀ {k i : Nat}, S.runN p i k ≤ k
  | 0, _ => Nat.le_refl _
  | k + 1, i => by
    simp only [S.runN]
    split
    · have := runN_le (p := p) (k := k) (i := i + 1); omega
    · omega
namespace S
/-- Does a run of buckets that are w (filled or not) begin at bucket i of H? -/
def rst (b : Nat → Bool) (H : Nat) (w : Bool) (i : Nat) : Bool := (b i == w) && (b ((i + (H - 1)) % H) != w)
/-- How many buckets from i on, round the ring, are w. -/
def rlen (b : Nat → Bool) (H : Nat) (w : Bool) (i : Nat) : Nat := runN (fun n => b ((i + n) % H) == w) 0 H
def rg (b : Nat → Bool) (H : Nat) (w : Bool) (i : Nat) : Option (Int × Int) := if rst b H w i = true then some ((i : Int), (rlen b H w i : Int)) else none
/-- The runs, by their first buckets. -/
def rns (b : Nat → Bool) (H : Nat) (w : Bool) : List (Int × Int) := (List.range H).filterMap (rg b H w)
/-- Those of the first m places from f on. -/
def rF (b : Nat → Bool) (H : Nat) (w : Bool) (f m : Nat) : List (Int × Int) := (List.range m).filterMap fun k => rg b H w ((f + k) % H)
end S
theorem runN_is {p : Nat → Bool} : ∀ {n m i : Nat}, (∀ j, j < n → p (i + j) = true) → p (i + n) = false → n < m → S.runN p i m = n
  | 0, 0, _, _, _, h => absurd h (Nat.lt_irrefl _)
  | 0, m + 1, i, _, h, _ => by
    simp only [S.runN]
    rw [Nat.add_zero] at h
    rw [if_neg (by rw [h]; exact Bool.false_ne_true)]
  | n + 1, 0, _, _, _, h => absurd h (Nat.not_lt_zero _)
  | n + 1, m + 1, i, h0, h1, h2 => by
    simp only [S.runN]
    have := h0 0 (by omega)
    rw [Nat.add_zero] at this
    rw [if_pos this, runN_is (n := n) (fun j hj => by have := h0 (j + 1) (by omega); rwa [show i + 1 + j = i + (j + 1) by omega]) (by rwa [show i + 1 + n = i + (n + 1) by omega]) (by omega)]
theorem rF_succ {b : Nat → Bool} {H : Nat} {w : Bool} {f m : Nat} : S.rF b H w f (m + 1) = S.rF b H w f m ++ (S.rg b H w ((f + m) % H)).toList := by
  unfold S.rF
  rw [List.range_succ, List.filterMap_append]
  congr 1
theorem rF_none {b : Nat → Bool} {H : Nat} {w : Bool} {f m : Nat} (h : S.rg b H w ((f + m) % H) = none) : S.rF b H w f (m + 1) = S.rF b H w f m := by
  rw [rF_succ, h]; simp
/-- No run begins between: what is in the middle of one, and what is of the other kind. -/
theorem rF_skip {b : Nat → Bool} {H : Nat} {w : Bool} {f m : Nat} : ∀ {n : Nat}, (∀ t, m ≤ t → t < m + n → S.rg b H w ((f + t) % H) = none) → S.rF b H w f (m + n) = S.rF b H w f m
  | 0, _ => rfl
  | n + 1, h => by
    rw [← Nat.add_assoc, rF_none (h _ (by omega) (by omega)), rF_skip fun t h1 h2 => h t h1 (by omega)]
theorem pred_mod {H f s : Nat} (hH : 0 < H) (hs : 1 ≤ s) : ((f + s) % H + (H - 1)) % H = (f + (s - 1)) % H := by
  rw [Nat.mod_add_mod, show f + s + (H - 1) = f + (s - 1) + H by omega, Nat.add_mod_right]
theorem rg_off {b : Nat → Bool} {H : Nat} {w : Bool} {i : Nat} (h : b i ≠ w) : S.rg b H w i = none := by
  unfold S.rg S.rst
  rw [if_neg]
  simp [h]
theorem rg_mid {b : Nat → Bool} {H : Nat} {w : Bool} {f s : Nat} (hH : 0 < H) (hs : 1 ≤ s) (h : b ((f + (s - 1)) % H) = w) : S.rg b H w ((f + s) % H) = none := by
  unfold S.rg S.rst
  rw [if_neg]
  rw [pred_mod hH hs]
  simp [h]
theorem rg_on {b : Nat → Bool} {H : Nat} {w : Bool} {f s n : Nat} (hH : 0 < H) (hs : 1 ≤ s) (h0 : b ((f + (s - 1)) % H) ≠ w) (hn : 0 < n) (h1 : ∀ t, s ≤ t → t < s + n → b ((f + t) % H) = w) (h2 : b ((f + (s + n)) % H) ≠ w) (hl : n < H) :
    S.rg b H w ((f + s) % H) = some ((((f + s) % H : Nat) : Int), (n : Int)) := by
  have e1 : S.rst b H w ((f + s) % H) = true := by
    unfold S.rst
    rw [pred_mod hH hs, h1 s (Nat.le_refl _) (by omega)]
    simp [h0]
  have e2 : S.rlen b H w ((f + s) % H) = n := by
    unfold S.rlen
    refine runN_is (fun j hj => ?_) ?_ hl
    · simp only [Nat.zero_add, Nat.mod_add_mod]
      rw [Nat.add_assoc, h1 (s + j) (by omega) (by omega)]; simp
    · simp only [Nat.zero_add, Nat.mod_add_mod]
      rw [Nat.add_assoc]; simpa using h2
  unfold S.rg
  rw [if_pos e1, e2]
theorem rot_perm {H f : Nat} (hf : f < H) : ((List.range H).map fun k => (f + k) % H).Perm (List.range H) := by
  have e1 : ∀ a c : Nat, List.range (a + c) = List.range a ++ (List.range c).map (a + ·) := fun a c => by
    induction c with
    | zero => simp
    | succ c ih => rw [← Nat.add_assoc, List.range_succ, ih, List.range_succ, List.map_append, List.append_assoc]; rfl
  have e2 : (List.range H).map (fun k => (f + k) % H) = (List.range (H - f)).map (f + ·) ++ List.range f := by
    have e3 := e1 (H - f) f
    rw [show H - f + f = H by omega] at e3
    rw [e3, List.map_append, List.map_map]
    congr 1
    · apply List.map_congr_left
      intro k hk
      rw [List.mem_range] at hk
      exact Nat.mod_eq_of_lt (by omega)
    · have : (List.range f).map ((fun k => (f + k) % H) ∘ (H - f + ·)) = (List.range f).map id := by
        apply List.map_congr_left
        intro k hk
        rw [List.mem_range] at hk
        show (f + (H - f + k)) % H = k
        rw [show f + (H - f + k) = k + H by omega, Nat.add_mod_right, Nat.mod_eq_of_lt (by omega)]
      rw [this, List.map_id]
  have e4 := e1 f (H - f)
  rw [show f + (H - f) = H by omega] at e4
  rw [e2, e4]
  exact List.perm_append_comm
theorem rF_perm {b : Nat → Bool} {H : Nat} {w : Bool} {f : Nat} (hf : f < H) : (S.rF b H w f H).Perm (S.rns b H w) := by
  have := (rot_perm hf).filterMap (S.rg b H w)
  rw [List.filterMap_map] at this
  exact this
/-- Two lists of the same elements, in order: one. -/
theorem perm_eq {α : Type} {key : α → Int} : ∀ {L M : List α}, L.Perm M → L.Pairwise (fun x y => key x ≤ key y) → M.Pairwise (fun x y => key x < key y) → L = M
  | [], M, h, _, _ => h.nil_eq
  | c :: s, M, h, h1, h2 => by
    cases M with
    | nil => exact absurd h.length_eq (by simp)
    | cons a t =>
      rw [List.pairwise_cons] at h1 h2
      have ha : a ∈ c :: s := h.mem_iff.2 List.mem_cons_self
      have hc : c ∈ a :: t := h.mem_iff.1 List.mem_cons_self
      have hca : key c ≤ key a := by
        rcases List.mem_cons.1 ha with rfl | ha
        · exact Int.le_refl _
        · exact h1.1 a ha
      have e : c = a := by
        rcases List.mem_cons.1 hc with rfl | hc
        · rfl
        · have := h2.1 c hc; omega
      subst e
      rw [perm_eq h.cons_inv h1.2 h2.2]
theorem rns_asc {b : Nat → Bool} {H : Nat} {w : Bool} : (S.rns b H w).Pairwise (fun x y => x.1 < y.1) := by
  unfold S.rns
  rw [List.pairwise_filterMap]
  refine List.Pairwise.imp (R := (· < ·)) (fun {i j} hij x hx y hy => ?_) List.pairwise_lt_range
  unfold S.rg at hx hy
  split at hx <;> cases hx
  split at hy <;> cases hy
  show (i : Int) < (j : Int)
  omega
theorem rns_mem {b : Nat → Bool} {H : Nat} {w : Bool} {x : Int × Int} (h : x ∈ S.rns b H w) : 0 ≤ x.1 ∧ x.1 < H ∧ 0 ≤ x.2 ∧ x.2 ≤ H := by
  unfold S.rns at h
  rw [List.mem_filterMap] at h
  obtain ⟨i, hi, hx⟩ := h
  rw [List.mem_range] at hi
  unfold S.rg at hx
  split at hx <;> cases hx
  have : S.rlen b H w i ≤ H := runN_le
  exact ⟨by omega, by simp; omega, by omega, by simp; omega⟩

namespace S
/-- The runs of buckets that are w, by their first buckets; all of them one run. -/
def runsS (b : Nat → Bool) (H : Nat) (w : Bool) : List (Int × Int) := if any (fun i => b i == !w) H = true then rns b H w else [(0, (H : Int))]
end S
theorem mod_sub {H f k n a : Nat} (hH : 0 < H) (ha : a = (f + k) % H) (hn : n ≤ k) (hl : n < H) : Int.tmod (Int.tmod ((a : Int) - (n : Int)) (H : Int) + (H : Int)) (H : Int) = (((f + (k - n)) % H : Nat) : Int) := by
  have hd := Nat.div_add_mod (f + k) H
  rw [← ha] at hd
  have hlt : a < H := by rw [ha]; exact Nat.mod_lt _ hH
  generalize hq : (f + k) / H = q at hd
  by_cases h : n ≤ a
  · have e1 : (f + (k - n)) % H = a - n := by
      rw [show f + (k - n) = (a - n) + H * q by omega, Nat.add_mul_mod_self_left, Nat.mod_eq_of_lt (by omega)]
    rw [e1, show (a : Int) - (n : Int) = ((a - n : Nat) : Int) by omega]
    have e2 : Int.tmod ((a - n : Nat) : Int) (H : Int) = ((a - n : Nat) : Int) := Int.tmod_eq_of_lt (by omega) (by omega)
    rw [e2]
    show (((a - n + H) % H : Nat) : Int) = _
    rw [Nat.add_mod_right, Nat.mod_eq_of_lt (by omega)]
  · have hq1 : 1 ≤ q := by
      rcases Nat.eq_zero_or_pos q with h0 | h0
      · subst h0; omega
      · exact h0
    have e1 : (f + (k - n)) % H = a + H - n := by
      obtain ⟨q', rfl⟩ : ∃ q', q = q' + 1 := ⟨q - 1, by omega⟩
      rw [Nat.mul_add, Nat.mul_one] at hd
      rw [show f + (k - n) = (a + H - n) + H * q' by omega, Nat.add_mul_mod_self_left, Nat.mod_eq_of_lt (by omega)]
    have e2 : Int.tmod ((a : Int) - (n : Int)) (H : Int) = (a : Int) - (n : Int) := by
      rw [show (a : Int) - (n : Int) = -((n - a : Nat) : Int) by omega, Int.neg_tmod, Int.tmod_eq_of_lt (by omega) (by omega)]
    rw [e1, e2, show (a : Int) - (n : Int) + (H : Int) = ((a + H - n : Nat) : Int) by omega]
    exact Int.tmod_eq_of_lt (by omega) (by omega)
theorem rF_len {b : Nat → Bool} {H : Nat} {w : Bool} {f m : Nat} : (S.rF b H w f m).length ≤ m := by
  have := List.length_filterMap_le (fun k => S.rg b H w ((f + k) % H)) (List.range m)
  rwa [List.length_range] at this
/-- What slices.SortFunc makes of the runs as they are found. -/
theorem sort_runs {b : Nat → Bool} {H : Nat} {w : Bool} {f : Nat} (hf : f < H) (hH : H ≤ 1000000) (hb : b f ≠ w) {L : List (Int × Int)} (hL : L = S.rF b H w f (H + 1)) :
    S.far L.length (fun j => (S.at' L j).1) = true ∧ S.sortT L.length (fun j => (S.at' L j).1) (fun j => (S.at' L j).2) = S.rns b H w := by
  have e0 : S.rF b H w f (H + 1) = S.rF b H w f H := rF_none (rg_off (by rw [Nat.add_mod_right, Nat.mod_eq_of_lt hf]; exact hb))
  rw [e0] at hL
  have hp : L.Perm (S.rns b H w) := hL ▸ rF_perm hf
  have hm : ∀ x ∈ L, -1099511627776 ≤ x.1 ∧ x.1 ≤ 1099511627776 := fun x hx => by
    have := rns_mem (hp.mem_iff.1 hx); omega
  have hat : ∀ j, j < L.length → S.at' L j ∈ L := fun j hj => by
    unfold S.at'
    rw [List.getD_eq_getElem?_getD, List.getElem?_eq_getElem hj]
    exact List.getElem_mem _
  refine ⟨decide_eq_true fun j hj => hm _ (hat j hj), ?_⟩
  have e1 : (S.mkl L.length fun j => ((S.at' L j).1, (S.at' L j).2)) = L := mkl_at L
  have p1 : (S.sortT L.length (fun j => (S.at' L j).1) (fun j => (S.at' L j).2)).Perm L := by
    have := sortT_perm (n := L.length) (t := fun j => (S.at' L j).1) (v := fun j => (S.at' L j).2)
    rwa [e1] at this
  refine perm_eq (key := fun x => S.cl x.1) (p1.trans hp) sortT_asc ?_
  refine rns_asc.imp_of_mem fun {x y} hx hy h => ?_
  have h1 := rns_mem hx
  have h2 := rns_mem hy
  show S.cl x.1 < S.cl y.1
  rw [cl_id (by omega), cl_id (by omega)]
  exact h

end Go.Ev
