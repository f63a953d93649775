/-
  The parts that the statement needs, 1 of 1.
-/
import Derived.Test.YtkimaegmdhfooaaEnv
import Derived.Test.YtkimaegmdhfooaaEvY
import Derived.Test.YtkimaegmdhfooaaKit
namespace Go.Ev
open Go.Proofs
set_option linter.unusedVariables false
set_option linter.unusedSimpArgs false
set_option maxRecDepth 100000
theorem SH : type_of% (And.intro @lim64 (And.intro @imp_false (And.intro @decide_eq_true_eq (And.intro @decide_eq_false_iff_not (And.intro @Int.toNat_natCast (And.intro @toNat_pred (And.intro @toNat_succ (And.intro @Option.getD_some.{0} (And.intro @Option.getD_none.{0} (And.intro @Bool.not_eq_true' (And.intro @Bool.not_eq_false' (And.intro @Bool.and_eq_true (And.intro @Bool.or_eq_true (And.intro @Bool.and_eq_false_iff (And.intro @Bool.or_eq_false_iff (And.intro @bne_iff_ne.{0} (And.intro @beq_iff_eq.{0} (And.intro @bne_eq_false_iff_eq.{0} (And.intro @beq_eq_false_iff_ne.{0} (And.intro @ne_eq.{1} (And.intro @not_and (And.intro @Int.not_le (And.intro @Int.not_lt (And.intro @ge_iff_le.{0} (And.intro @gt_iff_lt.{0} (And.intro @Nat.not_lt (And.intro @Nat.not_le (And.intro @Bool.not_eq_true (And.intro @Bool.not_eq_false (And.intro @Bool.true_eq_false (And.intro @Bool.false_eq_true (And.intro @not_false_eq_true @not_true_eq_false)))))))))))))))))))))))))))))))) :=
  (And.intro @lim64 (And.intro @imp_false (And.intro @decide_eq_true_eq (And.intro @decide_eq_false_iff_not (And.intro @Int.toNat_natCast (And.intro @toNat_pred (And.intro @toNat_succ (And.intro @Option.getD_some.{0} (And.intro @Option.getD_none.{0} (And.intro @Bool.not_eq_true' (And.intro @Bool.not_eq_false' (And.intro @Bool.and_eq_true (And.intro @Bool.or_eq_true (And.intro @Bool.and_eq_false_iff (And.intro @Bool.or_eq_false_iff (And.intro @bne_iff_ne.{0} (And.intro @beq_iff_eq.{0} (And.intro @bne_eq_false_iff_eq.{0} (And.intro @beq_eq_false_iff_ne.{0} (And.intro @ne_eq.{1} (And.intro @not_and (And.intro @Int.not_le (And.intro @Int.not_lt (And.intro @ge_iff_le.{0} (And.intro @gt_iff_lt.{0} (And.intro @Nat.not_lt (And.intro @Nat.not_le (And.intro @Bool.not_eq_true (And.intro @Bool.not_eq_false (And.intro @Bool.true_eq_false (And.intro @Bool.false_eq_true (And.intro @not_false_eq_true @not_true_eq_false))))))))))))))))))))))))))))))))
abbrev TT := Bool → Prop → Prop → Prop
abbrev NI := Nat → Int
namespace S
def any (p : Nat → Bool) (n : Nat) : Bool := (List.range n).any p
end S
namespace S
def all (p : Nat → Bool) (n : Nat) : Bool := (List.range n).all p
end S
theorem all_iff  {p : Nat → Bool} {n : Nat} : S.all p n = true ↔ ∀ j, j < n → p j = true := by simp [S.all]
theorem all_no  {p : Nat → Bool} {n i : Nat} (hi : i < n) (h : p i = false) : ¬ S.all p n = true := fun e => by rw [all_iff.mp e i hi] at h; cases h
theorem all_succ  {p : Nat → Bool} {n : Nat} : S.all p (n + 1) = (S.all p n && p n) := by simp [S.all, List.range_succ]
namespace S
def evB (a n c s p : Int) : Bool := decide ((0 ≤ a ∧ a ≤ 1099511627776) ∧ (1 ≤ n ∧ n ≤ 999) ∧ (0 ≤ c ∧ c ≤ 1048576) ∧ (0 ≤ s ∧ s ≤ 99) ∧ -1099511627776 ≤ p ∧ p ≤ 1099511627776)
def evE (a n c s p : Int) : Int := if evB a n c s p = true then 0 else 6
def cmpN (a b : Int) : Int := if a < b then -1 else if a > b then 1 else 0
def or0 (a b : Int) : Int := if a = 0 then b else a
def ecmp (a n c s p a' n' c' s' p' : Int) : Int := or0 (cmpN a a') (or0 (cmpN s s') (or0 (cmpN n n') (or0 (cmpN c c') (cmpN p p'))))
end S
abbrev St40  := Empty
abbrev Rt40  := Int
noncomputable def V40 (u v : Int) (r : Rt40) : PV := PV.int .i64 r
noncomputable def N40 (u v : Int) (r : Rt40) : List Blk := []
noncomputable def I40 (u v : Int) : St40 → Hd := fun s => s.elim
noncomputable def q40 (u v : Int) : St40 → Option (St40 ⊕ Rt40) := fun s => s.elim
noncomputable def p40 (u v : Int) : Option (St40 ⊕ Rt40) := bif (u != u) then (bif (v != v) then (some (.inr ((0 : Int)))) else (some (.inr ((-1 : Int))))) else (bif (v != v) then (some (.inr ((1 : Int)))) else (bif (decide (u < v)) then (some (.inr ((-1 : Int)))) else (bif (decide (u > v)) then (some (.inr ((1 : Int)))) else (some (.inr ((0 : Int)))))))
noncomputable def Te40 (test : TT) (Kst : KS) (Kret : KR) (u v : Int) : Prop := test (u != u) (test (v != v) (Kret (PV.int .i64 (0 : Int)) ([[]]) (0)) (Kret (PV.int .i64 (-1 : Int)) ([[]]) (0))) (test (v != v) (Kret (PV.int .i64 (1 : Int)) ([[]]) (0)) (test (decide (u < v)) (Kret (PV.int .i64 (-1 : Int)) ([[]]) (0)) (test (decide (u > v)) (Kret (PV.int .i64 (1 : Int)) ([[]]) (0)) (Kret (PV.int .i64 (0 : Int)) ([[]]) (0)))))
theorem te40 (test : TT) (Kst : KS) (Kret : KR) (u v : Int) : run test Try.env true noX true 400 ⟨40, [.cd (mkFn Try.f40).body], argT 0 [.int .i64 u, .int .i64 v], [[], []], 0⟩ (proj 0 [] Kst Kret) =
  Te40 test Kst Kret u v := by kernel_rfl
attribute [local irreducible] Int.subNatNat in
theorem be40 (u v : Int) (Kst : KS) (Kret : KR) (x : St40 ⊕ Rt40) (hS : HS 0 400 ((I40 u v)) Kst x) (hR : HR 0 400 ((V40 u v)) (fun r => [newL (0 + 1) ((N40 u v) r) ++ []]) Kret x) (h : p40 u v = some x) : Te40 cond Kst Kret u v := by
  unfold Te40
  unfold p40 at h
  refine bif_split h (fun c0 h => bif_split h (fun c1 h => ?_) (fun c1 h => ?_)) (fun c0 h => bif_split h (fun c1 h => ?_) (fun c1 h => bif_split h (fun c2 h => ?_) (fun c2 h => bif_split h (fun c3 h => ?_) (fun c3 h => ?_))))
  all_goals first
    | exact ret_at hR _ h (fun n => n) rfl rfl rfl (rn_int rfl) rfl entl_nil
theorem a40 (u v : Int) {r : Rt40} (h : Goes ((q40 u v)) ((p40 u v)) r) : CallR Try.prog 40 [.int .i64 u, .int .i64 v] [[]] 0 ((V40 u v) r) ((fun r => [newL (0 + 1) ((N40 u v) r) ++ []]) r) 400 ∧ ∃ F, Try.prog.funcs[40]? = some F ∧ F.body.isSome = true ∧ (F.name == "runtime.NumGoroutine") = false := by
  refine dec_calls (f := 40) (lo := 0) (hi := 400) Try.envOk Try.mixed noX_ok ((I40 u v)) ((V40 u v)) (fun r => [newL (0 + 1) ((N40 u v) r) ++ []]) (fn := mkFn Try.f40) (ts := []) (n := 400) rfl (by decide) (by simp) (names_of rfl) ?_ ?_ ?_ h
  · intro s; exact s.elim
  · intro Kst Kret x hS hR h
    exact Holds.eq (te40 cond Kst Kret u v) (be40 u v Kst Kret x hS hR h)
  · intro Kst Kret x hS hR s h; exact s.elim
noncomputable abbrev w40 {α : Type} (g : Int → Int → α) (x : Int × Int × Unit) : α := g x.1 x.2.1
noncomputable def k40  : Con := ⟨40, [.one (.plain (.int .i64)), .one (.plain (.int .i64))], w40 (fun u v => decide (True)), w40 (fun u v => (V40 u v) (S.cmpN u v)), w40 (fun u v => (N40 u v) (S.cmpN u v)), fun _ _ => .dead⟩
theorem s40 (u v : Int) (hp : True) : Goes ((q40 u v)) ((p40 u v)) (S.cmpN u v) := by
  unfold S.cmpN
  show Goes _ _ _
  unfold p40
  repeat' (first | with_reducible refine goes_if (fun h => ?_) (fun h => ?_) <;> (try simp only [SH] at h) | exact goes_none.mpr (by omega))
  all_goals first
    | (exfalso; omega)
    | (refine goes_inr.mpr ?_; (repeat' split) <;> first | rfl | (exfalso; omega))
theorem k40_ok  : k40.ok Try.prog := by
  intro x hx
  obtain ⟨u, v, _⟩ := x
  obtain ⟨h1, h2⟩ := a40 u v (s40 u v (of_dec hx rfl))
  exact ⟨⟨400, (by decide : 0 + 1 + 0 ≤ 400), h1⟩, h2⟩
abbrev St14  := Empty
abbrev Rt14  := Int
noncomputable def V14 (ta tn tc ts tp : Int) (r : Rt14) : PV := PV.int .i64 r
noncomputable def N14 (ta tn tc ts tp : Int) (r : Rt14) : List Blk := []
noncomputable def I14 (ta tn tc ts tp : Int) : St14 → Hd := fun s => s.elim
noncomputable def q14 (ta tn tc ts tp : Int) : St14 → Option (St14 ⊕ Rt14) := fun s => s.elim
noncomputable def p14 (ta tn tc ts tp : Int) : Option (St14 ⊕ Rt14) := bif (decide (ta ≥ 0)) then (bif (decide (ta ≤ 1099511627776)) then (bif (decide (tn ≥ 1)) then (bif (decide (tn ≤ 999)) then (bif (decide (tc ≥ 0)) then (bif (decide (tc ≤ 1048576)) then (bif (decide (ts ≥ 0)) then (bif (decide (ts ≤ 99)) then (bif (decide (tp ≥ -1099511627776)) then (bif (decide (tp ≤ 1099511627776)) then (some (.inr ((0 : Int)))) else (some (.inr ((6 : Int))))) else (some (.inr ((6 : Int))))) else (some (.inr ((6 : Int))))) else (some (.inr ((6 : Int))))) else (some (.inr ((6 : Int))))) else (some (.inr ((6 : Int))))) else (some (.inr ((6 : Int))))) else (some (.inr ((6 : Int))))) else (some (.inr ((6 : Int))))) else (some (.inr ((6 : Int))))
noncomputable def Te14 (test : TT) (Kst : KS) (Kret : KR) (ta tn tc ts tp : Int) : Prop := test (decide (ta ≥ 0)) (test (decide (ta ≤ 1099511627776)) (test (decide (tn ≥ 1)) (test (decide (tn ≤ 999)) (test (decide (tc ≥ 0)) (test (decide (tc ≤ 1048576)) (test (decide (ts ≥ 0)) (test (decide (ts ≤ 99)) (test (decide (tp ≥ -1099511627776)) (test (decide (tp ≤ 1099511627776)) (Kret (PV.int .i64 (0 : Int)) ([[]]) (1)) (Kret (PV.int .i64 (6 : Int)) ([[]]) (1))) (Kret (PV.int .i64 (6 : Int)) ([[]]) (1))) (Kret (PV.int .i64 (6 : Int)) ([[]]) (1))) (Kret (PV.int .i64 (6 : Int)) ([[]]) (1))) (Kret (PV.int .i64 (6 : Int)) ([[]]) (1))) (Kret (PV.int .i64 (6 : Int)) ([[]]) (1))) (Kret (PV.int .i64 (6 : Int)) ([[]]) (1))) (Kret (PV.int .i64 (6 : Int)) ([[]]) (1))) (Kret (PV.int .i64 (6 : Int)) ([[]]) (1))) (Kret (PV.int .i64 (6 : Int)) ([[]]) (1))
theorem te14 (test : TT) (Kst : KS) (Kret : KR) (ta tn tc ts tp : Int) : run test Try.env true noX true 400 ⟨14, [.cd (mkFn Try.f14).body], argT 0 [.agg [.int .i64 ta, .int .i64 tn, .int .i64 tc, .int .i64 ts, .int .i64 tp]], [[], []], 0⟩ (proj 0 [] Kst Kret) =
  Te14 test Kst Kret ta tn tc ts tp := by kernel_rfl
attribute [local irreducible] Int.subNatNat in
theorem be14 (ta tn tc ts tp : Int) (Kst : KS) (Kret : KR) (x : St14 ⊕ Rt14) (hS : HS 0 400 ((I14 ta tn tc ts tp)) Kst x) (hR : HR 0 400 ((V14 ta tn tc ts tp)) (fun r => [newL (0 + 1) ((N14 ta tn tc ts tp) r) ++ []]) Kret x) (h : p14 ta tn tc ts tp = some x) : Te14 cond Kst Kret ta tn tc ts tp := by
  unfold Te14
  unfold p14 at h
  refine bif_split h (fun c0 h => bif_split h (fun c1 h => bif_split h (fun c2 h => bif_split h (fun c3 h => bif_split h (fun c4 h => bif_split h (fun c5 h => bif_split h (fun c6 h => bif_split h (fun c7 h => bif_split h (fun c8 h => bif_split h (fun c9 h => ?_) (fun c9 h => ?_)) (fun c8 h => ?_)) (fun c7 h => ?_)) (fun c6 h => ?_)) (fun c5 h => ?_)) (fun c4 h => ?_)) (fun c3 h => ?_)) (fun c2 h => ?_)) (fun c1 h => ?_)) (fun c0 h => ?_)
  all_goals first
    | exact ret_at hR _ h (fun n => n) rfl rfl rfl (rn_int rfl) rfl entl_nil
theorem a14 (ta tn tc ts tp : Int) {r : Rt14} (h : Goes ((q14 ta tn tc ts tp)) ((p14 ta tn tc ts tp)) r) : CallR Try.prog 14 [.agg [.int .i64 ta, .int .i64 tn, .int .i64 tc, .int .i64 ts, .int .i64 tp]] [[]] 0 ((V14 ta tn tc ts tp) r) ((fun r => [newL (0 + 1) ((N14 ta tn tc ts tp) r) ++ []]) r) 400 ∧ ∃ F, Try.prog.funcs[14]? = some F ∧ F.body.isSome = true ∧ (F.name == "runtime.NumGoroutine") = false := by
  refine dec_calls (f := 14) (lo := 0) (hi := 400) Try.envOk Try.mixed noX_ok ((I14 ta tn tc ts tp)) ((V14 ta tn tc ts tp)) (fun r => [newL (0 + 1) ((N14 ta tn tc ts tp) r) ++ []]) (fn := mkFn Try.f14) (ts := []) (n := 400) rfl (by decide) (by simp) (names_of rfl) ?_ ?_ ?_ h
  · intro s; exact s.elim
  · intro Kst Kret x hS hR h
    exact Holds.eq (te14 cond Kst Kret ta tn tc ts tp) (be14 ta tn tc ts tp Kst Kret x hS hR h)
  · intro Kst Kret x hS hR s h; exact s.elim
noncomputable abbrev w14 {α : Type} (g : Int → Int → Int → Int → Int → α) (x : (Int × Int × Int × Int × Int × Unit) × Unit) : α := g x.1.1 x.1.2.1 x.1.2.2.1 x.1.2.2.2.1 x.1.2.2.2.2.1
noncomputable def k14  : Con := ⟨14, [.agg [.plain (.int .i64), .plain (.int .i64), .plain (.int .i64), .plain (.int .i64), .plain (.int .i64)]], w14 (fun ta tn tc ts tp => decide (True)), w14 (fun ta tn tc ts tp => (V14 ta tn tc ts tp) (S.evE ta tn tc ts tp)), w14 (fun ta tn tc ts tp => (N14 ta tn tc ts tp) (S.evE ta tn tc ts tp)), fun _ _ => .dead⟩
theorem s14 (ta tn tc ts tp : Int) (hp : True) : Goes ((q14 ta tn tc ts tp)) ((p14 ta tn tc ts tp)) (S.evE ta tn tc ts tp) := by
  unfold S.evE S.evB
  simp only [decide_eq_true_eq]
  show Goes _ _ _
  unfold p14
  repeat' (first | with_reducible refine goes_if (fun h => ?_) (fun h => ?_) <;> (try simp only [SH] at h) | exact goes_none.mpr (by omega))
  all_goals first
    | (exfalso; omega)
    | (rw [if_pos (by omega)]; exact goes_inr.mpr rfl)
    | (rw [if_neg (by omega)]; exact goes_inr.mpr rfl)
theorem k14_ok  : k14.ok Try.prog := by
  intro x hx
  obtain ⟨⟨ta, tn, tc, ts, tp, _⟩, _⟩ := x
  obtain ⟨h1, h2⟩ := a14 ta tn tc ts tp (s14 ta tn tc ts tp (of_dec hx rfl))
  exact ⟨⟨400, (by decide : 0 + 1 + 0 ≤ 400), h1⟩, h2⟩
abbrev St15  := Empty
abbrev Rt15  := Int
noncomputable def V15 (ta tn tc ts tp : Int) (r : Rt15) : PV := PV.int .i64 r
noncomputable def N15 (ta tn tc ts tp : Int) (r : Rt15) : List Blk := []
noncomputable def I15 (ta tn tc ts tp : Int) : St15 → Hd := fun s => s.elim
noncomputable def q15 (ta tn tc ts tp : Int) : St15 → Option (St15 ⊕ Rt15) := fun s => s.elim
noncomputable def p15 (ta tn tc ts tp : Int) : Option (St15 ⊕ Rt15) := bif (decide (ta ≥ 0)) then (bif (decide (ta ≤ 1099511627776)) then (bif (decide (tn ≥ 1)) then (bif (decide (tn ≤ 999)) then (bif (decide (tc ≥ 0)) then (bif (decide (tc ≤ 1048576)) then (bif (decide (ts ≥ 0)) then (bif (decide (ts ≤ 99)) then (bif (decide (tp ≥ -1099511627776)) then (bif (decide (tp ≤ 1099511627776)) then (some (.inr ((0 : Int)))) else (some (.inr ((6 : Int))))) else (some (.inr ((6 : Int))))) else (some (.inr ((6 : Int))))) else (some (.inr ((6 : Int))))) else (some (.inr ((6 : Int))))) else (some (.inr ((6 : Int))))) else (some (.inr ((6 : Int))))) else (some (.inr ((6 : Int))))) else (some (.inr ((6 : Int))))) else (some (.inr ((6 : Int))))
noncomputable def Te15 (test : TT) (Kst : KS) (Kret : KR) (ta tn tc ts tp : Int) : Prop := test (decide (ta ≥ 0)) (test (decide (ta ≤ 1099511627776)) (test (decide (tn ≥ 1)) (test (decide (tn ≤ 999)) (test (decide (tc ≥ 0)) (test (decide (tc ≤ 1048576)) (test (decide (ts ≥ 0)) (test (decide (ts ≤ 99)) (test (decide (tp ≥ -1099511627776)) (test (decide (tp ≤ 1099511627776)) (Kret (PV.int .i64 (0 : Int)) ([[]]) (1)) (Kret (PV.int .i64 (6 : Int)) ([[]]) (1))) (Kret (PV.int .i64 (6 : Int)) ([[]]) (1))) (Kret (PV.int .i64 (6 : Int)) ([[]]) (1))) (Kret (PV.int .i64 (6 : Int)) ([[]]) (1))) (Kret (PV.int .i64 (6 : Int)) ([[]]) (1))) (Kret (PV.int .i64 (6 : Int)) ([[]]) (1))) (Kret (PV.int .i64 (6 : Int)) ([[]]) (1))) (Kret (PV.int .i64 (6 : Int)) ([[]]) (1))) (Kret (PV.int .i64 (6 : Int)) ([[]]) (1))) (Kret (PV.int .i64 (6 : Int)) ([[]]) (1))
theorem te15 (test : TT) (Kst : KS) (Kret : KR) (ta tn tc ts tp : Int) : run test Try.env true noX true 400 ⟨15, [.cd (mkFn Try.f15).body], argT 0 [.agg [.int .i64 ta, .int .i64 tn, .int .i64 tc, .int .i64 ts, .int .i64 tp]], [[], []], 0⟩ (proj 0 [] Kst Kret) =
  Te15 test Kst Kret ta tn tc ts tp := by kernel_rfl
attribute [local irreducible] Int.subNatNat in
theorem be15 (ta tn tc ts tp : Int) (Kst : KS) (Kret : KR) (x : St15 ⊕ Rt15) (hS : HS 0 400 ((I15 ta tn tc ts tp)) Kst x) (hR : HR 0 400 ((V15 ta tn tc ts tp)) (fun r => [newL (0 + 1) ((N15 ta tn tc ts tp) r) ++ []]) Kret x) (h : p15 ta tn tc ts tp = some x) : Te15 cond Kst Kret ta tn tc ts tp := by
  unfold Te15
  unfold p15 at h
  refine bif_split h (fun c0 h => bif_split h (fun c1 h => bif_split h (fun c2 h => bif_split h (fun c3 h => bif_split h (fun c4 h => bif_split h (fun c5 h => bif_split h (fun c6 h => bif_split h (fun c7 h => bif_split h (fun c8 h => bif_split h (fun c9 h => ?_) (fun c9 h => ?_)) (fun c8 h => ?_)) (fun c7 h => ?_)) (fun c6 h => ?_)) (fun c5 h => ?_)) (fun c4 h => ?_)) (fun c3 h => ?_)) (fun c2 h => ?_)) (fun c1 h => ?_)) (fun c0 h => ?_)
  all_goals first
    | exact ret_at hR _ h (fun n => n) rfl rfl rfl (rn_int rfl) rfl entl_nil
theorem a15 (ta tn tc ts tp : Int) {r : Rt15} (h : Goes ((q15 ta tn tc ts tp)) ((p15 ta tn tc ts tp)) r) : CallR Try.prog 15 [.agg [.int .i64 ta, .int .i64 tn, .int .i64 tc, .int .i64 ts, .int .i64 tp]] [[]] 0 ((V15 ta tn tc ts tp) r) ((fun r => [newL (0 + 1) ((N15 ta tn tc ts tp) r) ++ []]) r) 400 ∧ ∃ F, Try.prog.funcs[15]? = some F ∧ F.body.isSome = true ∧ (F.name == "runtime.NumGoroutine") = false := by
  refine dec_calls (f := 15) (lo := 0) (hi := 400) Try.envOk Try.mixed noX_ok ((I15 ta tn tc ts tp)) ((V15 ta tn tc ts tp)) (fun r => [newL (0 + 1) ((N15 ta tn tc ts tp) r) ++ []]) (fn := mkFn Try.f15) (ts := []) (n := 400) rfl (by decide) (by simp) (names_of rfl) ?_ ?_ ?_ h
  · intro s; exact s.elim
  · intro Kst Kret x hS hR h
    exact Holds.eq (te15 cond Kst Kret ta tn tc ts tp) (be15 ta tn tc ts tp Kst Kret x hS hR h)
  · intro Kst Kret x hS hR s h; exact s.elim
noncomputable abbrev w15 {α : Type} (g : Int → Int → Int → Int → Int → α) (x : (Int × Int × Int × Int × Int × Unit) × Unit) : α := g x.1.1 x.1.2.1 x.1.2.2.1 x.1.2.2.2.1 x.1.2.2.2.2.1
noncomputable def k15  : Con := ⟨15, [.agg [.plain (.int .i64), .plain (.int .i64), .plain (.int .i64), .plain (.int .i64), .plain (.int .i64)]], w15 (fun ta tn tc ts tp => decide (True)), w15 (fun ta tn tc ts tp => (V15 ta tn tc ts tp) (S.evE ta tn tc ts tp)), w15 (fun ta tn tc ts tp => (N15 ta tn tc ts tp) (S.evE ta tn tc ts tp)), fun _ _ => .dead⟩
theorem s15 (ta tn tc ts tp : Int) (hp : True) : Goes ((q15 ta tn tc ts tp)) ((p15 ta tn tc ts tp)) (S.evE ta tn tc ts tp) := by
  unfold S.evE S.evB
  simp only [decide_eq_true_eq]
  show Goes _ _ _
  unfold p15
  repeat' (first | with_reducible refine goes_if (fun h => ?_) (fun h => ?_) <;> (try simp only [SH] at h) | exact goes_none.mpr (by omega))
  all_goals first
    | (exfalso; omega)
    | (rw [if_pos (by omega)]; exact goes_inr.mpr rfl)
    | (rw [if_neg (by omega)]; exact goes_inr.mpr rfl)
theorem k15_ok  : k15.ok Try.prog := by
  intro x hx
  obtain ⟨⟨ta, tn, tc, ts, tp, _⟩, _⟩ := x
  obtain ⟨h1, h2⟩ := a15 ta tn tc ts tp (s15 ta tn tc ts tp (of_dec hx rfl))
  exact ⟨⟨400, (by decide : 0 + 1 + 0 ≤ 400), h1⟩, h2⟩
noncomputable def xA0 (test : Bool → Prop → Prop → Prop) : Ext := consX test [k40, k14, k15]
theorem xA0_ok  : ExtOk Try.prog (xA0 cond) := consX_ok ⟨k40_ok, k14_ok, k15_ok, trivial⟩
section
variable {P : Program} {E : Env} (ok : EnvOk P E) (hm : P.follows .mixedOrders = true) {X : Ext} (hX : ExtOk P X)
include ok hm hX
theorem dec_free  {lo hi : Nat} {R : Type} {q : Empty → Option (Empty ⊕ R)} {p : Option (Empty ⊕ R)} {r : R} (I : Empty → Hd) (V : R → PV) (H1 : R → Heap) {f : FuncId} {fn : FnI} {args : List PV} {H : Heap} {n : Nat} (hf : nthFn E.fs f = some fn) (hl : lo ≤ hi) (hne : H ≠ []) (hN : Names H lo)
    (entry : ∀ Kst Kret x, HS lo hi I Kst x → HR lo hi V H1 Kret x → p = some x → Holds (run cond E true X false n ⟨f, [.cd fn.body], argT 0 args, [] :: H, lo⟩ (proj lo [] Kst Kret)))
    (h : Goes q p r) : CallR P f args H lo (V r) (H1 r) hi ∧ ∃ F, P.funcs[f]? = some F ∧ F.body.isSome = true ∧ (F.name == "runtime.NumGoroutine") = false := by
  cases hp : p with
  | none => rw [hp] at h; exact h.elim
  | some x =>
    rw [hp] at h
    cases x with
    | inl s => exact s.elim
    | inr r' =>
      cases h
      exact calls_free ok hm hX hf hl hne hN (entry (fun _ _ _ _ => False) _ (.inr _) (fun s => s.elim) (fun r hr v' H' fr' h => by cases hr; exact h) hp)
end
theorem cmpN_k (a b : Int) : (a < b ∧ S.cmpN a b = -1) ∨ (a = b ∧ S.cmpN a b = 0) ∨ (a > b ∧ S.cmpN a b = 1) := by
  unfold S.cmpN
  rcases Int.lt_trichotomy a b with h | h | h
  · left; exact ⟨h, if_pos h⟩
  · right; left; exact ⟨h, by rw [if_neg (by omega), if_neg (by omega)]⟩
  · right; right; exact ⟨h, by rw [if_neg (by omega), if_pos h]⟩
theorem or0_0  {x : Int} : S.or0 0 x = x := rfl
abbrev St13  := Empty
abbrev Rt13  := Int
noncomputable def V13 (ta tn tc ts tp ua un uc us up : Int) (r : Rt13) : PV := PV.int .i64 r
noncomputable def N13 (ta tn tc ts tp ua un uc us up : Int) (r : Rt13) : List Blk := []
noncomputable def I13 (ta tn tc ts tp ua un uc us up : Int) : St13 → Hd := fun s => s.elim
noncomputable def q13 (ta tn tc ts tp ua un uc us up : Int) : St13 → Option (St13 ⊕ Rt13) := fun s => s.elim
noncomputable def p13 (ta tn tc ts tp ua un uc us up : Int) : Option (St13 ⊕ Rt13) := bif (S.cmpN ta ua != 0) then (some (.inr (S.cmpN ta ua))) else (bif (S.cmpN ts us != 0) then (some (.inr (S.cmpN ts us))) else (bif (S.cmpN tn un != 0) then (some (.inr (S.cmpN tn un))) else (bif (S.cmpN tc uc != 0) then (some (.inr (S.cmpN tc uc))) else (bif (S.cmpN tp up != 0) then (some (.inr (S.cmpN tp up))) else (some (.inr ((0 : Int))))))))
noncomputable def Te13 (test : TT) (Kst : KS) (Kret : KR) (ta tn tc ts tp ua un uc us up : Int) : Prop := test (true) (test (true) (test (true) (test (true) (test (true) (test (true) (test (true) (test (S.cmpN ta ua != 0) (Kret (PV.int .i64 (S.cmpN ta ua)) ([[]]) (8)) (test (true) (test (true) (test (true) (test (S.cmpN ts us != 0) (Kret (PV.int .i64 (S.cmpN ts us)) ([[]]) (8)) (test (true) (test (true) (test (true) (test (S.cmpN tn un != 0) (Kret (PV.int .i64 (S.cmpN tn un)) ([[]]) (8)) (test (true) (test (true) (test (true) (test (S.cmpN tc uc != 0) (Kret (PV.int .i64 (S.cmpN tc uc)) ([[]]) (8)) (test (true) (test (true) (test (true) (test (S.cmpN tp up != 0) (Kret (PV.int .i64 (S.cmpN tp up)) ([[]]) (8)) (test (true) (test (false) (test (false) (False) (False)) (Kret (PV.int .i64 (0 : Int)) ([[]]) (8))) (False))) (False)) (Kret (PV.int .i64 (0 : Int)) ([[]]) (8))) (False))) (False)) (Kret (PV.int .i64 (0 : Int)) ([[]]) (8))) (False))) (False)) (Kret (PV.int .i64 (0 : Int)) ([[]]) (8))) (False))) (False)) (Kret (PV.int .i64 (0 : Int)) ([[]]) (8))) (False))) (False)) (Kret (PV.int .i64 (0 : Int)) ([[]]) (8))) (False)) (False)) (False)) (False)) (False)
theorem te13 (test : TT) (Kst : KS) (Kret : KR) (ta tn tc ts tp ua un uc us up : Int) : run test Try.env true (xA0 test) true 400 ⟨13, [.cd (mkFn Try.f13).body], argT 0 [.agg [.int .i64 ta, .int .i64 tn, .int .i64 tc, .int .i64 ts, .int .i64 tp], .agg [.int .i64 ua, .int .i64 un, .int .i64 uc, .int .i64 us, .int .i64 up]], [[], []], 0⟩ (proj 0 [] Kst Kret) =
  Te13 test Kst Kret ta tn tc ts tp ua un uc us up := by kernel_rfl
attribute [local irreducible] Int.subNatNat in
theorem be13 (ta tn tc ts tp ua un uc us up : Int) (Kst : KS) (Kret : KR) (x : St13 ⊕ Rt13) (hS : HS 0 400 ((I13 ta tn tc ts tp ua un uc us up)) Kst x) (hR : HR 0 400 ((V13 ta tn tc ts tp ua un uc us up)) (fun r => [newL (0 + 1) ((N13 ta tn tc ts tp ua un uc us up) r) ++ []]) Kret x) (h : p13 ta tn tc ts tp ua un uc us up = some x) : Te13 cond Kst Kret ta tn tc ts tp ua un uc us up := by
  unfold Te13
  unfold p13 at h
  exact cond_yes rfl (cond_yes rfl (cond_yes rfl (cond_yes rfl (cond_yes rfl (cond_yes rfl (cond_yes rfl (bif_split h (fun c0 h => ret_at hR _ h (fun n => n) rfl rfl rfl (rn_int rfl) rfl entl_nil) (fun c0 h => cond_yes rfl (cond_yes rfl (cond_yes rfl (bif_split h (fun c1 h => ret_at hR _ h (fun n => n) rfl rfl rfl (rn_int rfl) rfl entl_nil) (fun c1 h => cond_yes rfl (cond_yes rfl (cond_yes rfl (bif_split h (fun c2 h => ret_at hR _ h (fun n => n) rfl rfl rfl (rn_int rfl) rfl entl_nil) (fun c2 h => cond_yes rfl (cond_yes rfl (cond_yes rfl (bif_split h (fun c3 h => ret_at hR _ h (fun n => n) rfl rfl rfl (rn_int rfl) rfl entl_nil) (fun c3 h => cond_yes rfl (cond_yes rfl (cond_yes rfl (bif_split h (fun c4 h => ret_at hR _ h (fun n => n) rfl rfl rfl (rn_int rfl) rfl entl_nil) (fun c4 h => cond_yes rfl (cond_no rfl (ret_at hR _ h (fun n => n) rfl rfl rfl (rn_int rfl) rfl entl_nil))))))))))))))))))))))))))
theorem a13 (ta tn tc ts tp ua un uc us up : Int) {r : Rt13} (h : Goes ((q13 ta tn tc ts tp ua un uc us up)) ((p13 ta tn tc ts tp ua un uc us up)) r) : CallR Try.prog 13 [.agg [.int .i64 ta, .int .i64 tn, .int .i64 tc, .int .i64 ts, .int .i64 tp], .agg [.int .i64 ua, .int .i64 un, .int .i64 uc, .int .i64 us, .int .i64 up]] [[]] 0 ((V13 ta tn tc ts tp ua un uc us up) r) ((fun r => [newL (0 + 1) ((N13 ta tn tc ts tp ua un uc us up) r) ++ []]) r) 400 ∧ ∃ F, Try.prog.funcs[13]? = some F ∧ F.body.isSome = true ∧ (F.name == "runtime.NumGoroutine") = false := by
  refine dec_calls (f := 13) (lo := 0) (hi := 400) Try.envOk Try.mixed xA0_ok ((I13 ta tn tc ts tp ua un uc us up)) ((V13 ta tn tc ts tp ua un uc us up)) (fun r => [newL (0 + 1) ((N13 ta tn tc ts tp ua un uc us up) r) ++ []]) (fn := mkFn Try.f13) (ts := []) (n := 400) rfl (by decide) (by simp) (names_of rfl) ?_ ?_ ?_ h
  · intro s; exact s.elim
  · intro Kst Kret x hS hR h
    exact Holds.eq (te13 cond Kst Kret ta tn tc ts tp ua un uc us up) (be13 ta tn tc ts tp ua un uc us up Kst Kret x hS hR h)
  · intro Kst Kret x hS hR s h; exact s.elim
noncomputable abbrev w13 {α : Type} (g : Int → Int → Int → Int → Int → Int → Int → Int → Int → Int → α) (x : (Int × Int × Int × Int × Int × Unit) × (Int × Int × Int × Int × Int × Unit) × Unit) : α := g x.1.1 x.1.2.1 x.1.2.2.1 x.1.2.2.2.1 x.1.2.2.2.2.1 x.2.1.1 x.2.1.2.1 x.2.1.2.2.1 x.2.1.2.2.2.1 x.2.1.2.2.2.2.1
noncomputable def k13  : Con := ⟨13, [.agg [.plain (.int .i64), .plain (.int .i64), .plain (.int .i64), .plain (.int .i64), .plain (.int .i64)], .agg [.plain (.int .i64), .plain (.int .i64), .plain (.int .i64), .plain (.int .i64), .plain (.int .i64)]], w13 (fun ta tn tc ts tp ua un uc us up => decide (True)), w13 (fun ta tn tc ts tp ua un uc us up => (V13 ta tn tc ts tp ua un uc us up) (S.ecmp ta tn tc ts tp ua un uc us up)), w13 (fun ta tn tc ts tp ua un uc us up => (N13 ta tn tc ts tp ua un uc us up) (S.ecmp ta tn tc ts tp ua un uc us up)), fun _ _ => .dead⟩
theorem s13 (ta tn tc ts tp ua un uc us up : Int) (hp : True) : Goes ((q13 ta tn tc ts tp ua un uc us up)) ((p13 ta tn tc ts tp ua un uc us up)) (S.ecmp ta tn tc ts tp ua un uc us up) := by
  unfold S.ecmp
  unfold p13
  rcases cmpN_k ta ua with ⟨h0, e⟩ | ⟨h0, e⟩ | ⟨h0, e⟩
  · rw [e]; exact goes_ok rfl (goes_inr.mpr rfl)
  rotate_left
  · rw [e]; exact goes_ok rfl (goes_inr.mpr rfl)
  rw [e]
  refine goes_no rfl ?_
  rw [or0_0]
  rcases cmpN_k ts us with ⟨h1, e⟩ | ⟨h1, e⟩ | ⟨h1, e⟩
  · rw [e]; exact goes_ok rfl (goes_inr.mpr rfl)
  rotate_left
  · rw [e]; exact goes_ok rfl (goes_inr.mpr rfl)
  rw [e]
  refine goes_no rfl ?_
  rw [or0_0]
  rcases cmpN_k tn un with ⟨h2, e⟩ | ⟨h2, e⟩ | ⟨h2, e⟩
  · rw [e]; exact goes_ok rfl (goes_inr.mpr rfl)
  rotate_left
  · rw [e]; exact goes_ok rfl (goes_inr.mpr rfl)
  rw [e]
  refine goes_no rfl ?_
  rw [or0_0]
  rcases cmpN_k tc uc with ⟨h3, e⟩ | ⟨h3, e⟩ | ⟨h3, e⟩
  · rw [e]; exact goes_ok rfl (goes_inr.mpr rfl)
  rotate_left
  · rw [e]; exact goes_ok rfl (goes_inr.mpr rfl)
  rw [e]
  refine goes_no rfl ?_
  rw [or0_0]
  rcases cmpN_k tp up with ⟨h4, e⟩ | ⟨h4, e⟩ | ⟨h4, e⟩
  · rw [e]; exact goes_ok rfl (goes_inr.mpr rfl)
  rotate_left
  · rw [e]; exact goes_ok rfl (goes_inr.mpr rfl)
  rw [e]
  refine goes_no rfl ?_
  exact goes_inr.mpr rfl
theorem k13_ok  : k13.ok Try.prog := by
  intro x hx
  obtain ⟨⟨ta, tn, tc, ts, tp, _⟩, ⟨ua, un, uc, us, up, _⟩, _⟩ := x
  obtain ⟨h1, h2⟩ := a13 ta tn tc ts tp ua un uc us up (s13 ta tn tc ts tp ua un uc us up (of_dec hx rfl))
  exact ⟨⟨400, (by decide : 0 + 1 + 0 ≤ 400), h1⟩, h2⟩
abbrev St16  := Empty
abbrev Rt16  := Int
noncomputable def V16 (ta tn tc ts tp ua un uc us up : Int) (r : Rt16) : PV := PV.int .i64 r
noncomputable def N16 (ta tn tc ts tp ua un uc us up : Int) (r : Rt16) : List Blk := []
noncomputable def I16 (ta tn tc ts tp ua un uc us up : Int) : St16 → Hd := fun s => s.elim
noncomputable def q16 (ta tn tc ts tp ua un uc us up : Int) : St16 → Option (St16 ⊕ Rt16) := fun s => s.elim
noncomputable def p16 (ta tn tc ts tp ua un uc us up : Int) : Option (St16 ⊕ Rt16) := bif (decide (ta < ua)) then (some (.inr ((-1 : Int)))) else (bif (decide (ta > ua)) then (some (.inr ((1 : Int)))) else (bif (decide (ts < us)) then (some (.inr ((-1 : Int)))) else (bif (decide (ts > us)) then (some (.inr ((1 : Int)))) else (bif (decide (tn < un)) then (some (.inr ((-1 : Int)))) else (bif (decide (tn > un)) then (some (.inr ((1 : Int)))) else (bif (decide (tc < uc)) then (some (.inr ((-1 : Int)))) else (bif (decide (tc > uc)) then (some (.inr ((1 : Int)))) else (bif (decide (tp < up)) then (some (.inr ((-1 : Int)))) else (bif (decide (tp > up)) then (some (.inr ((1 : Int)))) else (some (.inr ((0 : Int)))))))))))))
noncomputable def Te16 (test : TT) (Kst : KS) (Kret : KR) (ta tn tc ts tp ua un uc us up : Int) : Prop := test (true) (test (true) (test (true) (test (decide (ta < ua)) (Kret (PV.int .i64 (-1 : Int)) ([[]]) (4)) (test (true) (test (true) (test (decide (ta > ua)) (Kret (PV.int .i64 (1 : Int)) ([[]]) (4)) (test (true) (test (true) (test (true) (test (true) (test (decide (ts < us)) (Kret (PV.int .i64 (-1 : Int)) ([[]]) (4)) (test (true) (test (true) (test (decide (ts > us)) (Kret (PV.int .i64 (1 : Int)) ([[]]) (4)) (test (true) (test (true) (test (true) (test (true) (test (decide (tn < un)) (Kret (PV.int .i64 (-1 : Int)) ([[]]) (4)) (test (true) (test (true) (test (decide (tn > un)) (Kret (PV.int .i64 (1 : Int)) ([[]]) (4)) (test (true) (test (true) (test (true) (test (true) (test (decide (tc < uc)) (Kret (PV.int .i64 (-1 : Int)) ([[]]) (4)) (test (true) (test (true) (test (decide (tc > uc)) (Kret (PV.int .i64 (1 : Int)) ([[]]) (4)) (test (true) (test (true) (test (true) (test (true) (test (decide (tp < up)) (Kret (PV.int .i64 (-1 : Int)) ([[]]) (4)) (test (true) (test (true) (test (decide (tp > up)) (Kret (PV.int .i64 (1 : Int)) ([[]]) (4)) (test (true) (test (false) (test (false) (False) (False)) (Kret (PV.int .i64 (0 : Int)) ([[]]) (4))) (False))) (False)) (False))) (False)) (False)) (Kret (PV.int .i64 (0 : Int)) ([[]]) (4))) (False))) (False)) (False))) (False)) (False)) (Kret (PV.int .i64 (0 : Int)) ([[]]) (4))) (False))) (False)) (False))) (False)) (False)) (Kret (PV.int .i64 (0 : Int)) ([[]]) (4))) (False))) (False)) (False))) (False)) (False)) (Kret (PV.int .i64 (0 : Int)) ([[]]) (4))) (False))) (False)) (False))) (False)) (False)) (Kret (PV.int .i64 (0 : Int)) ([[]]) (4))
theorem te16 (test : TT) (Kst : KS) (Kret : KR) (ta tn tc ts tp ua un uc us up : Int) : run test Try.env true (xA0 test) false 400 ⟨16, [.cd (mkFn Try.f16).body], argT 0 [.agg [.int .i64 ta, .int .i64 tn, .int .i64 tc, .int .i64 ts, .int .i64 tp], .agg [.int .i64 ua, .int .i64 un, .int .i64 uc, .int .i64 us, .int .i64 up]], [[], []], 0⟩ (proj 0 [] Kst Kret) =
  Te16 test Kst Kret ta tn tc ts tp ua un uc us up := by kernel_rfl
attribute [local irreducible] Int.subNatNat in
theorem be16 (ta tn tc ts tp ua un uc us up : Int) (Kst : KS) (Kret : KR) (x : St16 ⊕ Rt16) (hS : HS 0 400 ((I16 ta tn tc ts tp ua un uc us up)) Kst x) (hR : HR 0 400 ((V16 ta tn tc ts tp ua un uc us up)) (fun r => [newL (0 + 1) ((N16 ta tn tc ts tp ua un uc us up) r) ++ []]) Kret x) (h : p16 ta tn tc ts tp ua un uc us up = some x) : Te16 cond Kst Kret ta tn tc ts tp ua un uc us up := by
  unfold Te16
  unfold p16 at h
  exact cond_yes rfl (cond_yes rfl (cond_yes rfl (bif_split h (fun c0 h => ret_at hR _ h (fun n => n) rfl rfl rfl (rn_int rfl) rfl entl_nil) (fun c0 h => cond_yes rfl (cond_yes rfl (bif_split h (fun c1 h => ret_at hR _ h (fun n => n) rfl rfl rfl (rn_int rfl) rfl entl_nil) (fun c1 h => cond_yes rfl (cond_yes rfl (cond_yes rfl (cond_yes rfl (bif_split h (fun c2 h => ret_at hR _ h (fun n => n) rfl rfl rfl (rn_int rfl) rfl entl_nil) (fun c2 h => cond_yes rfl (cond_yes rfl (bif_split h (fun c3 h => ret_at hR _ h (fun n => n) rfl rfl rfl (rn_int rfl) rfl entl_nil) (fun c3 h => cond_yes rfl (cond_yes rfl (cond_yes rfl (cond_yes rfl (bif_split h (fun c4 h => ret_at hR _ h (fun n => n) rfl rfl rfl (rn_int rfl) rfl entl_nil) (fun c4 h => cond_yes rfl (cond_yes rfl (bif_split h (fun c5 h => ret_at hR _ h (fun n => n) rfl rfl rfl (rn_int rfl) rfl entl_nil) (fun c5 h => cond_yes rfl (cond_yes rfl (cond_yes rfl (cond_yes rfl (bif_split h (fun c6 h => ret_at hR _ h (fun n => n) rfl rfl rfl (rn_int rfl) rfl entl_nil) (fun c6 h => cond_yes rfl (cond_yes rfl (bif_split h (fun c7 h => ret_at hR _ h (fun n => n) rfl rfl rfl (rn_int rfl) rfl entl_nil) (fun c7 h => cond_yes rfl (cond_yes rfl (cond_yes rfl (cond_yes rfl (bif_split h (fun c8 h => ret_at hR _ h (fun n => n) rfl rfl rfl (rn_int rfl) rfl entl_nil) (fun c8 h => cond_yes rfl (cond_yes rfl (bif_split h (fun c9 h => ret_at hR _ h (fun n => n) rfl rfl rfl (rn_int rfl) rfl entl_nil) (fun c9 h => cond_yes rfl (cond_no rfl (ret_at hR _ h (fun n => n) rfl rfl rfl (rn_int rfl) rfl entl_nil)))))))))))))))))))))))))))))))))))))))))
theorem a16 (ta tn tc ts tp ua un uc us up : Int) {r : Rt16} (h : Goes ((q16 ta tn tc ts tp ua un uc us up)) ((p16 ta tn tc ts tp ua un uc us up)) r) : CallR Try.prog 16 [.agg [.int .i64 ta, .int .i64 tn, .int .i64 tc, .int .i64 ts, .int .i64 tp], .agg [.int .i64 ua, .int .i64 un, .int .i64 uc, .int .i64 us, .int .i64 up]] [[]] 0 ((V16 ta tn tc ts tp ua un uc us up) r) ((fun r => [newL (0 + 1) ((N16 ta tn tc ts tp ua un uc us up) r) ++ []]) r) 400 ∧ ∃ F, Try.prog.funcs[16]? = some F ∧ F.body.isSome = true ∧ (F.name == "runtime.NumGoroutine") = false := by
  refine dec_free (f := 16) (lo := 0) (hi := 400) Try.envOk Try.mixed xA0_ok ((I16 ta tn tc ts tp ua un uc us up)) ((V16 ta tn tc ts tp ua un uc us up)) (fun r => [newL (0 + 1) ((N16 ta tn tc ts tp ua un uc us up) r) ++ []]) (fn := mkFn Try.f16) (n := 400) rfl (by decide) (by simp) (names_of rfl) ?_ h
  · intro Kst Kret x hS hR h
    exact Holds.eq (te16 cond Kst Kret ta tn tc ts tp ua un uc us up) (be16 ta tn tc ts tp ua un uc us up Kst Kret x hS hR h)
noncomputable abbrev w16 {α : Type} (g : Int → Int → Int → Int → Int → Int → Int → Int → Int → Int → α) (x : (Int × Int × Int × Int × Int × Unit) × (Int × Int × Int × Int × Int × Unit) × Unit) : α := g x.1.1 x.1.2.1 x.1.2.2.1 x.1.2.2.2.1 x.1.2.2.2.2.1 x.2.1.1 x.2.1.2.1 x.2.1.2.2.1 x.2.1.2.2.2.1 x.2.1.2.2.2.2.1
noncomputable def k16  : Con := ⟨16, [.agg [.plain (.int .i64), .plain (.int .i64), .plain (.int .i64), .plain (.int .i64), .plain (.int .i64)], .agg [.plain (.int .i64), .plain (.int .i64), .plain (.int .i64), .plain (.int .i64), .plain (.int .i64)]], w16 (fun ta tn tc ts tp ua un uc us up => decide (True)), w16 (fun ta tn tc ts tp ua un uc us up => (V16 ta tn tc ts tp ua un uc us up) (S.ecmp ta tn tc ts tp ua un uc us up)), w16 (fun ta tn tc ts tp ua un uc us up => (N16 ta tn tc ts tp ua un uc us up) (S.ecmp ta tn tc ts tp ua un uc us up)), fun _ _ => .dead⟩
theorem s16 (ta tn tc ts tp ua un uc us up : Int) (hp : True) : Goes ((q16 ta tn tc ts tp ua un uc us up)) ((p16 ta tn tc ts tp ua un uc us up)) (S.ecmp ta tn tc ts tp ua un uc us up) := by
  unfold S.ecmp
  unfold p16
  rcases cmpN_k ta ua with ⟨h0, e⟩ | ⟨h0, e⟩ | ⟨h0, e⟩
  · rw [e]; exact goes_ok (decide_eq_true h0) (goes_inr.mpr rfl)
  rotate_left
  · rw [e]; exact goes_no (decide_eq_false (by omega)) (goes_ok (decide_eq_true h0) (goes_inr.mpr rfl))
  rw [e]
  refine goes_no (decide_eq_false (by omega)) (goes_no (decide_eq_false (by omega)) ?_)
  rw [or0_0]
  rcases cmpN_k ts us with ⟨h1, e⟩ | ⟨h1, e⟩ | ⟨h1, e⟩
  · rw [e]; exact goes_ok (decide_eq_true h1) (goes_inr.mpr rfl)
  rotate_left
  · rw [e]; exact goes_no (decide_eq_false (by omega)) (goes_ok (decide_eq_true h1) (goes_inr.mpr rfl))
  rw [e]
  refine goes_no (decide_eq_false (by omega)) (goes_no (decide_eq_false (by omega)) ?_)
  rw [or0_0]
  rcases cmpN_k tn un with ⟨h2, e⟩ | ⟨h2, e⟩ | ⟨h2, e⟩
  · rw [e]; exact goes_ok (decide_eq_true h2) (goes_inr.mpr rfl)
  rotate_left
  · rw [e]; exact goes_no (decide_eq_false (by omega)) (goes_ok (decide_eq_true h2) (goes_inr.mpr rfl))
  rw [e]
  refine goes_no (decide_eq_false (by omega)) (goes_no (decide_eq_false (by omega)) ?_)
  rw [or0_0]
  rcases cmpN_k tc uc with ⟨h3, e⟩ | ⟨h3, e⟩ | ⟨h3, e⟩
  · rw [e]; exact goes_ok (decide_eq_true h3) (goes_inr.mpr rfl)
  rotate_left
  · rw [e]; exact goes_no (decide_eq_false (by omega)) (goes_ok (decide_eq_true h3) (goes_inr.mpr rfl))
  rw [e]
  refine goes_no (decide_eq_false (by omega)) (goes_no (decide_eq_false (by omega)) ?_)
  rw [or0_0]
  rcases cmpN_k tp up with ⟨h4, e⟩ | ⟨h4, e⟩ | ⟨h4, e⟩
  · rw [e]; exact goes_ok (decide_eq_true h4) (goes_inr.mpr rfl)
  rotate_left
  · rw [e]; exact goes_no (decide_eq_false (by omega)) (goes_ok (decide_eq_true h4) (goes_inr.mpr rfl))
  rw [e]
  refine goes_no (decide_eq_false (by omega)) (goes_no (decide_eq_false (by omega)) ?_)
  exact goes_inr.mpr rfl
theorem k16_ok  : k16.ok Try.prog := by
  intro x hx
  obtain ⟨⟨ta, tn, tc, ts, tp, _⟩, ⟨ua, un, uc, us, up, _⟩, _⟩ := x
  obtain ⟨h1, h2⟩ := a16 ta tn tc ts tp ua un uc us up (s16 ta tn tc ts tp ua un uc us up (of_dec hx rfl))
  exact ⟨⟨400, (by decide : 0 + 1 + 0 ≤ 400), h1⟩, h2⟩
noncomputable def xB (test : Bool → Prop → Prop → Prop) : Ext := consX test [k40, k14, k15, k13, k16]
theorem xB_ok  : ExtOk Try.prog (xB cond) := consX_ok ⟨k40_ok, k14_ok, k15_ok, k13_ok, k16_ok, trivial⟩
noncomputable def k12  : Con := ⟨12, [], fun _ => true, fun _ => .bool true, fun _ => [], fun _ _ => .dead⟩
theorem te12 (Kst : KS) (Kret : KR) : run cond Try.env true noX false 4000 ⟨12, [.cd (mkFn Try.f12).body], [], [[], []], 0⟩ (proj 0 [] Kst Kret) = Kret (.tf true) [[]] 75 := by kernel_rfl
theorem k12_ok  : k12.ok Try.prog := awake_ok (fn := mkFn Try.f12) (hi := 76) (n := 4000) Try.envOk Try.mixed noX_ok rfl (by decide) (by decide : Nat.ble 75 76 = true) te12
theorem or0_neg  {x y X Y : Int} (h : y = -x) (h2 : Y = -X) : S.or0 y Y = - S.or0 x X := by unfold S.or0; (repeat' split) <;> omega
theorem cmpN_neg  {a b : Int} : S.cmpN b a = - S.cmpN a b := by have := cmpN_k a b; have := cmpN_k b a; omega
section
variable {a n c s p a' n' c' s' p' a2 n2 c2 s2 p2 : Int}
theorem ecmp_neg  : S.ecmp a' n' c' s' p' a n c s p = - S.ecmp a n c s p a' n' c' s' p' := or0_neg cmpN_neg (or0_neg cmpN_neg (or0_neg cmpN_neg (or0_neg cmpN_neg cmpN_neg)))
end
namespace S
def evP (a b c d e : Nat → Int) (j : Nat) : Bool := evB (a j) (b j) (c j) (d j) (e j)
def srB (a b c d e : Nat → Int) (j : Nat) : Bool := decide (ecmp (a j) (b j) (c j) (d j) (e j) (a (j + 1)) (b (j + 1)) (c (j + 1)) (d (j + 1)) (e (j + 1)) ≤ 0)
def evL (n : Nat) (a b c d e : Nat → Int) : Int :=
  if n > 2000 then 3 else if all (fun j => evP a b c d e j) n = true then (if all (fun j => srB a b c d e j) (n - 1) = true then 0 else 15) else 6
end S
inductive St61 where
  | h0 (x0 : Int)
abbrev Rt61  := Bool
noncomputable def V61 (al nl ml : Nat) (tl vl gl wl xl : NI) (r : Rt61) : PV := PV.bool r
noncomputable def N61 (al nl ml : Nat) (tl vl gl wl xl : NI) (r : Rt61) : List Blk := []
noncomputable def I61 (al nl ml : Nat) (tl vl gl wl xl : NI) : St61 → Hd
  | .h0 x0 => ⟨hd Try.f61 0, [PV.loose (PA.mk (0) (5) al (0)) nl, PV.fn (Go.Fn.func (13)) [] [],
 PV.int .i64 x0], [[], [(0, (false, .cols ml [.int .i64 tl, .int .i64 vl, .int .i64 gl, .int .i64 wl, .int .i64 xl]))]], 1⟩
noncomputable def q61 (al nl ml : Nat) (tl vl gl wl xl : NI) : St61 → Option (St61 ⊕ Rt61) | .h0 x0 => bif (decide (x0 > 0)) then (bif (decide ((0 : Int) ≤ x0 ∧ x0 < (↑nl : Int))) then (bif (decide (Int.toNat x0 + al < ml)) then (bif (lim .i64 (x0 - 1)) then (bif (decide ((0 : Int) ≤ x0 - 1 ∧ x0 - 1 < (↑nl : Int))) then (bif (decide (Int.toNat (x0 - 1) + al < ml)) then (bif (decide (S.ecmp (tl (Int.toNat x0 + al)) (vl (Int.toNat x0 + al)) (gl (Int.toNat x0 + al)) (wl (Int.toNat x0 + al)) (xl (Int.toNat x0 + al)) (tl (Int.toNat (x0 - 1) + al)) (vl (Int.toNat (x0 - 1) + al)) (gl (Int.toNat (x0 - 1) + al)) (wl (Int.toNat (x0 - 1) + al)) (xl (Int.toNat (x0 - 1) + al)) < 0)) then (some (.inr (false))) else (some (.inl (.h0 (x0 - 1))))) else (none)) else (none)) else (none)) else (none)) else (none)) else (some (.inr (true)))
noncomputable def p61 (al nl ml : Nat) (tl vl gl wl xl : NI) : Option (St61 ⊕ Rt61) := bif (lim .i64 ((↑nl : Int) - 1)) then (some (.inl (.h0 ((↑nl : Int) - 1)))) else (none)
noncomputable def Te61 (test : TT) (Kst : KS) (Kret : KR) (al nl ml : Nat) (tl vl gl wl xl : NI) : Prop := test (lim .i64 ((↑nl : Int) - 1)) (Kst (hd Try.f61 0) ([PV.loose (PA.mk (0) (5) al (0)) nl, PV.fn (Go.Fn.func (13)) [] [], PV.int .i64 ((↑nl : Int) - 1)]) ([[(0, false, Blk.cols ml [Col.int .i64 tl, Col.int .i64 vl, Col.int .i64 gl, Col.int .i64 wl, Col.int .i64 xl])]]) (1)) (False)
theorem te61 (test : TT) (Kst : KS) (Kret : KR) (al nl ml : Nat) (tl vl gl wl xl : NI) : run test Try.env true (xB test) true 400 ⟨61, [.cd (mkFn Try.f61).body], argT 0 [.loose ⟨0, 5, al, 0⟩ nl, .fn (.func 13) [] []], [[], [(0, (false, .cols ml [.int .i64 tl, .int .i64 vl, .int .i64 gl, .int .i64 wl, .int .i64 xl]))]], 1⟩ (proj 1 [0, 1, 5] Kst Kret) =
  Te61 test Kst Kret al nl ml tl vl gl wl xl := by kernel_rfl
noncomputable def T61_0 (test : TT) (Kst : KS) (Kret : KR) (al nl ml : Nat) (tl vl gl wl xl : NI) (x0 : Int) : Prop := test (decide (x0 > 0)) (test (decide ((0 : Int) ≤ x0 ∧ x0 < (↑nl : Int))) (test (decide (Int.toNat x0 + al < ml)) (test (decide (Int.toNat x0 + al < ml)) (test (decide (Int.toNat x0 + al < ml)) (test (decide (Int.toNat x0 + al < ml)) (test (decide (Int.toNat x0 + al < ml)) (test (lim .i64 (x0 - 1)) (test (decide ((0 : Int) ≤ x0 - 1 ∧ x0 - 1 < (↑nl : Int))) (test (decide (Int.toNat (x0 - 1) + al < ml)) (test (decide (Int.toNat (x0 - 1) + al < ml)) (test (decide (Int.toNat (x0 - 1) + al < ml)) (test (decide (Int.toNat (x0 - 1) + al < ml)) (test (decide (Int.toNat (x0 - 1) + al < ml)) (test (true) (test (decide (S.ecmp (tl (Int.toNat x0 + al)) (vl (Int.toNat x0 + al)) (gl (Int.toNat x0 + al)) (wl (Int.toNat x0 + al)) (xl (Int.toNat x0 + al)) (tl (Int.toNat (x0 - 1) + al)) (vl (Int.toNat (x0 - 1) + al)) (gl (Int.toNat (x0 - 1) + al)) (wl (Int.toNat (x0 - 1) + al)) (xl (Int.toNat (x0 - 1) + al)) < 0)) (Kret (PV.tf false) ([[(0, false, Blk.cols ml [Col.int .i64 tl, Col.int .i64 vl, Col.int .i64 gl, Col.int .i64 wl, Col.int .i64 xl])]]) (2)) (test (lim .i64 (x0 - 1)) (Kst (hd Try.f61 0) ([PV.loose (PA.mk (0) (5) al (0)) nl, PV.fn (Go.Fn.func (13)) [] [], PV.int .i64 (x0 - 1)]) ([[(0, false, Blk.cols ml [Col.int .i64 tl, Col.int .i64 vl, Col.int .i64 gl, Col.int .i64 wl, Col.int .i64 xl])]]) (2)) (False))) (False)) (False)) (False)) (False)) (False)) (False)) (False)) (False)) (False)) (False)) (False)) (False)) (False)) (False)) (Kret (PV.tf true) ([[(0, false, Blk.cols ml [Col.int .i64 tl, Col.int .i64 vl, Col.int .i64 gl, Col.int .i64 wl, Col.int .i64 xl])]]) (1))
theorem t61_0 (test : TT) (Kst : KS) (Kret : KR) (al nl ml : Nat) (tl vl gl wl xl : NI) (x0 : Int) : run test Try.env true (xB test) true 400 ⟨61, hd Try.f61 0, zipT [0, 1, 5] [PV.loose (PA.mk (0) (5) al (0)) nl, PV.fn (Go.Fn.func (13)) [] [],
 PV.int .i64 x0], [[], [(0, (false, .cols ml [.int .i64 tl, .int .i64 vl, .int .i64 gl, .int .i64 wl, .int .i64 xl]))]], 1⟩ (proj 1 [0, 1, 5] Kst Kret) =
  T61_0 test Kst Kret al nl ml tl vl gl wl xl x0 := by kernel_rfl
noncomputable abbrev J61 (al nl ml : Nat) (tl : NI) (vl : NI) (gl : NI) (wl : NI) (xl : NI) : Rt61 → Heap := fun r => [newL (1 + 1) ((N61 al nl ml tl vl gl wl xl) r) ++ [(0, (false, .cols ml [.int .i64 tl, .int .i64 vl, .int .i64 gl, .int .i64 wl, .int .i64 xl]))]]
attribute [local irreducible] Int.subNatNat in
theorem be61 (al nl ml : Nat) (tl vl gl wl xl : NI) (Kst : KS) (Kret : KR) (x : St61 ⊕ Rt61) (hS : HS 1 400 ((I61 al nl ml tl vl gl wl xl)) Kst x) (hR : HR 1 400 ((V61 al nl ml tl vl gl wl xl)) (J61 al nl ml tl vl gl wl xl) Kret x) (h : p61 al nl ml tl vl gl wl xl = some x) : Te61 cond Kst Kret al nl ml tl vl gl wl xl := by
  unfold Te61
  unfold p61 at h
  refine bif_split h (fun c0 h => stop_at hS _ h (fun n => n) rfl rfl rfl ⟨(rn_loose (use_lo rfl) rfl rfl rfl), ⟨(rn_fn trivial trivial), ⟨(rn_int rfl), trivial⟩⟩⟩ rfl (entl_bor (use_lo rfl) rfl rfl entl_nil)) (fun c0 h => no_some h)
attribute [local irreducible] Int.subNatNat in
theorem b61_0 (al nl ml : Nat) (tl vl gl wl xl : NI) (Kst : KS) (Kret : KR) (x : St61 ⊕ Rt61) (hS : HS 1 400 ((I61 al nl ml tl vl gl wl xl)) Kst x) (hR : HR 1 400 ((V61 al nl ml tl vl gl wl xl)) (J61 al nl ml tl vl gl wl xl) Kret x) (x0 : Int) (h : q61 al nl ml tl vl gl wl xl (.h0 x0) = some x) : T61_0 cond Kst Kret al nl ml tl vl gl wl xl x0 := by
  unfold T61_0
  rw [q61] at h
  exact bif_split h (fun c0 h => bif_split h (fun c1 h => bif_split h (fun c2 h => cond_yes c2 (cond_yes c2 (cond_yes c2 (cond_yes c2 (bif_split h (fun c3 h => bif_split h (fun c4 h => bif_split h (fun c5 h => cond_yes c5 (cond_yes c5 (cond_yes c5 (cond_yes c5 (cond_yes rfl (bif_split h (fun c6 h => ret_at hR _ h (fun n => n) rfl rfl rfl (rn_bool_tf rfl) rfl (entl_bor (use_lo rfl) rfl rfl entl_nil)) (fun c6 h => cond_yes c3 (stop_at hS _ h (fun n => n) rfl rfl rfl ⟨(rn_loose (use_lo rfl) rfl rfl rfl), ⟨(rn_fn trivial trivial), ⟨(rn_int rfl), trivial⟩⟩⟩ rfl (entl_bor (use_lo rfl) rfl rfl entl_nil))))))))) (fun c5 h => no_some h)) (fun c4 h => no_some h)) (fun c3 h => no_some h)))))) (fun c2 h => no_some h)) (fun c1 h => no_some h)) (fun c0 h => ret_at hR _ h (fun n => n) rfl rfl rfl (rn_bool_tf rfl) rfl (entl_bor (use_lo rfl) rfl rfl entl_nil))
theorem a61 (al nl ml : Nat) (tl vl gl wl xl : NI) {r : Rt61} (h : Goes ((q61 al nl ml tl vl gl wl xl)) ((p61 al nl ml tl vl gl wl xl)) r) : CallR Try.prog 61 [.loose ⟨0, 5, al, 0⟩ nl, .fn (.func 13) [] []] [[(0, (false, .cols ml [.int .i64 tl, .int .i64 vl, .int .i64 gl, .int .i64 wl, .int .i64 xl]))]] 1 ((V61 al nl ml tl vl gl wl xl) r) ((J61 al nl ml tl vl gl wl xl) r) 400 ∧ ∃ F, Try.prog.funcs[61]? = some F ∧ F.body.isSome = true ∧ (F.name == "runtime.NumGoroutine") = false := by
  refine dec_calls (f := 61) (lo := 1) (hi := 400) Try.envOk Try.mixed xB_ok ((I61 al nl ml tl vl gl wl xl)) ((V61 al nl ml tl vl gl wl xl)) (J61 al nl ml tl vl gl wl xl) (fn := mkFn Try.f61) (ts := [0, 1, 5]) (n := 400) rfl (by decide) (by simp) (names_of rfl) ?_ ?_ ?_ h
  · intro s; cases s <;> exact ⟨hd_ok _ _, by simp [I61], names_of rfl, Nat.le_of_ble_eq_true rfl⟩
  · intro Kst Kret x hS hR h
    exact Holds.eq (te61 cond Kst Kret al nl ml tl vl gl wl xl) (be61 al nl ml tl vl gl wl xl Kst Kret x hS hR h)
  · intro Kst Kret x hS hR s h
    cases s with
    | h0 x0 => exact Holds.eq (t61_0 cond Kst Kret al nl ml tl vl gl wl xl x0) (b61_0 al nl ml tl vl gl wl xl Kst Kret x hS hR x0 h)
noncomputable abbrev w61 {α : Type} (g : Nat → Nat → Nat → (Nat → Int) → (Nat → Int) → (Nat → Int) → (Nat → Int) → (Nat → Int) → α) (x : (Nat × Nat × Nat × (Nat → Int) × (Nat → Int) × (Nat → Int) × (Nat → Int) × (Nat → Int) × Unit) × (Unit) × Unit) : α := g x.1.1 x.1.2.1 x.1.2.2.1 x.1.2.2.2.1 x.1.2.2.2.2.1 x.1.2.2.2.2.2.1 x.1.2.2.2.2.2.2.1 x.1.2.2.2.2.2.2.2.1
noncomputable def k61  : Con := ⟨61, [.one (.list [.int .i64, .int .i64, .int .i64, .int .i64, .int .i64]), .fn 13 []], w61 (fun al nl ml tl vl gl wl xl => decide (al + nl ≤ ml ∧ nl ≤ 1000000)), w61 (fun al nl ml tl vl gl wl xl => (V61 al nl ml tl vl gl wl xl) (S.all (fun j => S.srB (fun j => tl (j + al)) (fun j => vl (j + al)) (fun j => gl (j + al)) (fun j => wl (j + al)) (fun j => xl (j + al)) j) (nl - 1))), w61 (fun al nl ml tl vl gl wl xl => (N61 al nl ml tl vl gl wl xl) (S.all (fun j => S.srB (fun j => tl (j + al)) (fun j => vl (j + al)) (fun j => gl (j + al)) (fun j => wl (j + al)) (fun j => xl (j + al)) j) (nl - 1))), fun _ _ => .dead⟩
theorem s61' (al nl ml : Nat) (tl vl gl wl xl : Nat → Int) (hp : al + nl ≤ ml ∧ nl ≤ 1000000) : ∀ i : Nat, i ≤ nl - 1 → Comes (q61 al nl ml tl vl gl wl xl) (.h0 (i : Int)) (S.all (fun j => S.srB (fun j => tl (j + al)) (fun j => vl (j + al)) (fun j => gl (j + al)) (fun j => wl (j + al)) (fun j => xl (j + al)) j) i) := by
  obtain ⟨hp1, hp2⟩ := hp
  intro i
  induction i with
  | zero =>
    intro hi
    apply Comes.of
    show Goes _ _ _
    (first | rw [q61] | unfold q61)
    repeat' (first | with_reducible refine goes_if (fun h => ?_) (fun h => ?_) <;> (try simp only [SH] at h) | exact goes_none.mpr (by omega))
    all_goals first | (exfalso; omega) | exact goes_inr.mpr rfl
  | succ i ih =>
    intro hi
    have ih := ih (by omega)
    rw [all_succ]
    have e1 : (((i + 1 : Nat) : Int) - 1) = i := by omega
    have ht : (((i + 1 : Nat) : Int)).toNat = i + 1 := by omega
    have hng := ecmp_neg (a := tl (i + al)) (n := vl (i + al)) (c := gl (i + al)) (s := wl (i + al)) (p := xl (i + al)) (a' := tl (i + 1 + al)) (n' := vl (i + 1 + al)) (c' := gl (i + 1 + al)) (s' := wl (i + 1 + al)) (p' := xl (i + 1 + al))
    have eS : S.srB (fun j => tl (j + al)) (fun j => vl (j + al)) (fun j => gl (j + al)) (fun j => wl (j + al)) (fun j => xl (j + al)) i = decide (S.ecmp (tl (i + al)) (vl (i + al)) (gl (i + al)) (wl (i + al)) (xl (i + al)) (tl (i + 1 + al)) (vl (i + 1 + al)) (gl (i + 1 + al)) (wl (i + 1 + al)) (xl (i + 1 + al)) ≤ 0) := rfl
    rw [eS]
    apply Comes.of
    show Goes _ _ _
    rw [q61]
    simp only [e1, ht, Int.toNat_natCast, hng]
    generalize S.ecmp _ _ _ _ _ _ _ _ _ _ = z at *
    repeat' (first | with_reducible refine goes_if (fun h => ?_) (fun h => ?_) <;> (try simp only [SH] at h) | exact goes_none.mpr (by omega))
    all_goals first
      | (exfalso; omega)
      | (rw [decide_eq_true (by omega), Bool.and_true]; exact ih)
      | (rw [decide_eq_false (by omega), Bool.and_false]; exact goes_inr.mpr rfl)
theorem s61 (al nl ml : Nat) (tl vl gl wl xl : Nat → Int) (hp : al + nl ≤ ml ∧ nl ≤ 1000000) : Goes ((q61 al nl ml tl vl gl wl xl)) ((p61 al nl ml tl vl gl wl xl)) (S.all (fun j => S.srB (fun j => tl (j + al)) (fun j => vl (j + al)) (fun j => gl (j + al)) (fun j => wl (j + al)) (fun j => xl (j + al)) j) (nl - 1)) := by
  have hm := s61' al nl ml tl vl gl wl xl hp (nl - 1) (Nat.le_refl _)
  obtain ⟨hp1, hp2⟩ := hp
  by_cases hn : nl = 0
  · subst hn
    have hm : Comes (q61 al 0 ml tl vl gl wl xl) (.h0 (((0 : Nat) : Int) - 1)) (S.all (fun j => S.srB (fun j => tl (j + al)) (fun j => vl (j + al)) (fun j => gl (j + al)) (fun j => wl (j + al)) (fun j => xl (j + al)) j) (0 - 1)) := by
      apply Comes.of
      show Goes _ _ _
      (first | rw [q61] | unfold q61)
      repeat' (first | with_reducible refine goes_if (fun h => ?_) (fun h => ?_) <;> (try simp only [SH] at h) | exact goes_none.mpr (by omega))
      all_goals first | (exfalso; omega) | exact goes_inr.mpr rfl
    show Goes _ _ _
    unfold p61
    repeat' (first | with_reducible refine goes_if (fun h => ?_) (fun h => ?_) <;> (try simp only [SH] at h) | exact goes_none.mpr (by omega))
    all_goals first | (exfalso; omega) | exact hm
  · have e1 : ((nl - 1 : Nat) : Int) = (nl : Int) - 1 := by omega
    rw [e1] at hm
    show Goes _ _ _
    unfold p61
    repeat' (first | with_reducible refine goes_if (fun h => ?_) (fun h => ?_) <;> (try simp only [SH] at h) | exact goes_none.mpr (by omega))
    all_goals first | (exfalso; omega) | exact hm
theorem k61_ok  : k61.ok Try.prog := by
  intro x hx
  obtain ⟨⟨al, nl, ml, tl, vl, gl, wl, xl, _⟩, ⟨_⟩, _⟩ := x
  obtain ⟨h1, h2⟩ := a61 al nl ml tl vl gl wl xl (s61 al nl ml tl vl gl wl xl (of_dec hx rfl))
  exact ⟨⟨400, (by decide : 1 + 1 + 0 ≤ 400), h1⟩, h2⟩
noncomputable def xB2 (test : Bool → Prop → Prop → Prop) : Ext := consX test [k40, k14, k15, k13, k16, k61]
theorem xB2_ok  : ExtOk Try.prog (xB2 cond) := consX_ok ⟨k40_ok, k14_ok, k15_ok, k13_ok, k16_ok, k61_ok, trivial⟩
inductive St43 where
  | h0 (x0 : Int)
abbrev Rt43  := Int
noncomputable def V43 (al nl ml : Nat) (tl vl gl wl xl : NI) (r : Rt43) : PV := PV.int .i64 r
noncomputable def N43 (al nl ml : Nat) (tl vl gl wl xl : NI) (r : Rt43) : List Blk := []
noncomputable def I43 (al nl ml : Nat) (tl vl gl wl xl : NI) : St43 → Hd
  | .h0 x0 => ⟨hd Try.f43 0, [PV.loose (PA.mk (0) (5) al (0)) nl,
 PV.loose (PA.mk (0) (5) al (0)) nl, PV.int .i64 (↑nl : Int),
 PV.int .i64 x0], [[], [(0, (false, .cols ml [.int .i64 tl, .int .i64 vl, .int .i64 gl, .int .i64 wl, .int .i64 xl]))]], 1⟩
noncomputable def q43 (al nl ml : Nat) (tl vl gl wl xl : NI) : St43 → Option (St43 ⊕ Rt43) | .h0 x0 => bif (decide (x0 < (↑nl : Int))) then (bif (decide ((0 : Int) ≤ x0 ∧ x0 < (↑nl : Int))) then (bif (decide (Int.toNat x0 + al < ml)) then (bif (S.evE (tl (Int.toNat x0 + al)) (vl (Int.toNat x0 + al)) (gl (Int.toNat x0 + al)) (wl (Int.toNat x0 + al)) (xl (Int.toNat x0 + al)) != 0) then (some (.inr (S.evE (tl (Int.toNat x0 + al)) (vl (Int.toNat x0 + al)) (gl (Int.toNat x0 + al)) (wl (Int.toNat x0 + al)) (xl (Int.toNat x0 + al))))) else (bif (lim .i64 (x0 + 1)) then (some (.inl (.h0 (x0 + 1)))) else (none))) else (none)) else (none)) else (bif (decide (al + nl ≤ ml ∧ nl ≤ 1000000)) then (bif (S.all (fun j => S.srB (fun j => tl (j + al)) (fun j => vl (j + al)) (fun j => gl (j + al)) (fun j => wl (j + al)) (fun j => xl (j + al)) j) (nl - 1)) then (some (.inr ((0 : Int)))) else (some (.inr ((15 : Int))))) else (none))
noncomputable def p43 (al nl ml : Nat) (tl vl gl wl xl : NI) : Option (St43 ⊕ Rt43) := bif (decide ((↑nl : Int) > 2000)) then (some (.inr ((3 : Int)))) else (some (.inl (.h0 ((0 : Int)))))
noncomputable def Te43 (test : TT) (Kst : KS) (Kret : KR) (al nl ml : Nat) (tl vl gl wl xl : NI) : Prop := test (decide ((↑nl : Int) > 2000)) (Kret (PV.int .i64 (3 : Int)) ([[(0, false, Blk.cols ml [Col.int .i64 tl, Col.int .i64 vl, Col.int .i64 gl, Col.int .i64 wl, Col.int .i64 xl])]]) (1)) (Kst (hd Try.f43 0) ([PV.loose (PA.mk (0) (5) al (0)) nl, PV.loose (PA.mk (0) (5) al (0)) nl, PV.int .i64 (↑nl : Int), PV.int .i64 (0 : Int)]) ([[(0, false, Blk.cols ml [Col.int .i64 tl, Col.int .i64 vl, Col.int .i64 gl, Col.int .i64 wl, Col.int .i64 xl])]]) (1))
theorem te43 (test : TT) (Kst : KS) (Kret : KR) (al nl ml : Nat) (tl vl gl wl xl : NI) : run test Try.env true (xB2 test) true 400 ⟨43, [.cd (mkFn Try.f43).body], argT 0 [.loose ⟨0, 5, al, 0⟩ nl], [[], [(0, (false, .cols ml [.int .i64 tl, .int .i64 vl, .int .i64 gl, .int .i64 wl, .int .i64 xl]))]], 1⟩ (proj 1 [0, 9, 10, 11] Kst Kret) =
  Te43 test Kst Kret al nl ml tl vl gl wl xl := by kernel_rfl
noncomputable def T43_0 (test : TT) (Kst : KS) (Kret : KR) (al nl ml : Nat) (tl vl gl wl xl : NI) (x0 : Int) : Prop := test (decide (x0 < (↑nl : Int))) (test (decide ((0 : Int) ≤ x0 ∧ x0 < (↑nl : Int))) (test (decide (Int.toNat x0 + al < ml)) (test (decide (Int.toNat x0 + al < ml)) (test (decide (Int.toNat x0 + al < ml)) (test (decide (Int.toNat x0 + al < ml)) (test (decide (Int.toNat x0 + al < ml)) (test (true) (test (S.evE (tl (Int.toNat x0 + al)) (vl (Int.toNat x0 + al)) (gl (Int.toNat x0 + al)) (wl (Int.toNat x0 + al)) (xl (Int.toNat x0 + al)) != 0) (Kret (PV.int .i64 (S.evE (tl (Int.toNat x0 + al)) (vl (Int.toNat x0 + al)) (gl (Int.toNat x0 + al)) (wl (Int.toNat x0 + al)) (xl (Int.toNat x0 + al)))) ([[(0, false, Blk.cols ml [Col.int .i64 tl, Col.int .i64 vl, Col.int .i64 gl, Col.int .i64 wl, Col.int .i64 xl])]]) (3)) (test (lim .i64 (x0 + 1)) (Kst (hd Try.f43 0) ([PV.loose (PA.mk (0) (5) al (0)) nl, PV.loose (PA.mk (0) (5) al (0)) nl, PV.int .i64 (↑nl : Int), PV.int .i64 (x0 + 1)]) ([[(0, false, Blk.cols ml [Col.int .i64 tl, Col.int .i64 vl, Col.int .i64 gl, Col.int .i64 wl, Col.int .i64 xl])]]) (3)) (False))) (False)) (False)) (False)) (False)) (False)) (False)) (False)) (test (decide (al + nl ≤ ml ∧ nl ≤ 1000000)) (test (S.all (fun j => S.srB (fun j => tl (j + al)) (fun j => vl (j + al)) (fun j => gl (j + al)) (fun j => wl (j + al)) (fun j => xl (j + al)) j) (nl - 1)) (Kret (PV.int .i64 (0 : Int)) ([[(0, false, Blk.cols ml [Col.int .i64 tl, Col.int .i64 vl, Col.int .i64 gl, Col.int .i64 wl, Col.int .i64 xl])]]) (2)) (Kret (PV.int .i64 (15 : Int)) ([[(0, false, Blk.cols ml [Col.int .i64 tl, Col.int .i64 vl, Col.int .i64 gl, Col.int .i64 wl, Col.int .i64 xl])]]) (2))) (False))
theorem t43_0 (test : TT) (Kst : KS) (Kret : KR) (al nl ml : Nat) (tl vl gl wl xl : NI) (x0 : Int) : run test Try.env true (xB2 test) true 400 ⟨43, hd Try.f43 0, zipT [0, 9, 10, 11] [PV.loose (PA.mk (0) (5) al (0)) nl,
 PV.loose (PA.mk (0) (5) al (0)) nl, PV.int .i64 (↑nl : Int),
 PV.int .i64 x0], [[], [(0, (false, .cols ml [.int .i64 tl, .int .i64 vl, .int .i64 gl, .int .i64 wl, .int .i64 xl]))]], 1⟩ (proj 1 [0, 9, 10, 11] Kst Kret) =
  T43_0 test Kst Kret al nl ml tl vl gl wl xl x0 := by kernel_rfl
noncomputable abbrev J43 (al nl ml : Nat) (tl : NI) (vl : NI) (gl : NI) (wl : NI) (xl : NI) : Rt43 → Heap := fun r => [newL (1 + 1) ((N43 al nl ml tl vl gl wl xl) r) ++ [(0, (false, .cols ml [.int .i64 tl, .int .i64 vl, .int .i64 gl, .int .i64 wl, .int .i64 xl]))]]
attribute [local irreducible] Int.subNatNat in
theorem be43 (al nl ml : Nat) (tl vl gl wl xl : NI) (Kst : KS) (Kret : KR) (x : St43 ⊕ Rt43) (hS : HS 1 400 ((I43 al nl ml tl vl gl wl xl)) Kst x) (hR : HR 1 400 ((V43 al nl ml tl vl gl wl xl)) (J43 al nl ml tl vl gl wl xl) Kret x) (h : p43 al nl ml tl vl gl wl xl = some x) : Te43 cond Kst Kret al nl ml tl vl gl wl xl := by
  unfold Te43
  unfold p43 at h
  refine bif_split h (fun c0 h => ret_at hR _ h (fun n => n) rfl rfl rfl (rn_int rfl) rfl (entl_bor (use_lo rfl) rfl rfl entl_nil)) (fun c0 h => stop_at hS _ h (fun n => n) rfl rfl rfl ⟨(rn_loose (use_lo rfl) rfl rfl rfl), ⟨(rn_loose (use_lo rfl) rfl rfl rfl), ⟨(rn_int rfl), ⟨(rn_int rfl), trivial⟩⟩⟩⟩ rfl (entl_bor (use_lo rfl) rfl rfl entl_nil))
attribute [local irreducible] Int.subNatNat in
theorem b43_0 (al nl ml : Nat) (tl vl gl wl xl : NI) (Kst : KS) (Kret : KR) (x : St43 ⊕ Rt43) (hS : HS 1 400 ((I43 al nl ml tl vl gl wl xl)) Kst x) (hR : HR 1 400 ((V43 al nl ml tl vl gl wl xl)) (J43 al nl ml tl vl gl wl xl) Kret x) (x0 : Int) (h : q43 al nl ml tl vl gl wl xl (.h0 x0) = some x) : T43_0 cond Kst Kret al nl ml tl vl gl wl xl x0 := by
  unfold T43_0
  rw [q43] at h
  exact bif_split h (fun c0 h => bif_split h (fun c1 h => bif_split h (fun c2 h => cond_yes c2 (cond_yes c2 (cond_yes c2 (cond_yes c2 (cond_yes rfl (bif_split h (fun c3 h => ret_at hR _ h (fun n => n) rfl rfl rfl (rn_int rfl) rfl (entl_bor (use_lo rfl) rfl rfl entl_nil)) (fun c3 h => bif_split h (fun c4 h => stop_at hS _ h (fun n => n) rfl rfl rfl ⟨(rn_loose (use_lo rfl) rfl rfl rfl), ⟨(rn_loose (use_lo rfl) rfl rfl rfl), ⟨(rn_int rfl), ⟨(rn_int rfl), trivial⟩⟩⟩⟩ rfl (entl_bor (use_lo rfl) rfl rfl entl_nil)) (fun c4 h => no_some h)))))))) (fun c2 h => no_some h)) (fun c1 h => no_some h)) (fun c0 h => bif_split h (fun c1 h => bif_split h (fun c2 h => ret_at hR _ h (fun n => n) rfl rfl rfl (rn_int rfl) rfl (entl_bor (use_lo rfl) rfl rfl entl_nil)) (fun c2 h => ret_at hR _ h (fun n => n) rfl rfl rfl (rn_int rfl) rfl (entl_bor (use_lo rfl) rfl rfl entl_nil))) (fun c1 h => no_some h))
theorem a43 (al nl ml : Nat) (tl vl gl wl xl : NI) {r : Rt43} (h : Goes ((q43 al nl ml tl vl gl wl xl)) ((p43 al nl ml tl vl gl wl xl)) r) : CallR Try.prog 43 [.loose ⟨0, 5, al, 0⟩ nl] [[(0, (false, .cols ml [.int .i64 tl, .int .i64 vl, .int .i64 gl, .int .i64 wl, .int .i64 xl]))]] 1 ((V43 al nl ml tl vl gl wl xl) r) ((J43 al nl ml tl vl gl wl xl) r) 400 ∧ ∃ F, Try.prog.funcs[43]? = some F ∧ F.body.isSome = true ∧ (F.name == "runtime.NumGoroutine") = false := by
  refine dec_calls (f := 43) (lo := 1) (hi := 400) Try.envOk Try.mixed xB2_ok ((I43 al nl ml tl vl gl wl xl)) ((V43 al nl ml tl vl gl wl xl)) (J43 al nl ml tl vl gl wl xl) (fn := mkFn Try.f43) (ts := [0, 9, 10, 11]) (n := 400) rfl (by decide) (by simp) (names_of rfl) ?_ ?_ ?_ h
  · intro s; cases s <;> exact ⟨hd_ok _ _, by simp [I43], names_of rfl, Nat.le_of_ble_eq_true rfl⟩
  · intro Kst Kret x hS hR h
    exact Holds.eq (te43 cond Kst Kret al nl ml tl vl gl wl xl) (be43 al nl ml tl vl gl wl xl Kst Kret x hS hR h)
  · intro Kst Kret x hS hR s h
    cases s with
    | h0 x0 => exact Holds.eq (t43_0 cond Kst Kret al nl ml tl vl gl wl xl x0) (b43_0 al nl ml tl vl gl wl xl Kst Kret x hS hR x0 h)
noncomputable abbrev w43 {α : Type} (g : Nat → Nat → Nat → (Nat → Int) → (Nat → Int) → (Nat → Int) → (Nat → Int) → (Nat → Int) → α) (x : (Nat × Nat × Nat × (Nat → Int) × (Nat → Int) × (Nat → Int) × (Nat → Int) × (Nat → Int) × Unit) × Unit) : α := g x.1.1 x.1.2.1 x.1.2.2.1 x.1.2.2.2.1 x.1.2.2.2.2.1 x.1.2.2.2.2.2.1 x.1.2.2.2.2.2.2.1 x.1.2.2.2.2.2.2.2.1
noncomputable def k43  : Con := ⟨43, [.one (.list [.int .i64, .int .i64, .int .i64, .int .i64, .int .i64])], w43 (fun al nl ml tl vl gl wl xl => decide (al + nl ≤ ml ∧ nl ≤ 1000000)), w43 (fun al nl ml tl vl gl wl xl => (V43 al nl ml tl vl gl wl xl) (S.evL nl (fun j => tl (j + al)) (fun j => vl (j + al)) (fun j => gl (j + al)) (fun j => wl (j + al)) (fun j => xl (j + al)))), w43 (fun al nl ml tl vl gl wl xl => (N43 al nl ml tl vl gl wl xl) (S.evL nl (fun j => tl (j + al)) (fun j => vl (j + al)) (fun j => gl (j + al)) (fun j => wl (j + al)) (fun j => xl (j + al)))), fun _ _ => .dead⟩
theorem s43' (al nl ml : Nat) (tl vl gl wl xl : Nat → Int) (hp : al + nl ≤ ml ∧ nl ≤ 1000000) : ∀ (k i : Nat), i + k = nl → (∀ j, j < i → (fun j => S.evP (fun j => tl (j + al)) (fun j => vl (j + al)) (fun j => gl (j + al)) (fun j => wl (j + al)) (fun j => xl (j + al)) j) j = true) → Comes (q43 al nl ml tl vl gl wl xl) (.h0 (i : Int)) (if S.all (fun j => S.evP (fun j => tl (j + al)) (fun j => vl (j + al)) (fun j => gl (j + al)) (fun j => wl (j + al)) (fun j => xl (j + al)) j) nl = true then (if S.all (fun j => S.srB (fun j => tl (j + al)) (fun j => vl (j + al)) (fun j => gl (j + al)) (fun j => wl (j + al)) (fun j => xl (j + al)) j) (nl - 1) = true then 0 else 15) else 6) := by
  have hp' := hp
  obtain ⟨hp1, hp2⟩ := hp
  intro k
  induction k with
  | zero =>
    intro i hi hj
    rw [if_pos (all_iff.mpr fun j h => hj j (by omega))]
    have c1 : al + nl ≤ ml ∧ nl ≤ 1000000 := ⟨hp1, hp2⟩
    obtain ⟨W, hW⟩ : ∃ W, S.all (fun j => S.srB (fun j => tl (j + al)) (fun j => vl (j + al)) (fun j => gl (j + al)) (fun j => wl (j + al)) (fun j => xl (j + al)) j) (nl - 1) = W := ⟨_, rfl⟩
    rw [hW]
    apply Comes.of
    show Goes _ _ _
    rw [q43]
    simp only [decide_eq_true c1, cond_true, hW]
    cases W
    · rw [if_neg Bool.false_ne_true]
      (try simp only [cond_true, cond_false])
      repeat' (first | with_reducible refine goes_if (fun h => ?_) (fun h => ?_) <;> (try simp only [SH] at h) | exact goes_none.mpr (by omega))
      all_goals first | (exfalso; omega) | exact goes_inr.mpr rfl
    · rw [if_pos rfl]
      (try simp only [cond_true, cond_false])
      repeat' (first | with_reducible refine goes_if (fun h => ?_) (fun h => ?_) <;> (try simp only [SH] at h) | exact goes_none.mpr (by omega))
      all_goals first | (exfalso; omega) | exact goes_inr.mpr rfl
  | succ k ih =>
    intro i hi hj
    by_cases h0 : (fun j => S.evP (fun j => tl (j + al)) (fun j => vl (j + al)) (fun j => gl (j + al)) (fun j => wl (j + al)) (fun j => xl (j + al)) j) i = true
    · have ih := ih (i + 1) (by omega) (fun j h => by
        by_cases hji : j = i
        · subst hji; exact h0
        · exact hj j (by omega))
      have h0 : S.evB (tl (i + al)) (vl (i + al)) (gl (i + al)) (wl (i + al)) (xl (i + al)) = true := h0
      have h1 : S.evE (tl (i + al)) (vl (i + al)) (gl (i + al)) (wl (i + al)) (xl (i + al)) = 0 := by unfold S.evE; exact if_pos h0
      clear hj h0
      generalize (if S.all (fun j => S.evP (fun j => tl (j + al)) (fun j => vl (j + al)) (fun j => gl (j + al)) (fun j => wl (j + al)) (fun j => xl (j + al)) j) nl = true then (if S.all (fun j => S.srB (fun j => tl (j + al)) (fun j => vl (j + al)) (fun j => gl (j + al)) (fun j => wl (j + al)) (fun j => xl (j + al)) j) (nl - 1) = true then 0 else 15) else 6) = R at ih ⊢
      apply Comes.of
      show Goes _ _ _
      rw [q43]
      simp only [Int.toNat_natCast, h1]
      clear h1
      repeat' (first | with_reducible refine goes_if (fun h => ?_) (fun h => ?_) <;> (try simp only [SH] at h) | exact goes_none.mpr (by omega))
      all_goals first | (exfalso; omega) | exact ih
    · have hE : (fun j => S.evP (fun j => tl (j + al)) (fun j => vl (j + al)) (fun j => gl (j + al)) (fun j => wl (j + al)) (fun j => xl (j + al)) j) i = false := Bool.eq_false_iff.mpr h0
      rw [if_neg (all_no (i := i) (by omega) hE)]
      have h0 : S.evB (tl (i + al)) (vl (i + al)) (gl (i + al)) (wl (i + al)) (xl (i + al)) = false := hE
      have h1 : S.evE (tl (i + al)) (vl (i + al)) (gl (i + al)) (wl (i + al)) (xl (i + al)) = 6 := by unfold S.evE; exact if_neg (by rw [h0]; exact Bool.false_ne_true)
      apply Comes.of
      show Goes _ _ _
      rw [q43]
      simp only [Int.toNat_natCast, h1]
      clear h1 h0 hE
      repeat' (first | with_reducible refine goes_if (fun h => ?_) (fun h => ?_) <;> (try simp only [SH] at h) | exact goes_none.mpr (by omega))
      all_goals first | (exfalso; omega) | exact goes_inr.mpr rfl
theorem s43 (al nl ml : Nat) (tl vl gl wl xl : Nat → Int) (hp : al + nl ≤ ml ∧ nl ≤ 1000000) : Goes ((q43 al nl ml tl vl gl wl xl)) ((p43 al nl ml tl vl gl wl xl)) (S.evL nl (fun j => tl (j + al)) (fun j => vl (j + al)) (fun j => gl (j + al)) (fun j => wl (j + al)) (fun j => xl (j + al))) := by
  have hm := s43' al nl ml tl vl gl wl xl hp nl 0 (by omega) (fun j h => by omega)
  unfold S.evL
  generalize (if S.all (fun j => S.evP (fun j => tl (j + al)) (fun j => vl (j + al)) (fun j => gl (j + al)) (fun j => wl (j + al)) (fun j => xl (j + al)) j) nl = true then (if S.all (fun j => S.srB (fun j => tl (j + al)) (fun j => vl (j + al)) (fun j => gl (j + al)) (fun j => wl (j + al)) (fun j => xl (j + al)) j) (nl - 1) = true then 0 else 15) else 6) = R at *
  show Goes _ _ _
  unfold p43
  repeat' (first | with_reducible refine goes_if (fun h => ?_) (fun h => ?_) <;> (try simp only [SH] at h) | exact goes_none.mpr (by omega))
  all_goals first
    | (exfalso; omega)
    | (rw [if_pos (by omega)]; exact goes_inr.mpr rfl)
    | (rw [if_neg (by omega)]; exact hm)
theorem k43_ok  : k43.ok Try.prog := by
  intro x hx
  obtain ⟨⟨al, nl, ml, tl, vl, gl, wl, xl, _⟩, _⟩ := x
  obtain ⟨h1, h2⟩ := a43 al nl ml tl vl gl wl xl (s43 al nl ml tl vl gl wl xl (of_dec hx rfl))
  exact ⟨⟨400, (by decide : 1 + 1 + 0 ≤ 400), h1⟩, h2⟩
inductive St45 where
  | h0 (x0 : Int)
  | h1 (x0 : Int)
abbrev Rt45  := Int
noncomputable def V45 (al nl ml : Nat) (tl vl gl wl xl : NI) (r : Rt45) : PV := PV.int .i64 r
noncomputable def N45 (al nl ml : Nat) (tl vl gl wl xl : NI) (r : Rt45) : List Blk := []
noncomputable def I45 (al nl ml : Nat) (tl vl gl wl xl : NI) : St45 → Hd
  | .h0 x0 => ⟨hd Try.f45 0, [PV.loose (PA.mk (0) (5) al (0)) nl, PV.int .i64 x0, PV.unk], [[], [(0, (false, .cols ml [.int .i64 tl, .int .i64 vl, .int .i64 gl, .int .i64 wl, .int .i64 xl]))]], 1⟩
  | .h1 x0 => ⟨hd Try.f45 1, [PV.loose (PA.mk (0) (5) al (0)) nl, PV.unk, PV.int .i64 x0], [[], [(0, (false, .cols ml [.int .i64 tl, .int .i64 vl, .int .i64 gl, .int .i64 wl, .int .i64 xl]))]], 1⟩
noncomputable def q45 (al nl ml : Nat) (tl vl gl wl xl : NI) : St45 → Option (St45 ⊕ Rt45) | .h0 x0 => bif (decide (x0 < (↑nl : Int))) then (bif (decide ((0 : Int) ≤ x0 ∧ x0 < (↑nl : Int))) then (bif (decide (Int.toNat x0 + al < ml)) then (bif (S.evE (tl (Int.toNat x0 + al)) (vl (Int.toNat x0 + al)) (gl (Int.toNat x0 + al)) (wl (Int.toNat x0 + al)) (xl (Int.toNat x0 + al)) != 0) then (some (.inr (S.evE (tl (Int.toNat x0 + al)) (vl (Int.toNat x0 + al)) (gl (Int.toNat x0 + al)) (wl (Int.toNat x0 + al)) (xl (Int.toNat x0 + al))))) else (bif (lim .i64 (x0 + 1)) then (some (.inl (.h0 (x0 + 1)))) else (none))) else (none)) else (none)) else (some (.inl (.h1 ((1 : Int))))) | .h1 x0 => bif (decide (x0 < (↑nl : Int))) then (bif (lim .i64 (x0 - 1)) then (bif (decide ((0 : Int) ≤ x0 - 1 ∧ x0 - 1 < (↑nl : Int))) then (bif (decide (Int.toNat (x0 - 1) + al < ml)) then (bif (decide ((0 : Int) ≤ x0 ∧ x0 < (↑nl : Int))) then (bif (decide (Int.toNat x0 + al < ml)) then (bif (decide (S.ecmp (tl (Int.toNat (x0 - 1) + al)) (vl (Int.toNat (x0 - 1) + al)) (gl (Int.toNat (x0 - 1) + al)) (wl (Int.toNat (x0 - 1) + al)) (xl (Int.toNat (x0 - 1) + al)) (tl (Int.toNat x0 + al)) (vl (Int.toNat x0 + al)) (gl (Int.toNat x0 + al)) (wl (Int.toNat x0 + al)) (xl (Int.toNat x0 + al)) > 0)) then (some (.inr ((15 : Int)))) else (bif (lim .i64 (x0 + 1)) then (some (.inl (.h1 (x0 + 1)))) else (none))) else (none)) else (none)) else (none)) else (none)) else (none)) else (some (.inr ((0 : Int))))
noncomputable def p45 (al nl ml : Nat) (tl vl gl wl xl : NI) : Option (St45 ⊕ Rt45) := bif (decide ((↑nl : Int) > 2000)) then (some (.inr ((3 : Int)))) else (some (.inl (.h0 ((0 : Int)))))
noncomputable def Te45 (test : TT) (Kst : KS) (Kret : KR) (al nl ml : Nat) (tl vl gl wl xl : NI) : Prop := test (decide ((↑nl : Int) > 2000)) (Kret (PV.int .i64 (3 : Int)) ([[(0, false, Blk.cols ml [Col.int .i64 tl, Col.int .i64 vl, Col.int .i64 gl, Col.int .i64 wl, Col.int .i64 xl])]]) (1)) (Kst (hd Try.f45 0) ([PV.loose (PA.mk (0) (5) al (0)) nl, PV.int .i64 (0 : Int), PV.unk]) ([[(0, false, Blk.cols ml [Col.int .i64 tl, Col.int .i64 vl, Col.int .i64 gl, Col.int .i64 wl, Col.int .i64 xl])]]) (1))
theorem te45 (test : TT) (Kst : KS) (Kret : KR) (al nl ml : Nat) (tl vl gl wl xl : NI) : run test Try.env true (xB2 test) true 400 ⟨45, [.cd (mkFn Try.f45).body], argT 0 [.loose ⟨0, 5, al, 0⟩ nl], [[], [(0, (false, .cols ml [.int .i64 tl, .int .i64 vl, .int .i64 gl, .int .i64 wl, .int .i64 xl]))]], 1⟩ (proj 1 [0, 3, 5] Kst Kret) =
  Te45 test Kst Kret al nl ml tl vl gl wl xl := by kernel_rfl
noncomputable def T45_0 (test : TT) (Kst : KS) (Kret : KR) (al nl ml : Nat) (tl vl gl wl xl : NI) (x0 : Int) : Prop := test (decide (x0 < (↑nl : Int))) (test (decide ((0 : Int) ≤ x0 ∧ x0 < (↑nl : Int))) (test (decide (Int.toNat x0 + al < ml)) (test (decide (Int.toNat x0 + al < ml)) (test (decide (Int.toNat x0 + al < ml)) (test (decide (Int.toNat x0 + al < ml)) (test (decide (Int.toNat x0 + al < ml)) (test (true) (test (S.evE (tl (Int.toNat x0 + al)) (vl (Int.toNat x0 + al)) (gl (Int.toNat x0 + al)) (wl (Int.toNat x0 + al)) (xl (Int.toNat x0 + al)) != 0) (Kret (PV.int .i64 (S.evE (tl (Int.toNat x0 + al)) (vl (Int.toNat x0 + al)) (gl (Int.toNat x0 + al)) (wl (Int.toNat x0 + al)) (xl (Int.toNat x0 + al)))) ([[(0, false, Blk.cols ml [Col.int .i64 tl, Col.int .i64 vl, Col.int .i64 gl, Col.int .i64 wl, Col.int .i64 xl])]]) (2)) (test (lim .i64 (x0 + 1)) (Kst (hd Try.f45 0) ([PV.loose (PA.mk (0) (5) al (0)) nl, PV.int .i64 (x0 + 1), PV.unk]) ([[(0, false, Blk.cols ml [Col.int .i64 tl, Col.int .i64 vl, Col.int .i64 gl, Col.int .i64 wl, Col.int .i64 xl])]]) (2)) (False))) (False)) (False)) (False)) (False)) (False)) (False)) (False)) (Kst (hd Try.f45 1) ([PV.loose (PA.mk (0) (5) al (0)) nl, PV.int .i64 x0, PV.int .i64 (1 : Int)]) ([[(0, false, Blk.cols ml [Col.int .i64 tl, Col.int .i64 vl, Col.int .i64 gl, Col.int .i64 wl, Col.int .i64 xl])]]) (1))
theorem t45_0 (test : TT) (Kst : KS) (Kret : KR) (al nl ml : Nat) (tl vl gl wl xl : NI) (x0 : Int) : run test Try.env true (xB2 test) true 400 ⟨45, hd Try.f45 0, zipT [0, 3, 5] [PV.loose (PA.mk (0) (5) al (0)) nl, PV.int .i64 x0, PV.unk], [[], [(0, (false, .cols ml [.int .i64 tl, .int .i64 vl, .int .i64 gl, .int .i64 wl, .int .i64 xl]))]], 1⟩ (proj 1 [0, 3, 5] Kst Kret) =
  T45_0 test Kst Kret al nl ml tl vl gl wl xl x0 := by kernel_rfl
noncomputable def T45_1 (test : TT) (Kst : KS) (Kret : KR) (al nl ml : Nat) (tl vl gl wl xl : NI) (x0 : Int) : Prop := test (decide (x0 < (↑nl : Int))) (test (lim .i64 (x0 - 1)) (test (decide ((0 : Int) ≤ x0 - 1 ∧ x0 - 1 < (↑nl : Int))) (test (decide (Int.toNat (x0 - 1) + al < ml)) (test (decide (Int.toNat (x0 - 1) + al < ml)) (test (decide (Int.toNat (x0 - 1) + al < ml)) (test (decide (Int.toNat (x0 - 1) + al < ml)) (test (decide (Int.toNat (x0 - 1) + al < ml)) (test (decide ((0 : Int) ≤ x0 ∧ x0 < (↑nl : Int))) (test (decide (Int.toNat x0 + al < ml)) (test (decide (Int.toNat x0 + al < ml)) (test (decide (Int.toNat x0 + al < ml)) (test (decide (Int.toNat x0 + al < ml)) (test (decide (Int.toNat x0 + al < ml)) (test (true) (test (decide (S.ecmp (tl (Int.toNat (x0 - 1) + al)) (vl (Int.toNat (x0 - 1) + al)) (gl (Int.toNat (x0 - 1) + al)) (wl (Int.toNat (x0 - 1) + al)) (xl (Int.toNat (x0 - 1) + al)) (tl (Int.toNat x0 + al)) (vl (Int.toNat x0 + al)) (gl (Int.toNat x0 + al)) (wl (Int.toNat x0 + al)) (xl (Int.toNat x0 + al)) > 0)) (Kret (PV.int .i64 (15 : Int)) ([[(0, false, Blk.cols ml [Col.int .i64 tl, Col.int .i64 vl, Col.int .i64 gl, Col.int .i64 wl, Col.int .i64 xl])]]) (2)) (test (lim .i64 (x0 + 1)) (Kst (hd Try.f45 1) ([PV.loose (PA.mk (0) (5) al (0)) nl, PV.unk, PV.int .i64 (x0 + 1)]) ([[(0, false, Blk.cols ml [Col.int .i64 tl, Col.int .i64 vl, Col.int .i64 gl, Col.int .i64 wl, Col.int .i64 xl])]]) (2)) (False))) (False)) (False)) (False)) (False)) (False)) (False)) (False)) (False)) (False)) (False)) (False)) (False)) (False)) (False)) (Kret (PV.int .i64 (0 : Int)) ([[(0, false, Blk.cols ml [Col.int .i64 tl, Col.int .i64 vl, Col.int .i64 gl, Col.int .i64 wl, Col.int .i64 xl])]]) (1))
theorem t45_1 (test : TT) (Kst : KS) (Kret : KR) (al nl ml : Nat) (tl vl gl wl xl : NI) (x0 : Int) : run test Try.env true (xB2 test) true 400 ⟨45, hd Try.f45 1, zipT [0, 3, 5] [PV.loose (PA.mk (0) (5) al (0)) nl, PV.unk, PV.int .i64 x0], [[], [(0, (false, .cols ml [.int .i64 tl, .int .i64 vl, .int .i64 gl, .int .i64 wl, .int .i64 xl]))]], 1⟩ (proj 1 [0, 3, 5] Kst Kret) =
  T45_1 test Kst Kret al nl ml tl vl gl wl xl x0 := by kernel_rfl
noncomputable abbrev J45 (al nl ml : Nat) (tl : NI) (vl : NI) (gl : NI) (wl : NI) (xl : NI) : Rt45 → Heap := fun r => [newL (1 + 1) ((N45 al nl ml tl vl gl wl xl) r) ++ [(0, (false, .cols ml [.int .i64 tl, .int .i64 vl, .int .i64 gl, .int .i64 wl, .int .i64 xl]))]]
attribute [local irreducible] Int.subNatNat in
theorem be45 (al nl ml : Nat) (tl vl gl wl xl : NI) (Kst : KS) (Kret : KR) (x : St45 ⊕ Rt45) (hS : HS 1 400 ((I45 al nl ml tl vl gl wl xl)) Kst x) (hR : HR 1 400 ((V45 al nl ml tl vl gl wl xl)) (J45 al nl ml tl vl gl wl xl) Kret x) (h : p45 al nl ml tl vl gl wl xl = some x) : Te45 cond Kst Kret al nl ml tl vl gl wl xl := by
  unfold Te45
  unfold p45 at h
  refine bif_split h (fun c0 h => ret_at hR _ h (fun n => n) rfl rfl rfl (rn_int rfl) rfl (entl_bor (use_lo rfl) rfl rfl entl_nil)) (fun c0 h => stop_at hS _ h (fun n => n) rfl rfl rfl ⟨(rn_loose (use_lo rfl) rfl rfl rfl), ⟨(rn_int rfl), ⟨(rn_unk _), trivial⟩⟩⟩ rfl (entl_bor (use_lo rfl) rfl rfl entl_nil))
attribute [local irreducible] Int.subNatNat in
theorem b45_0 (al nl ml : Nat) (tl vl gl wl xl : NI) (Kst : KS) (Kret : KR) (x : St45 ⊕ Rt45) (hS : HS 1 400 ((I45 al nl ml tl vl gl wl xl)) Kst x) (hR : HR 1 400 ((V45 al nl ml tl vl gl wl xl)) (J45 al nl ml tl vl gl wl xl) Kret x) (x0 : Int) (h : q45 al nl ml tl vl gl wl xl (.h0 x0) = some x) : T45_0 cond Kst Kret al nl ml tl vl gl wl xl x0 := by
  unfold T45_0
  rw [q45] at h
  exact bif_split h (fun c0 h => bif_split h (fun c1 h => bif_split h (fun c2 h => cond_yes c2 (cond_yes c2 (cond_yes c2 (cond_yes c2 (cond_yes rfl (bif_split h (fun c3 h => ret_at hR _ h (fun n => n) rfl rfl rfl (rn_int rfl) rfl (entl_bor (use_lo rfl) rfl rfl entl_nil)) (fun c3 h => bif_split h (fun c4 h => stop_at hS _ h (fun n => n) rfl rfl rfl ⟨(rn_loose (use_lo rfl) rfl rfl rfl), ⟨(rn_int rfl), ⟨(rn_unk _), trivial⟩⟩⟩ rfl (entl_bor (use_lo rfl) rfl rfl entl_nil)) (fun c4 h => no_some h)))))))) (fun c2 h => no_some h)) (fun c1 h => no_some h)) (fun c0 h => stop_at hS _ h (fun n => n) rfl rfl rfl ⟨(rn_loose (use_lo rfl) rfl rfl rfl), ⟨(rn_unk _), ⟨(rn_int rfl), trivial⟩⟩⟩ rfl (entl_bor (use_lo rfl) rfl rfl entl_nil))
attribute [local irreducible] Int.subNatNat in
theorem b45_1 (al nl ml : Nat) (tl vl gl wl xl : NI) (Kst : KS) (Kret : KR) (x : St45 ⊕ Rt45) (hS : HS 1 400 ((I45 al nl ml tl vl gl wl xl)) Kst x) (hR : HR 1 400 ((V45 al nl ml tl vl gl wl xl)) (J45 al nl ml tl vl gl wl xl) Kret x) (x0 : Int) (h : q45 al nl ml tl vl gl wl xl (.h1 x0) = some x) : T45_1 cond Kst Kret al nl ml tl vl gl wl xl x0 := by
  unfold T45_1
  rw [q45] at h
  exact bif_split h (fun c0 h => bif_split h (fun c1 h => bif_split h (fun c2 h => bif_split h (fun c3 h => cond_yes c3 (cond_yes c3 (cond_yes c3 (cond_yes c3 (bif_split h (fun c4 h => bif_split h (fun c5 h => cond_yes c5 (cond_yes c5 (cond_yes c5 (cond_yes c5 (cond_yes rfl (bif_split h (fun c6 h => ret_at hR _ h (fun n => n) rfl rfl rfl (rn_int rfl) rfl (entl_bor (use_lo rfl) rfl rfl entl_nil)) (fun c6 h => bif_split h (fun c7 h => stop_at hS _ h (fun n => n) rfl rfl rfl ⟨(rn_loose (use_lo rfl) rfl rfl rfl), ⟨(rn_unk _), ⟨(rn_int rfl), trivial⟩⟩⟩ rfl (entl_bor (use_lo rfl) rfl rfl entl_nil)) (fun c7 h => no_some h)))))))) (fun c5 h => no_some h)) (fun c4 h => no_some h)))))) (fun c3 h => no_some h)) (fun c2 h => no_some h)) (fun c1 h => no_some h)) (fun c0 h => ret_at hR _ h (fun n => n) rfl rfl rfl (rn_int rfl) rfl (entl_bor (use_lo rfl) rfl rfl entl_nil))
theorem a45 (al nl ml : Nat) (tl vl gl wl xl : NI) {r : Rt45} (h : Goes ((q45 al nl ml tl vl gl wl xl)) ((p45 al nl ml tl vl gl wl xl)) r) : CallR Try.prog 45 [.loose ⟨0, 5, al, 0⟩ nl] [[(0, (false, .cols ml [.int .i64 tl, .int .i64 vl, .int .i64 gl, .int .i64 wl, .int .i64 xl]))]] 1 ((V45 al nl ml tl vl gl wl xl) r) ((J45 al nl ml tl vl gl wl xl) r) 400 ∧ ∃ F, Try.prog.funcs[45]? = some F ∧ F.body.isSome = true ∧ (F.name == "runtime.NumGoroutine") = false := by
  refine dec_calls (f := 45) (lo := 1) (hi := 400) Try.envOk Try.mixed xB2_ok ((I45 al nl ml tl vl gl wl xl)) ((V45 al nl ml tl vl gl wl xl)) (J45 al nl ml tl vl gl wl xl) (fn := mkFn Try.f45) (ts := [0, 3, 5]) (n := 400) rfl (by decide) (by simp) (names_of rfl) ?_ ?_ ?_ h
  · intro s; cases s <;> exact ⟨hd_ok _ _, by simp [I45], names_of rfl, Nat.le_of_ble_eq_true rfl⟩
  · intro Kst Kret x hS hR h
    exact Holds.eq (te45 cond Kst Kret al nl ml tl vl gl wl xl) (be45 al nl ml tl vl gl wl xl Kst Kret x hS hR h)
  · intro Kst Kret x hS hR s h
    cases s with
    | h0 x0 => exact Holds.eq (t45_0 cond Kst Kret al nl ml tl vl gl wl xl x0) (b45_0 al nl ml tl vl gl wl xl Kst Kret x hS hR x0 h)
    | h1 x0 => exact Holds.eq (t45_1 cond Kst Kret al nl ml tl vl gl wl xl x0) (b45_1 al nl ml tl vl gl wl xl Kst Kret x hS hR x0 h)
noncomputable abbrev w45 {α : Type} (g : Nat → Nat → Nat → (Nat → Int) → (Nat → Int) → (Nat → Int) → (Nat → Int) → (Nat → Int) → α) (x : (Nat × Nat × Nat × (Nat → Int) × (Nat → Int) × (Nat → Int) × (Nat → Int) × (Nat → Int) × Unit) × Unit) : α := g x.1.1 x.1.2.1 x.1.2.2.1 x.1.2.2.2.1 x.1.2.2.2.2.1 x.1.2.2.2.2.2.1 x.1.2.2.2.2.2.2.1 x.1.2.2.2.2.2.2.2.1
noncomputable def k45  : Con := ⟨45, [.one (.list [.int .i64, .int .i64, .int .i64, .int .i64, .int .i64])], w45 (fun al nl ml tl vl gl wl xl => decide (al + nl ≤ ml ∧ nl ≤ 1000000)), w45 (fun al nl ml tl vl gl wl xl => (V45 al nl ml tl vl gl wl xl) (S.evL nl (fun j => tl (j + al)) (fun j => vl (j + al)) (fun j => gl (j + al)) (fun j => wl (j + al)) (fun j => xl (j + al)))), w45 (fun al nl ml tl vl gl wl xl => (N45 al nl ml tl vl gl wl xl) (S.evL nl (fun j => tl (j + al)) (fun j => vl (j + al)) (fun j => gl (j + al)) (fun j => wl (j + al)) (fun j => xl (j + al)))), fun _ _ => .dead⟩
theorem s45s (al nl ml : Nat) (tl vl gl wl xl : Nat → Int) (hp : al + nl ≤ ml ∧ nl ≤ 1000000) : ∀ (k i : Nat), i + 1 + k = nl ∨ (nl = 0 ∧ k = 0 ∧ i = 0) → (∀ j, j < i → (fun j => S.srB (fun j => tl (j + al)) (fun j => vl (j + al)) (fun j => gl (j + al)) (fun j => wl (j + al)) (fun j => xl (j + al)) j) j = true) → Comes (q45 al nl ml tl vl gl wl xl) (.h1 ((i : Int) + 1)) (if S.all (fun j => S.srB (fun j => tl (j + al)) (fun j => vl (j + al)) (fun j => gl (j + al)) (fun j => wl (j + al)) (fun j => xl (j + al)) j) (nl - 1) = true then 0 else 15) := by
  obtain ⟨hp1, hp2⟩ := hp
  intro k
  induction k with
  | zero =>
    intro i hi hj
    rw [if_pos (all_iff.mpr fun j h => hj j (by omega))]
    apply Comes.of
    show Goes _ _ _
    (first | rw [q45] | unfold q45)
    repeat' (first | with_reducible refine goes_if (fun h => ?_) (fun h => ?_) <;> (try simp only [SH] at h) | exact goes_none.mpr (by omega))
    all_goals first | (exfalso; omega) | exact goes_inr.mpr rfl
  | succ k ih =>
    intro i hi hj
    have e1 : ((i : Int) + 1 - 1) = i := by omega
    have ht : ((i : Int) + 1).toNat = i + 1 := by omega
    have eS : S.srB (fun j => tl (j + al)) (fun j => vl (j + al)) (fun j => gl (j + al)) (fun j => wl (j + al)) (fun j => xl (j + al)) i = decide (S.ecmp (tl (i + al)) (vl (i + al)) (gl (i + al)) (wl (i + al)) (xl (i + al)) (tl (i + 1 + al)) (vl (i + 1 + al)) (gl (i + 1 + al)) (wl (i + 1 + al)) (xl (i + 1 + al)) ≤ 0) := rfl
    by_cases h0 : S.ecmp (tl (i + al)) (vl (i + al)) (gl (i + al)) (wl (i + al)) (xl (i + al)) (tl (i + 1 + al)) (vl (i + 1 + al)) (gl (i + 1 + al)) (wl (i + 1 + al)) (xl (i + 1 + al)) ≤ 0
    · have ih := ih (i + 1) (by omega) (fun j h => by
        by_cases hji : j = i
        · subst hji; exact eS.trans (decide_eq_true h0)
        · exact hj j (by omega))
      have e2 : (((i + 1 : Nat) : Int) + 1) = (i : Int) + 1 + 1 := by omega
      rw [e2] at ih
      generalize S.all (fun j => S.srB (fun j => tl (j + al)) (fun j => vl (j + al)) (fun j => gl (j + al)) (fun j => wl (j + al)) (fun j => xl (j + al)) j) (nl - 1) = W at *
      apply Comes.of
      show Goes _ _ _
      rw [q45]
      simp only [e1, ht, Int.toNat_natCast]
      generalize S.ecmp _ _ _ _ _ _ _ _ _ _ = z at *
      repeat' (first | with_reducible refine goes_if (fun h => ?_) (fun h => ?_) <;> (try simp only [SH] at h) | exact goes_none.mpr (by omega))
      all_goals first | (exfalso; omega) | exact ih
    · rw [if_neg (all_no (i := i) (by omega) (eS.trans (decide_eq_false h0)))]
      apply Comes.of
      show Goes _ _ _
      rw [q45]
      simp only [e1, ht, Int.toNat_natCast]
      generalize S.ecmp _ _ _ _ _ _ _ _ _ _ = z at *
      repeat' (first | with_reducible refine goes_if (fun h => ?_) (fun h => ?_) <;> (try simp only [SH] at h) | exact goes_none.mpr (by omega))
      all_goals first | (exfalso; omega) | exact goes_inr.mpr rfl
theorem s45' (al nl ml : Nat) (tl vl gl wl xl : Nat → Int) (hp : al + nl ≤ ml ∧ nl ≤ 1000000) : ∀ (k i : Nat), i + k = nl → (∀ j, j < i → (fun j => S.evP (fun j => tl (j + al)) (fun j => vl (j + al)) (fun j => gl (j + al)) (fun j => wl (j + al)) (fun j => xl (j + al)) j) j = true) → Comes (q45 al nl ml tl vl gl wl xl) (.h0 (i : Int)) (if S.all (fun j => S.evP (fun j => tl (j + al)) (fun j => vl (j + al)) (fun j => gl (j + al)) (fun j => wl (j + al)) (fun j => xl (j + al)) j) nl = true then (if S.all (fun j => S.srB (fun j => tl (j + al)) (fun j => vl (j + al)) (fun j => gl (j + al)) (fun j => wl (j + al)) (fun j => xl (j + al)) j) (nl - 1) = true then 0 else 15) else 6) := by
  have hp' := hp
  obtain ⟨hp1, hp2⟩ := hp
  intro k
  induction k with
  | zero =>
    intro i hi hj
    rw [if_pos (all_iff.mpr fun j h => hj j (by omega))]
    have hm := s45s al nl ml tl vl gl wl xl hp' (nl - 1) 0 (by omega) (fun j h => by omega)
    generalize S.all (fun j => S.srB (fun j => tl (j + al)) (fun j => vl (j + al)) (fun j => gl (j + al)) (fun j => wl (j + al)) (fun j => xl (j + al)) j) (nl - 1) = W at *
    apply Comes.of
    show Goes _ _ _
    (first | rw [q45] | unfold q45)
    repeat' (first | with_reducible refine goes_if (fun h => ?_) (fun h => ?_) <;> (try simp only [SH] at h) | exact goes_none.mpr (by omega))
    all_goals first | (exfalso; omega) | exact hm
  | succ k ih =>
    intro i hi hj
    by_cases h0 : (fun j => S.evP (fun j => tl (j + al)) (fun j => vl (j + al)) (fun j => gl (j + al)) (fun j => wl (j + al)) (fun j => xl (j + al)) j) i = true
    · have ih := ih (i + 1) (by omega) (fun j h => by
        by_cases hji : j = i
        · subst hji; exact h0
        · exact hj j (by omega))
      have h0 : S.evB (tl (i + al)) (vl (i + al)) (gl (i + al)) (wl (i + al)) (xl (i + al)) = true := h0
      have h1 : S.evE (tl (i + al)) (vl (i + al)) (gl (i + al)) (wl (i + al)) (xl (i + al)) = 0 := by unfold S.evE; exact if_pos h0
      clear hj h0
      generalize (if S.all (fun j => S.evP (fun j => tl (j + al)) (fun j => vl (j + al)) (fun j => gl (j + al)) (fun j => wl (j + al)) (fun j => xl (j + al)) j) nl = true then (if S.all (fun j => S.srB (fun j => tl (j + al)) (fun j => vl (j + al)) (fun j => gl (j + al)) (fun j => wl (j + al)) (fun j => xl (j + al)) j) (nl - 1) = true then 0 else 15) else 6) = R at ih ⊢
      apply Comes.of
      show Goes _ _ _
      rw [q45]
      simp only [Int.toNat_natCast, h1]
      clear h1
      repeat' (first | with_reducible refine goes_if (fun h => ?_) (fun h => ?_) <;> (try simp only [SH] at h) | exact goes_none.mpr (by omega))
      all_goals first | (exfalso; omega) | exact ih
    · have hE : (fun j => S.evP (fun j => tl (j + al)) (fun j => vl (j + al)) (fun j => gl (j + al)) (fun j => wl (j + al)) (fun j => xl (j + al)) j) i = false := Bool.eq_false_iff.mpr h0
      rw [if_neg (all_no (i := i) (by omega) hE)]
      have h0 : S.evB (tl (i + al)) (vl (i + al)) (gl (i + al)) (wl (i + al)) (xl (i + al)) = false := hE
      have h1 : S.evE (tl (i + al)) (vl (i + al)) (gl (i + al)) (wl (i + al)) (xl (i + al)) = 6 := by unfold S.evE; exact if_neg (by rw [h0]; exact Bool.false_ne_true)
      apply Comes.of
      show Goes _ _ _
      rw [q45]
      simp only [Int.toNat_natCast, h1]
      clear h1 h0 hE
      repeat' (first | with_reducible refine goes_if (fun h => ?_) (fun h => ?_) <;> (try simp only [SH] at h) | exact goes_none.mpr (by omega))
      all_goals first | (exfalso; omega) | exact goes_inr.mpr rfl
theorem s45 (al nl ml : Nat) (tl vl gl wl xl : Nat → Int) (hp : al + nl ≤ ml ∧ nl ≤ 1000000) : Goes ((q45 al nl ml tl vl gl wl xl)) ((p45 al nl ml tl vl gl wl xl)) (S.evL nl (fun j => tl (j + al)) (fun j => vl (j + al)) (fun j => gl (j + al)) (fun j => wl (j + al)) (fun j => xl (j + al))) := by
  have hm := s45' al nl ml tl vl gl wl xl hp nl 0 (by omega) (fun j h => by omega)
  unfold S.evL
  generalize (if S.all (fun j => S.evP (fun j => tl (j + al)) (fun j => vl (j + al)) (fun j => gl (j + al)) (fun j => wl (j + al)) (fun j => xl (j + al)) j) nl = true then (if S.all (fun j => S.srB (fun j => tl (j + al)) (fun j => vl (j + al)) (fun j => gl (j + al)) (fun j => wl (j + al)) (fun j => xl (j + al)) j) (nl - 1) = true then 0 else 15) else 6) = R at *
  show Goes _ _ _
  unfold p45
  repeat' (first | with_reducible refine goes_if (fun h => ?_) (fun h => ?_) <;> (try simp only [SH] at h) | exact goes_none.mpr (by omega))
  all_goals first
    | (exfalso; omega)
    | (rw [if_pos (by omega)]; exact goes_inr.mpr rfl)
    | (rw [if_neg (by omega)]; exact hm)
theorem k45_ok  : k45.ok Try.prog := by
  intro x hx
  obtain ⟨⟨al, nl, ml, tl, vl, gl, wl, xl, _⟩, _⟩ := x
  obtain ⟨h1, h2⟩ := a45 al nl ml tl vl gl wl xl (s45 al nl ml tl vl gl wl xl (of_dec hx rfl))
  exact ⟨⟨400, (by decide : 1 + 1 + 0 ≤ 400), h1⟩, h2⟩
noncomputable def xC2 (test : Bool → Prop → Prop → Prop) : Ext := consX test [k40, k14, k15, k13, k16, k43, k45]
theorem xC2_ok  : ExtOk Try.prog (xC2 cond) := consX_ok ⟨k40_ok, k14_ok, k15_ok, k13_ok, k16_ok, k43_ok, k45_ok, trivial⟩
namespace S
def nxN (a b c d e : Nat → Int) (nb fr : Int) : Nat → Nat → Int × Int × Int × Int × Int × Int
  | _, 0 => (0, 0, 0, 0, 0, 10)
  | i, k + 1 => if b i = nb ∧ a i ≥ fr then (a i, b i, c i, d i, e i, 0) else nxN a b c d e nb fr (i + 1) k
def nxtS (n : Nat) (a b c d e : Nat → Int) (nb fr : Int) : Int × Int × Int × Int × Int × Int :=
  if evL n a b c d e = 0 then nxN a b c d e nb fr 0 n else (0, 0, 0, 0, 0, evL n a b c d e)
def samL (n : Nat) (a b c d e : Nat → Int) (m : Nat) (a' b' c' d' e' : Nat → Int) : Bool := decide (mkl n (fun j => (a j, b j, c j, d j, e j)) = mkl m (fun j => (a' j, b' j, c' j, d' j, e' j)))
end S
inductive St25 where
  | h0 (x0 : Int)
abbrev Rt25  := Int × Int × Int × Int × Int × Int
noncomputable def V25 (al nl ml : Nat) (tl vl gl wl xl : NI) (nb fr : Int) (r : Rt25) : PV := PV.tup [PV.agg [PV.int .i64 r.1, PV.int .i64 r.2.1, PV.int .i64 r.2.2.1, PV.int .i64 r.2.2.2.1, PV.int .i64 r.2.2.2.2.1], PV.int .i64 r.2.2.2.2.2]
noncomputable def N25 (al nl ml : Nat) (tl vl gl wl xl : NI) (nb fr : Int) (r : Rt25) : List Blk := []
noncomputable def I25 (al nl ml : Nat) (tl vl gl wl xl : NI) (nb fr : Int) : St25 → Hd
  | .h0 x0 => ⟨hd Try.f25 0, [PV.int .i64 nb, PV.int .i64 fr,
 PV.ptr (PA.mk (1) (0) (0) (0)),
 PV.loose (PA.mk (0) (5) al (0)) nl, PV.int .i64 (↑nl : Int),
 PV.int .i64 x0], [[(1, (true, Blk.cells
 [PV.int .i64 (0 : Int), PV.int .i64 (0 : Int), PV.int .i64 (0 : Int),
 PV.int .i64 (0 : Int), PV.int .i64 (0 : Int)]))], [(0, (false, .cols ml [.int .i64 tl, .int .i64 vl, .int .i64 gl, .int .i64 wl, .int .i64 xl]))]], 2⟩
noncomputable def q25 (al nl ml : Nat) (tl vl gl wl xl : NI) (nb fr : Int) : St25 → Option (St25 ⊕ Rt25) | .h0 x0 => bif (decide (x0 < (↑nl : Int))) then (bif (decide ((0 : Int) ≤ x0 ∧ x0 < (↑nl : Int))) then (bif (decide (Int.toNat x0 + al < ml)) then (bif (vl (Int.toNat x0 + al) == nb) then (bif (decide (tl (Int.toNat x0 + al) ≥ fr)) then (some (.inr (tl (Int.toNat x0 + al), vl (Int.toNat x0 + al), gl (Int.toNat x0 + al), wl (Int.toNat x0 + al), xl (Int.toNat x0 + al), (0 : Int)))) else (bif (lim .i64 (x0 + 1)) then (some (.inl (.h0 (x0 + 1)))) else (none))) else (bif (lim .i64 (x0 + 1)) then (some (.inl (.h0 (x0 + 1)))) else (none))) else (none)) else (none)) else (some (.inr ((0 : Int), (0 : Int), (0 : Int), (0 : Int), (0 : Int), (10 : Int))))
noncomputable def p25 (al nl ml : Nat) (tl vl gl wl xl : NI) (nb fr : Int) : Option (St25 ⊕ Rt25) := bif (decide (al + nl ≤ ml ∧ nl ≤ 1000000)) then (bif ((S.evL nl (fun j => tl (j + al)) (fun j => vl (j + al)) (fun j => gl (j + al)) (fun j => wl (j + al)) fun j => xl (j + al)) != 0) then (some (.inr ((0 : Int), (0 : Int), (0 : Int), (0 : Int), (0 : Int), S.evL nl (fun j => tl (j + al)) (fun j => vl (j + al)) (fun j => gl (j + al)) (fun j => wl (j + al)) fun j => xl (j + al)))) else (some (.inl (.h0 ((0 : Int)))))) else (none)
noncomputable def Te25 (test : TT) (Kst : KS) (Kret : KR) (al nl ml : Nat) (tl vl gl wl xl : NI) (nb fr : Int) : Prop := test (decide (al + nl ≤ ml ∧ nl ≤ 1000000)) (test ((S.evL nl (fun j => tl (j + al)) (fun j => vl (j + al)) (fun j => gl (j + al)) (fun j => wl (j + al)) fun j => xl (j + al)) != 0) (Kret (PV.tup [PV.agg [PV.int .i64 (0 : Int), PV.int .i64 (0 : Int), PV.int .i64 (0 : Int), PV.int .i64 (0 : Int), PV.int .i64 (0 : Int)], PV.int .i64 (S.evL nl (fun j => tl (j + al)) (fun j => vl (j + al)) (fun j => gl (j + al)) (fun j => wl (j + al)) fun j => xl (j + al))]) ([[(0, false, Blk.cols ml [Col.int .i64 tl, Col.int .i64 vl, Col.int .i64 gl, Col.int .i64 wl, Col.int .i64 xl])]]) (3)) (Kst (hd Try.f25 0) ([PV.int .i64 nb, PV.int .i64 fr, PV.ptr (PA.mk (1) (0) (0) (0)), PV.loose (PA.mk (0) (5) al (0)) nl, PV.int .i64 (↑nl : Int), PV.int .i64 (0 : Int)]) ([[(0, false, Blk.cols ml [Col.int .i64 tl, Col.int .i64 vl, Col.int .i64 gl, Col.int .i64 wl, Col.int .i64 xl]), (1, true, Blk.cells [PV.int .i64 (0 : Int), PV.int .i64 (0 : Int), PV.int .i64 (0 : Int), PV.int .i64 (0 : Int), PV.int .i64 (0 : Int)])]]) (3))) (False)
theorem te25 (test : TT) (Kst : KS) (Kret : KR) (al nl ml : Nat) (tl vl gl wl xl : NI) (nb fr : Int) : run test Try.env true (xC2 test) true 400 ⟨25, [.cd (mkFn Try.f25).body], argT 0 [.loose ⟨0, 5, al, 0⟩ nl, .int .i64 nb, .int .i64 fr], [[], [(0, (false, .cols ml [.int .i64 tl, .int .i64 vl, .int .i64 gl, .int .i64 wl, .int .i64 xl]))]], 1⟩ (proj 1 [1, 2, 6, 17, 18, 19] Kst Kret) =
  Te25 test Kst Kret al nl ml tl vl gl wl xl nb fr := by kernel_rfl
noncomputable def T25_0 (test : TT) (Kst : KS) (Kret : KR) (al nl ml : Nat) (tl vl gl wl xl : NI) (nb fr x0 : Int) : Prop := test (decide (x0 < (↑nl : Int))) (test (decide ((0 : Int) ≤ x0 ∧ x0 < (↑nl : Int))) (test (decide (Int.toNat x0 + al < ml)) (test (decide (Int.toNat x0 + al < ml)) (test (decide (Int.toNat x0 + al < ml)) (test (decide (Int.toNat x0 + al < ml)) (test (decide (Int.toNat x0 + al < ml)) (test (vl (Int.toNat x0 + al) == nb) (test (decide (tl (Int.toNat x0 + al) ≥ fr)) (Kret (PV.tup [PV.agg [PV.int .i64 (tl (Int.toNat x0 + al)), PV.int .i64 (vl (Int.toNat x0 + al)), PV.int .i64 (gl (Int.toNat x0 + al)), PV.int .i64 (wl (Int.toNat x0 + al)), PV.int .i64 (xl (Int.toNat x0 + al))], PV.int .i64 (0 : Int)]) ([[(0, false, Blk.cols ml [Col.int .i64 tl, Col.int .i64 vl, Col.int .i64 gl, Col.int .i64 wl, Col.int .i64 xl])]]) (3)) (test (lim .i64 (x0 + 1)) (Kst (hd Try.f25 0) ([PV.int .i64 nb, PV.int .i64 fr, PV.ptr (PA.mk (1) (0) (0) (0)), PV.loose (PA.mk (0) (5) al (0)) nl, PV.int .i64 (↑nl : Int), PV.int .i64 (x0 + 1)]) ([[(0, false, Blk.cols ml [Col.int .i64 tl, Col.int .i64 vl, Col.int .i64 gl, Col.int .i64 wl, Col.int .i64 xl]), (1, true, Blk.cells [PV.int .i64 (0 : Int), PV.int .i64 (0 : Int), PV.int .i64 (0 : Int), PV.int .i64 (0 : Int), PV.int .i64 (0 : Int)])]]) (3)) (False))) (test (lim .i64 (x0 + 1)) (Kst (hd Try.f25 0) ([PV.int .i64 nb, PV.int .i64 fr, PV.ptr (PA.mk (1) (0) (0) (0)), PV.loose (PA.mk (0) (5) al (0)) nl, PV.int .i64 (↑nl : Int), PV.int .i64 (x0 + 1)]) ([[(0, false, Blk.cols ml [Col.int .i64 tl, Col.int .i64 vl, Col.int .i64 gl, Col.int .i64 wl, Col.int .i64 xl]), (1, true, Blk.cells [PV.int .i64 (0 : Int), PV.int .i64 (0 : Int), PV.int .i64 (0 : Int), PV.int .i64 (0 : Int), PV.int .i64 (0 : Int)])]]) (3)) (False))) (False)) (False)) (False)) (False)) (False)) (False)) (Kret (PV.tup [PV.agg [PV.int .i64 (0 : Int), PV.int .i64 (0 : Int), PV.int .i64 (0 : Int), PV.int .i64 (0 : Int), PV.int .i64 (0 : Int)], PV.int .i64 (10 : Int)]) ([[(0, false, Blk.cols ml [Col.int .i64 tl, Col.int .i64 vl, Col.int .i64 gl, Col.int .i64 wl, Col.int .i64 xl])]]) (2))
theorem t25_0 (test : TT) (Kst : KS) (Kret : KR) (al nl ml : Nat) (tl vl gl wl xl : NI) (nb fr x0 : Int) : run test Try.env true (xC2 test) true 400 ⟨25, hd Try.f25 0, zipT [1, 2, 6, 17, 18, 19] [PV.int .i64 nb, PV.int .i64 fr,
 PV.ptr (PA.mk (1) (0) (0) (0)),
 PV.loose (PA.mk (0) (5) al (0)) nl, PV.int .i64 (↑nl : Int),
 PV.int .i64 x0], [[(1, (true, Blk.cells
 [PV.int .i64 (0 : Int), PV.int .i64 (0 : Int), PV.int .i64 (0 : Int),
 PV.int .i64 (0 : Int), PV.int .i64 (0 : Int)]))], [(0, (false, .cols ml [.int .i64 tl, .int .i64 vl, .int .i64 gl, .int .i64 wl, .int .i64 xl]))]], 2⟩ (proj 1 [1, 2, 6, 17, 18, 19] Kst Kret) =
  T25_0 test Kst Kret al nl ml tl vl gl wl xl nb fr x0 := by kernel_rfl
noncomputable abbrev J25 (al nl ml : Nat) (tl : NI) (vl : NI) (gl : NI) (wl : NI) (xl : NI) (nb : Int) (fr : Int) : Rt25 → Heap := fun r => [newL (1 + 1) ((N25 al nl ml tl vl gl wl xl nb fr) r) ++ [(0, (false, .cols ml [.int .i64 tl, .int .i64 vl, .int .i64 gl, .int .i64 wl, .int .i64 xl]))]]
attribute [local irreducible] Int.subNatNat in
theorem be25 (al nl ml : Nat) (tl vl gl wl xl : NI) (nb fr : Int) (Kst : KS) (Kret : KR) (x : St25 ⊕ Rt25) (hS : HS 1 400 ((I25 al nl ml tl vl gl wl xl nb fr)) Kst x) (hR : HR 1 400 ((V25 al nl ml tl vl gl wl xl nb fr)) (J25 al nl ml tl vl gl wl xl nb fr) Kret x) (h : p25 al nl ml tl vl gl wl xl nb fr = some x) : Te25 cond Kst Kret al nl ml tl vl gl wl xl nb fr := by
  unfold Te25
  unfold p25 at h
  refine bif_split h (fun c0 h => bif_split h (fun c1 h => ret_at hR _ h (fun n => n) rfl rfl rfl (rn_tup ⟨(rn_agg ⟨(rn_int rfl), (rn_int rfl), (rn_int rfl), (rn_int rfl), (rn_int rfl), trivial⟩), (rn_int rfl), trivial⟩) rfl (entl_bor (use_lo rfl) rfl rfl entl_nil)) (fun c1 h => stop_at hS _ h (fun n => bif Nat.beq n 1 then 1 else n) rfl rfl rfl ⟨(rn_int rfl), ⟨(rn_int rfl), ⟨(rn_ptr (use_own rfl) rfl rfl), ⟨(rn_loose (use_lo rfl) rfl rfl rfl), ⟨(rn_int rfl), ⟨(rn_int rfl), trivial⟩⟩⟩⟩⟩⟩ rfl (entl_b (use_own rfl) rfl (by simp) (rb_cells ⟨(rn_int rfl), (rn_int rfl), (rn_int rfl), (rn_int rfl), (rn_int rfl), trivial⟩) (entl_bor (use_lo rfl) rfl rfl entl_nil)))) (fun c0 h => no_some h)
attribute [local irreducible] Int.subNatNat in
theorem b25_0 (al nl ml : Nat) (tl vl gl wl xl : NI) (nb fr : Int) (Kst : KS) (Kret : KR) (x : St25 ⊕ Rt25) (hS : HS 1 400 ((I25 al nl ml tl vl gl wl xl nb fr)) Kst x) (hR : HR 1 400 ((V25 al nl ml tl vl gl wl xl nb fr)) (J25 al nl ml tl vl gl wl xl nb fr) Kret x) (x0 : Int) (h : q25 al nl ml tl vl gl wl xl nb fr (.h0 x0) = some x) : T25_0 cond Kst Kret al nl ml tl vl gl wl xl nb fr x0 := by
  unfold T25_0
  rw [q25] at h
  refine bif_split h (fun c0 h => bif_split h (fun c1 h => bif_split h (fun c2 h => cond_yes c2 (cond_yes c2 (cond_yes c2 (cond_yes c2 (bif_split h (fun c3 h => bif_split h (fun c4 h => ?_) (fun c4 h => bif_split h (fun c5 h => ?_) (fun c5 h => ?_))) (fun c3 h => bif_split h (fun c4 h => ?_) (fun c4 h => ?_))))))) (fun c2 h => ?_)) (fun c1 h => ?_)) (fun c0 h => ?_)
  all_goals first
    | exact no_some h
    | exact ret_at hR _ h (fun n => n) rfl rfl rfl (rn_tup ⟨(rn_agg ⟨(rn_int rfl), (rn_int rfl), (rn_int rfl), (rn_int rfl), (rn_int rfl), trivial⟩), (rn_int rfl), trivial⟩) rfl (entl_bor (use_lo rfl) rfl rfl entl_nil)
    | exact stop_at hS _ h (fun n => bif Nat.beq n 1 then 1 else n) rfl rfl rfl ⟨(rn_int rfl), ⟨(rn_int rfl), ⟨(rn_ptr (use_own rfl) rfl rfl), ⟨(rn_loose (use_lo rfl) rfl rfl rfl), ⟨(rn_int rfl), ⟨(rn_int rfl), trivial⟩⟩⟩⟩⟩⟩ rfl (entl_b (use_own rfl) rfl (by simp) (rb_cells ⟨(rn_int rfl), (rn_int rfl), (rn_int rfl), (rn_int rfl), (rn_int rfl), trivial⟩) (entl_bor (use_lo rfl) rfl rfl entl_nil))
theorem a25 (al nl ml : Nat) (tl vl gl wl xl : NI) (nb fr : Int) {r : Rt25} (h : Goes ((q25 al nl ml tl vl gl wl xl nb fr)) ((p25 al nl ml tl vl gl wl xl nb fr)) r) : CallR Try.prog 25 [.loose ⟨0, 5, al, 0⟩ nl, .int .i64 nb, .int .i64 fr] [[(0, (false, .cols ml [.int .i64 tl, .int .i64 vl, .int .i64 gl, .int .i64 wl, .int .i64 xl]))]] 1 ((V25 al nl ml tl vl gl wl xl nb fr) r) ((J25 al nl ml tl vl gl wl xl nb fr) r) 400 ∧ ∃ F, Try.prog.funcs[25]? = some F ∧ F.body.isSome = true ∧ (F.name == "runtime.NumGoroutine") = false := by
  refine dec_calls (f := 25) (lo := 1) (hi := 400) Try.envOk Try.mixed xC2_ok ((I25 al nl ml tl vl gl wl xl nb fr)) ((V25 al nl ml tl vl gl wl xl nb fr)) (J25 al nl ml tl vl gl wl xl nb fr) (fn := mkFn Try.f25) (ts := [1, 2, 6, 17, 18, 19]) (n := 400) rfl (by decide) (by simp) (names_of rfl) ?_ ?_ ?_ h
  · intro s; cases s <;> exact ⟨hd_ok _ _, by simp [I25], names_of rfl, Nat.le_of_ble_eq_true rfl⟩
  · intro Kst Kret x hS hR h
    exact Holds.eq (te25 cond Kst Kret al nl ml tl vl gl wl xl nb fr) (be25 al nl ml tl vl gl wl xl nb fr Kst Kret x hS hR h)
  · intro Kst Kret x hS hR s h
    cases s with
    | h0 x0 => exact Holds.eq (t25_0 cond Kst Kret al nl ml tl vl gl wl xl nb fr x0) (b25_0 al nl ml tl vl gl wl xl nb fr Kst Kret x hS hR x0 h)
noncomputable abbrev w25 {α : Type} (g : Nat → Nat → Nat → (Nat → Int) → (Nat → Int) → (Nat → Int) → (Nat → Int) → (Nat → Int) → Int → Int → α) (x : (Nat × Nat × Nat × (Nat → Int) × (Nat → Int) × (Nat → Int) × (Nat → Int) × (Nat → Int) × Unit) × Int × Int × Unit) : α := g x.1.1 x.1.2.1 x.1.2.2.1 x.1.2.2.2.1 x.1.2.2.2.2.1 x.1.2.2.2.2.2.1 x.1.2.2.2.2.2.2.1 x.1.2.2.2.2.2.2.2.1 x.2.1 x.2.2.1
noncomputable def k25  : Con := ⟨25, [.one (.list [.int .i64, .int .i64, .int .i64, .int .i64, .int .i64]), .one (.plain (.int .i64)), .one (.plain (.int .i64))], w25 (fun al nl ml tl vl gl wl xl nb fr => decide (al + nl ≤ ml ∧ nl ≤ 1000000)), w25 (fun al nl ml tl vl gl wl xl nb fr => (V25 al nl ml tl vl gl wl xl nb fr) ((S.nxtS nl (fun j => tl (j + al)) (fun j => vl (j + al)) (fun j => gl (j + al)) (fun j => wl (j + al)) (fun j => xl (j + al)) nb fr).1, (S.nxtS nl (fun j => tl (j + al)) (fun j => vl (j + al)) (fun j => gl (j + al)) (fun j => wl (j + al)) (fun j => xl (j + al)) nb fr).2.1, (S.nxtS nl (fun j => tl (j + al)) (fun j => vl (j + al)) (fun j => gl (j + al)) (fun j => wl (j + al)) (fun j => xl (j + al)) nb fr).2.2.1, (S.nxtS nl (fun j => tl (j + al)) (fun j => vl (j + al)) (fun j => gl (j + al)) (fun j => wl (j + al)) (fun j => xl (j + al)) nb fr).2.2.2.1, (S.nxtS nl (fun j => tl (j + al)) (fun j => vl (j + al)) (fun j => gl (j + al)) (fun j => wl (j + al)) (fun j => xl (j + al)) nb fr).2.2.2.2.1, (S.nxtS nl (fun j => tl (j + al)) (fun j => vl (j + al)) (fun j => gl (j + al)) (fun j => wl (j + al)) (fun j => xl (j + al)) nb fr).2.2.2.2.2)), w25 (fun al nl ml tl vl gl wl xl nb fr => (N25 al nl ml tl vl gl wl xl nb fr) ((S.nxtS nl (fun j => tl (j + al)) (fun j => vl (j + al)) (fun j => gl (j + al)) (fun j => wl (j + al)) (fun j => xl (j + al)) nb fr).1, (S.nxtS nl (fun j => tl (j + al)) (fun j => vl (j + al)) (fun j => gl (j + al)) (fun j => wl (j + al)) (fun j => xl (j + al)) nb fr).2.1, (S.nxtS nl (fun j => tl (j + al)) (fun j => vl (j + al)) (fun j => gl (j + al)) (fun j => wl (j + al)) (fun j => xl (j + al)) nb fr).2.2.1, (S.nxtS nl (fun j => tl (j + al)) (fun j => vl (j + al)) (fun j => gl (j + al)) (fun j => wl (j + al)) (fun j => xl (j + al)) nb fr).2.2.2.1, (S.nxtS nl (fun j => tl (j + al)) (fun j => vl (j + al)) (fun j => gl (j + al)) (fun j => wl (j + al)) (fun j => xl (j + al)) nb fr).2.2.2.2.1, (S.nxtS nl (fun j => tl (j + al)) (fun j => vl (j + al)) (fun j => gl (j + al)) (fun j => wl (j + al)) (fun j => xl (j + al)) nb fr).2.2.2.2.2)), fun _ _ => .dead⟩
theorem s25' (al nl ml : Nat) (tl vl gl wl xl : Nat → Int) (nb fr : Int) (hp : al + nl ≤ ml ∧ nl ≤ 1000000) : ∀ (k i : Nat), i + k = nl → Comes (q25 al nl ml tl vl gl wl xl nb fr) (.h0 (i : Int)) (S.nxN (fun j => tl (j + al)) (fun j => vl (j + al)) (fun j => gl (j + al)) (fun j => wl (j + al)) (fun j => xl (j + al)) nb fr i k) := by
  obtain ⟨hp1, hp2⟩ := hp
  intro k
  induction k with
  | zero =>
    intro i hi
    apply Comes.of
    show Goes _ _ _
    (first | rw [q25] | unfold q25)
    repeat' (first | with_reducible refine goes_if (fun h => ?_) (fun h => ?_) <;> (try simp only [SH] at h) | exact goes_none.mpr (by omega))
    all_goals first | (exfalso; omega) | exact goes_inr.mpr rfl
  | succ k ih =>
    intro i hi
    have ih := ih (i + 1) (by omega)
    have e : (S.nxN (fun j => tl (j + al)) (fun j => vl (j + al)) (fun j => gl (j + al)) (fun j => wl (j + al)) (fun j => xl (j + al)) nb fr i (k + 1)) = if vl (i + al) = nb ∧ tl (i + al) ≥ fr then (tl (i + al), vl (i + al), gl (i + al), wl (i + al), xl (i + al), 0) else (S.nxN (fun j => tl (j + al)) (fun j => vl (j + al)) (fun j => gl (j + al)) (fun j => wl (j + al)) (fun j => xl (j + al)) nb fr (i + 1) k) := rfl
    rw [e]
    generalize (S.nxN (fun j => tl (j + al)) (fun j => vl (j + al)) (fun j => gl (j + al)) (fun j => wl (j + al)) (fun j => xl (j + al)) nb fr (i + 1) k) = R at *
    apply Comes.of
    show Goes _ _ _
    (first | rw [q25] | unfold q25)
    repeat' (first | with_reducible refine goes_if (fun h => ?_) (fun h => ?_) <;> (try simp only [SH] at h) | exact goes_none.mpr (by omega))
    all_goals first | (exfalso; omega) | (rw [if_pos (by omega)]; exact goes_inr.mpr rfl) | (rw [if_neg (by omega)]; exact ih)
theorem s25 (al nl ml : Nat) (tl vl gl wl xl : Nat → Int) (nb fr : Int) (hp : al + nl ≤ ml ∧ nl ≤ 1000000) : Goes ((q25 al nl ml tl vl gl wl xl nb fr)) ((p25 al nl ml tl vl gl wl xl nb fr)) (((S.nxtS nl (fun j => tl (j + al)) (fun j => vl (j + al)) (fun j => gl (j + al)) (fun j => wl (j + al)) (fun j => xl (j + al)) nb fr).1, (S.nxtS nl (fun j => tl (j + al)) (fun j => vl (j + al)) (fun j => gl (j + al)) (fun j => wl (j + al)) (fun j => xl (j + al)) nb fr).2.1, (S.nxtS nl (fun j => tl (j + al)) (fun j => vl (j + al)) (fun j => gl (j + al)) (fun j => wl (j + al)) (fun j => xl (j + al)) nb fr).2.2.1, (S.nxtS nl (fun j => tl (j + al)) (fun j => vl (j + al)) (fun j => gl (j + al)) (fun j => wl (j + al)) (fun j => xl (j + al)) nb fr).2.2.2.1, (S.nxtS nl (fun j => tl (j + al)) (fun j => vl (j + al)) (fun j => gl (j + al)) (fun j => wl (j + al)) (fun j => xl (j + al)) nb fr).2.2.2.2.1, (S.nxtS nl (fun j => tl (j + al)) (fun j => vl (j + al)) (fun j => gl (j + al)) (fun j => wl (j + al)) (fun j => xl (j + al)) nb fr).2.2.2.2.2)) := by
  have hm := s25' al nl ml tl vl gl wl xl nb fr hp nl 0 (by omega)
  have c1 : al + nl ≤ ml ∧ nl ≤ 1000000 := hp
  show Goes _ _ (S.nxtS nl (fun j => tl (j + al)) (fun j => vl (j + al)) (fun j => gl (j + al)) (fun j => wl (j + al)) (fun j => xl (j + al)) nb fr)
  unfold S.nxtS
  generalize (S.nxN (fun j => tl (j + al)) (fun j => vl (j + al)) (fun j => gl (j + al)) (fun j => wl (j + al)) (fun j => xl (j + al)) nb fr 0 nl) = R at *
  unfold p25
  generalize (S.evL nl (fun j => tl (j + al)) (fun j => vl (j + al)) (fun j => gl (j + al)) (fun j => wl (j + al)) (fun j => xl (j + al))) = E at *
  simp only [decide_eq_true c1, cond_true]
  by_cases h0 : E = 0
  · subst h0
    rw [if_pos rfl]
    exact goes_no rfl hm
  · rw [if_neg h0]
    exact goes_ok (by simpa using h0) (goes_inr.mpr rfl)
theorem k25_ok  : k25.ok Try.prog := by
  intro x hx
  obtain ⟨⟨al, nl, ml, tl, vl, gl, wl, xl, _⟩, nb, fr, _⟩ := x
  obtain ⟨h1, h2⟩ := a25 al nl ml tl vl gl wl xl nb fr (s25 al nl ml tl vl gl wl xl nb fr (of_dec hx rfl))
  exact ⟨⟨400, (by decide : 1 + 1 + 0 ≤ 400), h1⟩, h2⟩
inductive St26 where
  | h0 (x0 : Int)
abbrev Rt26  := Int × Int × Int × Int × Int × Int
noncomputable def V26 (al nl ml : Nat) (tl vl gl wl xl : NI) (nb fr : Int) (r : Rt26) : PV := PV.tup [PV.agg [PV.int .i64 r.1, PV.int .i64 r.2.1, PV.int .i64 r.2.2.1, PV.int .i64 r.2.2.2.1, PV.int .i64 r.2.2.2.2.1], PV.int .i64 r.2.2.2.2.2]
noncomputable def N26 (al nl ml : Nat) (tl vl gl wl xl : NI) (nb fr : Int) (r : Rt26) : List Blk := []
noncomputable def I26 (al nl ml : Nat) (tl vl gl wl xl : NI) (nb fr : Int) : St26 → Hd
  | .h0 x0 => ⟨hd Try.f26 0, [PV.loose (PA.mk (0) (5) al (0)) nl, PV.int .i64 nb,
 PV.int .i64 fr, PV.ptr (PA.mk (1) (0) (0) (0)),
 PV.int .i64 x0], [[(1, (true, Blk.cells
 [PV.int .i64 (0 : Int), PV.int .i64 (0 : Int), PV.int .i64 (0 : Int),
 PV.int .i64 (0 : Int), PV.int .i64 (0 : Int)]))], [(0, (false, .cols ml [.int .i64 tl, .int .i64 vl, .int .i64 gl, .int .i64 wl, .int .i64 xl]))]], 2⟩
noncomputable def q26 (al nl ml : Nat) (tl vl gl wl xl : NI) (nb fr : Int) : St26 → Option (St26 ⊕ Rt26) | .h0 x0 => bif (decide (x0 < (↑nl : Int))) then (bif (decide ((0 : Int) ≤ x0 ∧ x0 < (↑nl : Int))) then (bif (decide (Int.toNat x0 + al < ml)) then (bif (vl (Int.toNat x0 + al) == nb) then (bif (decide (tl (Int.toNat x0 + al) ≥ fr)) then (some (.inr (tl (Int.toNat x0 + al), vl (Int.toNat x0 + al), gl (Int.toNat x0 + al), wl (Int.toNat x0 + al), xl (Int.toNat x0 + al), (0 : Int)))) else (bif (lim .i64 (x0 + 1)) then (some (.inl (.h0 (x0 + 1)))) else (none))) else (bif (lim .i64 (x0 + 1)) then (some (.inl (.h0 (x0 + 1)))) else (none))) else (none)) else (none)) else (some (.inr ((0 : Int), (0 : Int), (0 : Int), (0 : Int), (0 : Int), (10 : Int))))
noncomputable def p26 (al nl ml : Nat) (tl vl gl wl xl : NI) (nb fr : Int) : Option (St26 ⊕ Rt26) := bif (decide (al + nl ≤ ml ∧ nl ≤ 1000000)) then (bif ((S.evL nl (fun j => tl (j + al)) (fun j => vl (j + al)) (fun j => gl (j + al)) (fun j => wl (j + al)) fun j => xl (j + al)) != 0) then (some (.inr ((0 : Int), (0 : Int), (0 : Int), (0 : Int), (0 : Int), S.evL nl (fun j => tl (j + al)) (fun j => vl (j + al)) (fun j => gl (j + al)) (fun j => wl (j + al)) fun j => xl (j + al)))) else (some (.inl (.h0 ((0 : Int)))))) else (none)
noncomputable def Te26 (test : TT) (Kst : KS) (Kret : KR) (al nl ml : Nat) (tl vl gl wl xl : NI) (nb fr : Int) : Prop := test (decide (al + nl ≤ ml ∧ nl ≤ 1000000)) (test ((S.evL nl (fun j => tl (j + al)) (fun j => vl (j + al)) (fun j => gl (j + al)) (fun j => wl (j + al)) fun j => xl (j + al)) != 0) (Kret (PV.tup [PV.agg [PV.int .i64 (0 : Int), PV.int .i64 (0 : Int), PV.int .i64 (0 : Int), PV.int .i64 (0 : Int), PV.int .i64 (0 : Int)], PV.int .i64 (S.evL nl (fun j => tl (j + al)) (fun j => vl (j + al)) (fun j => gl (j + al)) (fun j => wl (j + al)) fun j => xl (j + al))]) ([[(0, false, Blk.cols ml [Col.int .i64 tl, Col.int .i64 vl, Col.int .i64 gl, Col.int .i64 wl, Col.int .i64 xl])]]) (3)) (Kst (hd Try.f26 0) ([PV.loose (PA.mk (0) (5) al (0)) nl, PV.int .i64 nb, PV.int .i64 fr, PV.ptr (PA.mk (1) (0) (0) (0)), PV.int .i64 (0 : Int)]) ([[(0, false, Blk.cols ml [Col.int .i64 tl, Col.int .i64 vl, Col.int .i64 gl, Col.int .i64 wl, Col.int .i64 xl]), (1, true, Blk.cells [PV.int .i64 (0 : Int), PV.int .i64 (0 : Int), PV.int .i64 (0 : Int), PV.int .i64 (0 : Int), PV.int .i64 (0 : Int)])]]) (3))) (False)
theorem te26 (test : TT) (Kst : KS) (Kret : KR) (al nl ml : Nat) (tl vl gl wl xl : NI) (nb fr : Int) : run test Try.env true (xC2 test) true 400 ⟨26, [.cd (mkFn Try.f26).body], argT 0 [.loose ⟨0, 5, al, 0⟩ nl, .int .i64 nb, .int .i64 fr], [[], [(0, (false, .cols ml [.int .i64 tl, .int .i64 vl, .int .i64 gl, .int .i64 wl, .int .i64 xl]))]], 1⟩ (proj 1 [0, 1, 2, 6, 9] Kst Kret) =
  Te26 test Kst Kret al nl ml tl vl gl wl xl nb fr := by kernel_rfl
noncomputable def T26_0 (test : TT) (Kst : KS) (Kret : KR) (al nl ml : Nat) (tl vl gl wl xl : NI) (nb fr x0 : Int) : Prop := test (decide (x0 < (↑nl : Int))) (test (decide ((0 : Int) ≤ x0 ∧ x0 < (↑nl : Int))) (test (decide (Int.toNat x0 + al < ml)) (test (vl (Int.toNat x0 + al) == nb) (test (decide ((0 : Int) ≤ x0 ∧ x0 < (↑nl : Int))) (test (decide (Int.toNat x0 + al < ml)) (test (decide (tl (Int.toNat x0 + al) ≥ fr)) (test (decide ((0 : Int) ≤ x0 ∧ x0 < (↑nl : Int))) (test (decide (Int.toNat x0 + al < ml)) (test (decide (Int.toNat x0 + al < ml)) (test (decide (Int.toNat x0 + al < ml)) (test (decide (Int.toNat x0 + al < ml)) (test (decide (Int.toNat x0 + al < ml)) (Kret (PV.tup [PV.agg [PV.int .i64 (tl (Int.toNat x0 + al)), PV.int .i64 (vl (Int.toNat x0 + al)), PV.int .i64 (gl (Int.toNat x0 + al)), PV.int .i64 (wl (Int.toNat x0 + al)), PV.int .i64 (xl (Int.toNat x0 + al))], PV.int .i64 (0 : Int)]) ([[(0, false, Blk.cols ml [Col.int .i64 tl, Col.int .i64 vl, Col.int .i64 gl, Col.int .i64 wl, Col.int .i64 xl])]]) (2)) (False)) (False)) (False)) (False)) (False)) (False)) (test (lim .i64 (x0 + 1)) (Kst (hd Try.f26 0) ([PV.loose (PA.mk (0) (5) al (0)) nl, PV.int .i64 nb, PV.int .i64 fr, PV.ptr (PA.mk (1) (0) (0) (0)), PV.int .i64 (x0 + 1)]) ([[(0, false, Blk.cols ml [Col.int .i64 tl, Col.int .i64 vl, Col.int .i64 gl, Col.int .i64 wl, Col.int .i64 xl]), (1, true, Blk.cells [PV.int .i64 (0 : Int), PV.int .i64 (0 : Int), PV.int .i64 (0 : Int), PV.int .i64 (0 : Int), PV.int .i64 (0 : Int)])]]) (2)) (False))) (False)) (False)) (test (lim .i64 (x0 + 1)) (Kst (hd Try.f26 0) ([PV.loose (PA.mk (0) (5) al (0)) nl, PV.int .i64 nb, PV.int .i64 fr, PV.ptr (PA.mk (1) (0) (0) (0)), PV.int .i64 (x0 + 1)]) ([[(0, false, Blk.cols ml [Col.int .i64 tl, Col.int .i64 vl, Col.int .i64 gl, Col.int .i64 wl, Col.int .i64 xl]), (1, true, Blk.cells [PV.int .i64 (0 : Int), PV.int .i64 (0 : Int), PV.int .i64 (0 : Int), PV.int .i64 (0 : Int), PV.int .i64 (0 : Int)])]]) (2)) (False))) (False)) (False)) (Kret (PV.tup [PV.agg [PV.int .i64 (0 : Int), PV.int .i64 (0 : Int), PV.int .i64 (0 : Int), PV.int .i64 (0 : Int), PV.int .i64 (0 : Int)], PV.int .i64 (10 : Int)]) ([[(0, false, Blk.cols ml [Col.int .i64 tl, Col.int .i64 vl, Col.int .i64 gl, Col.int .i64 wl, Col.int .i64 xl])]]) (2))
theorem t26_0 (test : TT) (Kst : KS) (Kret : KR) (al nl ml : Nat) (tl vl gl wl xl : NI) (nb fr x0 : Int) : run test Try.env true (xC2 test) true 400 ⟨26, hd Try.f26 0, zipT [0, 1, 2, 6, 9] [PV.loose (PA.mk (0) (5) al (0)) nl, PV.int .i64 nb,
 PV.int .i64 fr, PV.ptr (PA.mk (1) (0) (0) (0)),
 PV.int .i64 x0], [[(1, (true, Blk.cells
 [PV.int .i64 (0 : Int), PV.int .i64 (0 : Int), PV.int .i64 (0 : Int),
 PV.int .i64 (0 : Int), PV.int .i64 (0 : Int)]))], [(0, (false, .cols ml [.int .i64 tl, .int .i64 vl, .int .i64 gl, .int .i64 wl, .int .i64 xl]))]], 2⟩ (proj 1 [0, 1, 2, 6, 9] Kst Kret) =
  T26_0 test Kst Kret al nl ml tl vl gl wl xl nb fr x0 := by kernel_rfl
noncomputable abbrev J26 (al nl ml : Nat) (tl : NI) (vl : NI) (gl : NI) (wl : NI) (xl : NI) (nb : Int) (fr : Int) : Rt26 → Heap := fun r => [newL (1 + 1) ((N26 al nl ml tl vl gl wl xl nb fr) r) ++ [(0, (false, .cols ml [.int .i64 tl, .int .i64 vl, .int .i64 gl, .int .i64 wl, .int .i64 xl]))]]
attribute [local irreducible] Int.subNatNat in
theorem be26 (al nl ml : Nat) (tl vl gl wl xl : NI) (nb fr : Int) (Kst : KS) (Kret : KR) (x : St26 ⊕ Rt26) (hS : HS 1 400 ((I26 al nl ml tl vl gl wl xl nb fr)) Kst x) (hR : HR 1 400 ((V26 al nl ml tl vl gl wl xl nb fr)) (J26 al nl ml tl vl gl wl xl nb fr) Kret x) (h : p26 al nl ml tl vl gl wl xl nb fr = some x) : Te26 cond Kst Kret al nl ml tl vl gl wl xl nb fr := by
  unfold Te26
  unfold p26 at h
  refine bif_split h (fun c0 h => bif_split h (fun c1 h => ret_at hR _ h (fun n => n) rfl rfl rfl (rn_tup ⟨(rn_agg ⟨(rn_int rfl), (rn_int rfl), (rn_int rfl), (rn_int rfl), (rn_int rfl), trivial⟩), (rn_int rfl), trivial⟩) rfl (entl_bor (use_lo rfl) rfl rfl entl_nil)) (fun c1 h => stop_at hS _ h (fun n => bif Nat.beq n 1 then 1 else n) rfl rfl rfl ⟨(rn_loose (use_lo rfl) rfl rfl rfl), ⟨(rn_int rfl), ⟨(rn_int rfl), ⟨(rn_ptr (use_own rfl) rfl rfl), ⟨(rn_int rfl), trivial⟩⟩⟩⟩⟩ rfl (entl_b (use_own rfl) rfl (by simp) (rb_cells ⟨(rn_int rfl), (rn_int rfl), (rn_int rfl), (rn_int rfl), (rn_int rfl), trivial⟩) (entl_bor (use_lo rfl) rfl rfl entl_nil)))) (fun c0 h => no_some h)
attribute [local irreducible] Int.subNatNat in
theorem b26_0 (al nl ml : Nat) (tl vl gl wl xl : NI) (nb fr : Int) (Kst : KS) (Kret : KR) (x : St26 ⊕ Rt26) (hS : HS 1 400 ((I26 al nl ml tl vl gl wl xl nb fr)) Kst x) (hR : HR 1 400 ((V26 al nl ml tl vl gl wl xl nb fr)) (J26 al nl ml tl vl gl wl xl nb fr) Kret x) (x0 : Int) (h : q26 al nl ml tl vl gl wl xl nb fr (.h0 x0) = some x) : T26_0 cond Kst Kret al nl ml tl vl gl wl xl nb fr x0 := by
  unfold T26_0
  rw [q26] at h
  refine bif_split h (fun c0 h => bif_split h (fun c1 h => bif_split h (fun c2 h => bif_split h (fun c3 h => cond_yes c1 (cond_yes c2 (bif_split h (fun c4 h => cond_yes c1 (cond_yes c2 (cond_yes c2 (cond_yes c2 (cond_yes c2 (cond_yes c2 (ret_at hR _ h (fun n => n) rfl rfl rfl (rn_tup ⟨(rn_agg ⟨(rn_int rfl), (rn_int rfl), (rn_int rfl), (rn_int rfl), (rn_int rfl), trivial⟩), (rn_int rfl), trivial⟩) rfl (entl_bor (use_lo rfl) rfl rfl entl_nil)))))))) (fun c4 h => bif_split h (fun c5 h => ?_) (fun c5 h => ?_))))) (fun c3 h => bif_split h (fun c4 h => ?_) (fun c4 h => ?_))) (fun c2 h => ?_)) (fun c1 h => ?_)) (fun c0 h => ret_at hR _ h (fun n => n) rfl rfl rfl (rn_tup ⟨(rn_agg ⟨(rn_int rfl), (rn_int rfl), (rn_int rfl), (rn_int rfl), (rn_int rfl), trivial⟩), (rn_int rfl), trivial⟩) rfl (entl_bor (use_lo rfl) rfl rfl entl_nil))
  all_goals first
    | exact no_some h
    | exact stop_at hS _ h (fun n => bif Nat.beq n 1 then 1 else n) rfl rfl rfl ⟨(rn_loose (use_lo rfl) rfl rfl rfl), ⟨(rn_int rfl), ⟨(rn_int rfl), ⟨(rn_ptr (use_own rfl) rfl rfl), ⟨(rn_int rfl), trivial⟩⟩⟩⟩⟩ rfl (entl_b (use_own rfl) rfl (by simp) (rb_cells ⟨(rn_int rfl), (rn_int rfl), (rn_int rfl), (rn_int rfl), (rn_int rfl), trivial⟩) (entl_bor (use_lo rfl) rfl rfl entl_nil))
theorem a26 (al nl ml : Nat) (tl vl gl wl xl : NI) (nb fr : Int) {r : Rt26} (h : Goes ((q26 al nl ml tl vl gl wl xl nb fr)) ((p26 al nl ml tl vl gl wl xl nb fr)) r) : CallR Try.prog 26 [.loose ⟨0, 5, al, 0⟩ nl, .int .i64 nb, .int .i64 fr] [[(0, (false, .cols ml [.int .i64 tl, .int .i64 vl, .int .i64 gl, .int .i64 wl, .int .i64 xl]))]] 1 ((V26 al nl ml tl vl gl wl xl nb fr) r) ((J26 al nl ml tl vl gl wl xl nb fr) r) 400 ∧ ∃ F, Try.prog.funcs[26]? = some F ∧ F.body.isSome = true ∧ (F.name == "runtime.NumGoroutine") = false := by
  refine dec_calls (f := 26) (lo := 1) (hi := 400) Try.envOk Try.mixed xC2_ok ((I26 al nl ml tl vl gl wl xl nb fr)) ((V26 al nl ml tl vl gl wl xl nb fr)) (J26 al nl ml tl vl gl wl xl nb fr) (fn := mkFn Try.f26) (ts := [0, 1, 2, 6, 9]) (n := 400) rfl (by decide) (by simp) (names_of rfl) ?_ ?_ ?_ h
  · intro s; cases s <;> exact ⟨hd_ok _ _, by simp [I26], names_of rfl, Nat.le_of_ble_eq_true rfl⟩
  · intro Kst Kret x hS hR h
    exact Holds.eq (te26 cond Kst Kret al nl ml tl vl gl wl xl nb fr) (be26 al nl ml tl vl gl wl xl nb fr Kst Kret x hS hR h)
  · intro Kst Kret x hS hR s h
    cases s with
    | h0 x0 => exact Holds.eq (t26_0 cond Kst Kret al nl ml tl vl gl wl xl nb fr x0) (b26_0 al nl ml tl vl gl wl xl nb fr Kst Kret x hS hR x0 h)
noncomputable abbrev w26 {α : Type} (g : Nat → Nat → Nat → (Nat → Int) → (Nat → Int) → (Nat → Int) → (Nat → Int) → (Nat → Int) → Int → Int → α) (x : (Nat × Nat × Nat × (Nat → Int) × (Nat → Int) × (Nat → Int) × (Nat → Int) × (Nat → Int) × Unit) × Int × Int × Unit) : α := g x.1.1 x.1.2.1 x.1.2.2.1 x.1.2.2.2.1 x.1.2.2.2.2.1 x.1.2.2.2.2.2.1 x.1.2.2.2.2.2.2.1 x.1.2.2.2.2.2.2.2.1 x.2.1 x.2.2.1
noncomputable def k26  : Con := ⟨26, [.one (.list [.int .i64, .int .i64, .int .i64, .int .i64, .int .i64]), .one (.plain (.int .i64)), .one (.plain (.int .i64))], w26 (fun al nl ml tl vl gl wl xl nb fr => decide (al + nl ≤ ml ∧ nl ≤ 1000000)), w26 (fun al nl ml tl vl gl wl xl nb fr => (V26 al nl ml tl vl gl wl xl nb fr) ((S.nxtS nl (fun j => tl (j + al)) (fun j => vl (j + al)) (fun j => gl (j + al)) (fun j => wl (j + al)) (fun j => xl (j + al)) nb fr).1, (S.nxtS nl (fun j => tl (j + al)) (fun j => vl (j + al)) (fun j => gl (j + al)) (fun j => wl (j + al)) (fun j => xl (j + al)) nb fr).2.1, (S.nxtS nl (fun j => tl (j + al)) (fun j => vl (j + al)) (fun j => gl (j + al)) (fun j => wl (j + al)) (fun j => xl (j + al)) nb fr).2.2.1, (S.nxtS nl (fun j => tl (j + al)) (fun j => vl (j + al)) (fun j => gl (j + al)) (fun j => wl (j + al)) (fun j => xl (j + al)) nb fr).2.2.2.1, (S.nxtS nl (fun j => tl (j + al)) (fun j => vl (j + al)) (fun j => gl (j + al)) (fun j => wl (j + al)) (fun j => xl (j + al)) nb fr).2.2.2.2.1, (S.nxtS nl (fun j => tl (j + al)) (fun j => vl (j + al)) (fun j => gl (j + al)) (fun j => wl (j + al)) (fun j => xl (j + al)) nb fr).2.2.2.2.2)), w26 (fun al nl ml tl vl gl wl xl nb fr => (N26 al nl ml tl vl gl wl xl nb fr) ((S.nxtS nl (fun j => tl (j + al)) (fun j => vl (j + al)) (fun j => gl (j + al)) (fun j => wl (j + al)) (fun j => xl (j + al)) nb fr).1, (S.nxtS nl (fun j => tl (j + al)) (fun j => vl (j + al)) (fun j => gl (j + al)) (fun j => wl (j + al)) (fun j => xl (j + al)) nb fr).2.1, (S.nxtS nl (fun j => tl (j + al)) (fun j => vl (j + al)) (fun j => gl (j + al)) (fun j => wl (j + al)) (fun j => xl (j + al)) nb fr).2.2.1, (S.nxtS nl (fun j => tl (j + al)) (fun j => vl (j + al)) (fun j => gl (j + al)) (fun j => wl (j + al)) (fun j => xl (j + al)) nb fr).2.2.2.1, (S.nxtS nl (fun j => tl (j + al)) (fun j => vl (j + al)) (fun j => gl (j + al)) (fun j => wl (j + al)) (fun j => xl (j + al)) nb fr).2.2.2.2.1, (S.nxtS nl (fun j => tl (j + al)) (fun j => vl (j + al)) (fun j => gl (j + al)) (fun j => wl (j + al)) (fun j => xl (j + al)) nb fr).2.2.2.2.2)), fun _ _ => .dead⟩
theorem s26' (al nl ml : Nat) (tl vl gl wl xl : Nat → Int) (nb fr : Int) (hp : al + nl ≤ ml ∧ nl ≤ 1000000) : ∀ (k i : Nat), i + k = nl → Comes (q26 al nl ml tl vl gl wl xl nb fr) (.h0 (i : Int)) (S.nxN (fun j => tl (j + al)) (fun j => vl (j + al)) (fun j => gl (j + al)) (fun j => wl (j + al)) (fun j => xl (j + al)) nb fr i k) := by
  obtain ⟨hp1, hp2⟩ := hp
  intro k
  induction k with
  | zero =>
    intro i hi
    apply Comes.of
    show Goes _ _ _
    (first | rw [q26] | unfold q26)
    repeat' (first | with_reducible refine goes_if (fun h => ?_) (fun h => ?_) <;> (try simp only [SH] at h) | exact goes_none.mpr (by omega))
    all_goals first | (exfalso; omega) | exact goes_inr.mpr rfl
  | succ k ih =>
    intro i hi
    have ih := ih (i + 1) (by omega)
    have e : (S.nxN (fun j => tl (j + al)) (fun j => vl (j + al)) (fun j => gl (j + al)) (fun j => wl (j + al)) (fun j => xl (j + al)) nb fr i (k + 1)) = if vl (i + al) = nb ∧ tl (i + al) ≥ fr then (tl (i + al), vl (i + al), gl (i + al), wl (i + al), xl (i + al), 0) else (S.nxN (fun j => tl (j + al)) (fun j => vl (j + al)) (fun j => gl (j + al)) (fun j => wl (j + al)) (fun j => xl (j + al)) nb fr (i + 1) k) := rfl
    rw [e]
    generalize (S.nxN (fun j => tl (j + al)) (fun j => vl (j + al)) (fun j => gl (j + al)) (fun j => wl (j + al)) (fun j => xl (j + al)) nb fr (i + 1) k) = R at *
    apply Comes.of
    show Goes _ _ _
    (first | rw [q26] | unfold q26)
    repeat' (first | with_reducible refine goes_if (fun h => ?_) (fun h => ?_) <;> (try simp only [SH] at h) | exact goes_none.mpr (by omega))
    all_goals first | (exfalso; omega) | (rw [if_pos (by omega)]; exact goes_inr.mpr rfl) | (rw [if_neg (by omega)]; exact ih)
theorem s26 (al nl ml : Nat) (tl vl gl wl xl : Nat → Int) (nb fr : Int) (hp : al + nl ≤ ml ∧ nl ≤ 1000000) : Goes ((q26 al nl ml tl vl gl wl xl nb fr)) ((p26 al nl ml tl vl gl wl xl nb fr)) (((S.nxtS nl (fun j => tl (j + al)) (fun j => vl (j + al)) (fun j => gl (j + al)) (fun j => wl (j + al)) (fun j => xl (j + al)) nb fr).1, (S.nxtS nl (fun j => tl (j + al)) (fun j => vl (j + al)) (fun j => gl (j + al)) (fun j => wl (j + al)) (fun j => xl (j + al)) nb fr).2.1, (S.nxtS nl (fun j => tl (j + al)) (fun j => vl (j + al)) (fun j => gl (j + al)) (fun j => wl (j + al)) (fun j => xl (j + al)) nb fr).2.2.1, (S.nxtS nl (fun j => tl (j + al)) (fun j => vl (j + al)) (fun j => gl (j + al)) (fun j => wl (j + al)) (fun j => xl (j + al)) nb fr).2.2.2.1, (S.nxtS nl (fun j => tl (j + al)) (fun j => vl (j + al)) (fun j => gl (j + al)) (fun j => wl (j + al)) (fun j => xl (j + al)) nb fr).2.2.2.2.1, (S.nxtS nl (fun j => tl (j + al)) (fun j => vl (j + al)) (fun j => gl (j + al)) (fun j => wl (j + al)) (fun j => xl (j + al)) nb fr).2.2.2.2.2)) := by
  have hm := s26' al nl ml tl vl gl wl xl nb fr hp nl 0 (by omega)
  have c1 : al + nl ≤ ml ∧ nl ≤ 1000000 := hp
  show Goes _ _ (S.nxtS nl (fun j => tl (j + al)) (fun j => vl (j + al)) (fun j => gl (j + al)) (fun j => wl (j + al)) (fun j => xl (j + al)) nb fr)
  unfold S.nxtS
  generalize (S.nxN (fun j => tl (j + al)) (fun j => vl (j + al)) (fun j => gl (j + al)) (fun j => wl (j + al)) (fun j => xl (j + al)) nb fr 0 nl) = R at *
  unfold p26
  generalize (S.evL nl (fun j => tl (j + al)) (fun j => vl (j + al)) (fun j => gl (j + al)) (fun j => wl (j + al)) (fun j => xl (j + al))) = E at *
  simp only [decide_eq_true c1, cond_true]
  by_cases h0 : E = 0
  · subst h0
    rw [if_pos rfl]
    exact goes_no rfl hm
  · rw [if_neg h0]
    exact goes_ok (by simpa using h0) (goes_inr.mpr rfl)
theorem k26_ok  : k26.ok Try.prog := by
  intro x hx
  obtain ⟨⟨al, nl, ml, tl, vl, gl, wl, xl, _⟩, nb, fr, _⟩ := x
  obtain ⟨h1, h2⟩ := a26 al nl ml tl vl gl wl xl nb fr (s26 al nl ml tl vl gl wl xl nb fr (of_dec hx rfl))
  exact ⟨⟨400, (by decide : 1 + 1 + 0 ≤ 400), h1⟩, h2⟩
inductive St21 where
  | h0 (x0 : Int)
abbrev Rt21  := Bool
noncomputable def V21 (al nl ml : Nat) (tl vl gl wl xl : NI) (am nm mm : Nat) (tm vm gm wm xm : NI) (r : Rt21) : PV := PV.bool r
noncomputable def N21 (al nl ml : Nat) (tl vl gl wl xl : NI) (am nm mm : Nat) (tm vm gm wm xm : NI) (r : Rt21) : List Blk := []
noncomputable def I21 (al nl ml : Nat) (tl vl gl wl xl : NI) (am nm mm : Nat) (tm vm gm wm xm : NI) : St21 → Hd
  | .h0 x0 => ⟨hd Try.f21 0, [PV.loose (PA.mk (0) (5) al (0)) nl,
 PV.loose (PA.mk (1) (5) am (0)) nm, PV.int .i64 x0], [[], [(0, (false, .cols ml [.int .i64 tl, .int .i64 vl, .int .i64 gl, .int .i64 wl, .int .i64 xl])), (1, (false, .cols mm [.int .i64 tm, .int .i64 vm, .int .i64 gm, .int .i64 wm, .int .i64 xm]))]], 2⟩
noncomputable def q21 (al nl ml : Nat) (tl vl gl wl xl : NI) (am nm mm : Nat) (tm vm gm wm xm : NI) : St21 → Option (St21 ⊕ Rt21) | .h0 x0 => bif (decide (x0 < (↑nl : Int))) then (bif (decide ((0 : Int) ≤ x0 ∧ x0 < (↑nl : Int))) then (bif (decide (Int.toNat x0 + al < ml)) then (bif (decide ((0 : Int) ≤ x0 ∧ x0 < (↑nm : Int))) then (bif (decide (Int.toNat x0 + am < mm)) then (bif (!(tl (Int.toNat x0 + al) == tm (Int.toNat x0 + am) && (vl (Int.toNat x0 + al) == vm (Int.toNat x0 + am) && (gl (Int.toNat x0 + al) == gm (Int.toNat x0 + am) && (wl (Int.toNat x0 + al) == wm (Int.toNat x0 + am) && (xl (Int.toNat x0 + al) == xm (Int.toNat x0 + am) && true)))))) then (some (.inr (false))) else (bif (lim .i64 (x0 + 1)) then (some (.inl (.h0 (x0 + 1)))) else (none))) else (none)) else (none)) else (none)) else (none)) else (some (.inr (true)))
noncomputable def p21 (al nl ml : Nat) (tl vl gl wl xl : NI) (am nm mm : Nat) (tm vm gm wm xm : NI) : Option (St21 ⊕ Rt21) := bif ((↑nl : Int) != (↑nm : Int)) then (some (.inr (false))) else (some (.inl (.h0 ((0 : Int)))))
noncomputable def Te21 (test : TT) (Kst : KS) (Kret : KR) (al nl ml : Nat) (tl vl gl wl xl : NI) (am nm mm : Nat) (tm vm gm wm xm : NI) : Prop := test ((↑nl : Int) != (↑nm : Int)) (Kret (PV.tf false) ([[(1, false, Blk.cols mm [Col.int .i64 tm, Col.int .i64 vm, Col.int .i64 gm, Col.int .i64 wm, Col.int .i64 xm]), (0, false, Blk.cols ml [Col.int .i64 tl, Col.int .i64 vl, Col.int .i64 gl, Col.int .i64 wl, Col.int .i64 xl])]]) (2)) (Kst (hd Try.f21 0) ([PV.loose (PA.mk (0) (5) al (0)) nl, PV.loose (PA.mk (1) (5) am (0)) nm, PV.int .i64 (0 : Int)]) ([[(1, false, Blk.cols mm [Col.int .i64 tm, Col.int .i64 vm, Col.int .i64 gm, Col.int .i64 wm, Col.int .i64 xm]), (0, false, Blk.cols ml [Col.int .i64 tl, Col.int .i64 vl, Col.int .i64 gl, Col.int .i64 wl, Col.int .i64 xl])]]) (2))
theorem te21 (test : TT) (Kst : KS) (Kret : KR) (al nl ml : Nat) (tl vl gl wl xl : NI) (am nm mm : Nat) (tm vm gm wm xm : NI) : run test Try.env true noX true 400 ⟨21, [.cd (mkFn Try.f21).body], argT 0 [.loose ⟨0, 5, al, 0⟩ nl, .loose ⟨1, 5, am, 0⟩ nm], [[], [(0, (false, .cols ml [.int .i64 tl, .int .i64 vl, .int .i64 gl, .int .i64 wl, .int .i64 xl])), (1, (false, .cols mm [.int .i64 tm, .int .i64 vm, .int .i64 gm, .int .i64 wm, .int .i64 xm]))]], 2⟩ (proj 2 [0, 1, 5] Kst Kret) =
  Te21 test Kst Kret al nl ml tl vl gl wl xl am nm mm tm vm gm wm xm := by kernel_rfl
noncomputable def T21_0 (test : TT) (Kst : KS) (Kret : KR) (al nl ml : Nat) (tl vl gl wl xl : NI) (am nm mm : Nat) (tm vm gm wm xm : NI) (x0 : Int) : Prop := test (decide (x0 < (↑nl : Int))) (test (decide ((0 : Int) ≤ x0 ∧ x0 < (↑nl : Int))) (test (decide (Int.toNat x0 + al < ml)) (test (decide (Int.toNat x0 + al < ml)) (test (decide (Int.toNat x0 + al < ml)) (test (decide (Int.toNat x0 + al < ml)) (test (decide (Int.toNat x0 + al < ml)) (test (decide ((0 : Int) ≤ x0 ∧ x0 < (↑nm : Int))) (test (decide (Int.toNat x0 + am < mm)) (test (decide (Int.toNat x0 + am < mm)) (test (decide (Int.toNat x0 + am < mm)) (test (decide (Int.toNat x0 + am < mm)) (test (decide (Int.toNat x0 + am < mm)) (test (!(tl (Int.toNat x0 + al) == tm (Int.toNat x0 + am) && (vl (Int.toNat x0 + al) == vm (Int.toNat x0 + am) && (gl (Int.toNat x0 + al) == gm (Int.toNat x0 + am) && (wl (Int.toNat x0 + al) == wm (Int.toNat x0 + am) && (xl (Int.toNat x0 + al) == xm (Int.toNat x0 + am) && true)))))) (Kret (PV.tf false) ([[(1, false, Blk.cols mm [Col.int .i64 tm, Col.int .i64 vm, Col.int .i64 gm, Col.int .i64 wm, Col.int .i64 xm]), (0, false, Blk.cols ml [Col.int .i64 tl, Col.int .i64 vl, Col.int .i64 gl, Col.int .i64 wl, Col.int .i64 xl])]]) (2)) (test (lim .i64 (x0 + 1)) (Kst (hd Try.f21 0) ([PV.loose (PA.mk (0) (5) al (0)) nl, PV.loose (PA.mk (1) (5) am (0)) nm, PV.int .i64 (x0 + 1)]) ([[(1, false, Blk.cols mm [Col.int .i64 tm, Col.int .i64 vm, Col.int .i64 gm, Col.int .i64 wm, Col.int .i64 xm]), (0, false, Blk.cols ml [Col.int .i64 tl, Col.int .i64 vl, Col.int .i64 gl, Col.int .i64 wl, Col.int .i64 xl])]]) (2)) (False))) (False)) (False)) (False)) (False)) (False)) (False)) (False)) (False)) (False)) (False)) (False)) (False)) (Kret (PV.tf true) ([[(1, false, Blk.cols mm [Col.int .i64 tm, Col.int .i64 vm, Col.int .i64 gm, Col.int .i64 wm, Col.int .i64 xm]), (0, false, Blk.cols ml [Col.int .i64 tl, Col.int .i64 vl, Col.int .i64 gl, Col.int .i64 wl, Col.int .i64 xl])]]) (2))
theorem t21_0 (test : TT) (Kst : KS) (Kret : KR) (al nl ml : Nat) (tl vl gl wl xl : NI) (am nm mm : Nat) (tm vm gm wm xm : NI) (x0 : Int) : run test Try.env true noX true 400 ⟨21, hd Try.f21 0, zipT [0, 1, 5] [PV.loose (PA.mk (0) (5) al (0)) nl,
 PV.loose (PA.mk (1) (5) am (0)) nm, PV.int .i64 x0], [[], [(0, (false, .cols ml [.int .i64 tl, .int .i64 vl, .int .i64 gl, .int .i64 wl, .int .i64 xl])), (1, (false, .cols mm [.int .i64 tm, .int .i64 vm, .int .i64 gm, .int .i64 wm, .int .i64 xm]))]], 2⟩ (proj 2 [0, 1, 5] Kst Kret) =
  T21_0 test Kst Kret al nl ml tl vl gl wl xl am nm mm tm vm gm wm xm x0 := by kernel_rfl
noncomputable abbrev J21 (al nl ml : Nat) (tl : NI) (vl : NI) (gl : NI) (wl : NI) (xl : NI) (am nm mm : Nat) (tm : NI) (vm : NI) (gm : NI) (wm : NI) (xm : NI) : Rt21 → Heap := fun r => [newL (2 + 1) ((N21 al nl ml tl vl gl wl xl am nm mm tm vm gm wm xm) r) ++ [(0, (false, .cols ml [.int .i64 tl, .int .i64 vl, .int .i64 gl, .int .i64 wl, .int .i64 xl])), (1, (false, .cols mm [.int .i64 tm, .int .i64 vm, .int .i64 gm, .int .i64 wm, .int .i64 xm]))]]
attribute [local irreducible] Int.subNatNat in
theorem be21 (al nl ml : Nat) (tl vl gl wl xl : NI) (am nm mm : Nat) (tm vm gm wm xm : NI) (Kst : KS) (Kret : KR) (x : St21 ⊕ Rt21) (hS : HS 2 400 ((I21 al nl ml tl vl gl wl xl am nm mm tm vm gm wm xm)) Kst x) (hR : HR 2 400 ((V21 al nl ml tl vl gl wl xl am nm mm tm vm gm wm xm)) (J21 al nl ml tl vl gl wl xl am nm mm tm vm gm wm xm) Kret x) (h : p21 al nl ml tl vl gl wl xl am nm mm tm vm gm wm xm = some x) : Te21 cond Kst Kret al nl ml tl vl gl wl xl am nm mm tm vm gm wm xm := by
  unfold Te21
  unfold p21 at h
  refine bif_split h (fun c0 h => ret_at hR _ h (fun n => n) rfl rfl rfl (rn_bool_tf rfl) rfl (entl_bor (use_lo rfl) rfl rfl (entl_bor (use_lo rfl) rfl rfl entl_nil))) (fun c0 h => stop_at hS _ h (fun n => n) rfl rfl rfl ⟨(rn_loose (use_lo rfl) rfl rfl rfl), ⟨(rn_loose (use_lo rfl) rfl rfl rfl), ⟨(rn_int rfl), trivial⟩⟩⟩ rfl (entl_bor (use_lo rfl) rfl rfl (entl_bor (use_lo rfl) rfl rfl entl_nil)))
attribute [local irreducible] Int.subNatNat in
theorem b21_0 (al nl ml : Nat) (tl vl gl wl xl : NI) (am nm mm : Nat) (tm vm gm wm xm : NI) (Kst : KS) (Kret : KR) (x : St21 ⊕ Rt21) (hS : HS 2 400 ((I21 al nl ml tl vl gl wl xl am nm mm tm vm gm wm xm)) Kst x) (hR : HR 2 400 ((V21 al nl ml tl vl gl wl xl am nm mm tm vm gm wm xm)) (J21 al nl ml tl vl gl wl xl am nm mm tm vm gm wm xm) Kret x) (x0 : Int) (h : q21 al nl ml tl vl gl wl xl am nm mm tm vm gm wm xm (.h0 x0) = some x) : T21_0 cond Kst Kret al nl ml tl vl gl wl xl am nm mm tm vm gm wm xm x0 := by
  unfold T21_0
  rw [q21] at h
  exact bif_split h (fun c0 h => bif_split h (fun c1 h => bif_split h (fun c2 h => cond_yes c2 (cond_yes c2 (cond_yes c2 (cond_yes c2 (bif_split h (fun c3 h => bif_split h (fun c4 h => cond_yes c4 (cond_yes c4 (cond_yes c4 (cond_yes c4 (bif_split h (fun c5 h => ret_at hR _ h (fun n => n) rfl rfl rfl (rn_bool_tf rfl) rfl (entl_bor (use_lo rfl) rfl rfl (entl_bor (use_lo rfl) rfl rfl entl_nil))) (fun c5 h => bif_split h (fun c6 h => stop_at hS _ h (fun n => n) rfl rfl rfl ⟨(rn_loose (use_lo rfl) rfl rfl rfl), ⟨(rn_loose (use_lo rfl) rfl rfl rfl), ⟨(rn_int rfl), trivial⟩⟩⟩ rfl (entl_bor (use_lo rfl) rfl rfl (entl_bor (use_lo rfl) rfl rfl entl_nil))) (fun c6 h => no_some h))))))) (fun c4 h => no_some h)) (fun c3 h => no_some h)))))) (fun c2 h => no_some h)) (fun c1 h => no_some h)) (fun c0 h => ret_at hR _ h (fun n => n) rfl rfl rfl (rn_bool_tf rfl) rfl (entl_bor (use_lo rfl) rfl rfl (entl_bor (use_lo rfl) rfl rfl entl_nil)))
theorem a21 (al nl ml : Nat) (tl vl gl wl xl : NI) (am nm mm : Nat) (tm vm gm wm xm : NI) {r : Rt21} (h : Goes ((q21 al nl ml tl vl gl wl xl am nm mm tm vm gm wm xm)) ((p21 al nl ml tl vl gl wl xl am nm mm tm vm gm wm xm)) r) : CallR Try.prog 21 [.loose ⟨0, 5, al, 0⟩ nl, .loose ⟨1, 5, am, 0⟩ nm] [[(0, (false, .cols ml [.int .i64 tl, .int .i64 vl, .int .i64 gl, .int .i64 wl, .int .i64 xl])), (1, (false, .cols mm [.int .i64 tm, .int .i64 vm, .int .i64 gm, .int .i64 wm, .int .i64 xm]))]] 2 ((V21 al nl ml tl vl gl wl xl am nm mm tm vm gm wm xm) r) ((J21 al nl ml tl vl gl wl xl am nm mm tm vm gm wm xm) r) 400 ∧ ∃ F, Try.prog.funcs[21]? = some F ∧ F.body.isSome = true ∧ (F.name == "runtime.NumGoroutine") = false := by
  refine dec_calls (f := 21) (lo := 2) (hi := 400) Try.envOk Try.mixed noX_ok ((I21 al nl ml tl vl gl wl xl am nm mm tm vm gm wm xm)) ((V21 al nl ml tl vl gl wl xl am nm mm tm vm gm wm xm)) (J21 al nl ml tl vl gl wl xl am nm mm tm vm gm wm xm) (fn := mkFn Try.f21) (ts := [0, 1, 5]) (n := 400) rfl (by decide) (by simp) (names_of rfl) ?_ ?_ ?_ h
  · intro s; cases s <;> exact ⟨hd_ok _ _, by simp [I21], names_of rfl, Nat.le_of_ble_eq_true rfl⟩
  · intro Kst Kret x hS hR h
    exact Holds.eq (te21 cond Kst Kret al nl ml tl vl gl wl xl am nm mm tm vm gm wm xm) (be21 al nl ml tl vl gl wl xl am nm mm tm vm gm wm xm Kst Kret x hS hR h)
  · intro Kst Kret x hS hR s h
    cases s with
    | h0 x0 => exact Holds.eq (t21_0 cond Kst Kret al nl ml tl vl gl wl xl am nm mm tm vm gm wm xm x0) (b21_0 al nl ml tl vl gl wl xl am nm mm tm vm gm wm xm Kst Kret x hS hR x0 h)
noncomputable abbrev w21 {α : Type} (g : Nat → Nat → Nat → (Nat → Int) → (Nat → Int) → (Nat → Int) → (Nat → Int) → (Nat → Int) → Nat → Nat → Nat → (Nat → Int) → (Nat → Int) → (Nat → Int) → (Nat → Int) → (Nat → Int) → α) (x : (Nat × Nat × Nat × (Nat → Int) × (Nat → Int) × (Nat → Int) × (Nat → Int) × (Nat → Int) × Unit) × (Nat × Nat × Nat × (Nat → Int) × (Nat → Int) × (Nat → Int) × (Nat → Int) × (Nat → Int) × Unit) × Unit) : α := g x.1.1 x.1.2.1 x.1.2.2.1 x.1.2.2.2.1 x.1.2.2.2.2.1 x.1.2.2.2.2.2.1 x.1.2.2.2.2.2.2.1 x.1.2.2.2.2.2.2.2.1 x.2.1.1 x.2.1.2.1 x.2.1.2.2.1 x.2.1.2.2.2.1 x.2.1.2.2.2.2.1 x.2.1.2.2.2.2.2.1 x.2.1.2.2.2.2.2.2.1 x.2.1.2.2.2.2.2.2.2.1
noncomputable def k21  : Con := ⟨21, [.one (.list [.int .i64, .int .i64, .int .i64, .int .i64, .int .i64]), .one (.list [.int .i64, .int .i64, .int .i64, .int .i64, .int .i64])], w21 (fun al nl ml tl vl gl wl xl am nm mm tm vm gm wm xm => decide (al + nl ≤ ml ∧ nl ≤ 1000000 ∧ am + nm ≤ mm ∧ nm ≤ 1000000)), w21 (fun al nl ml tl vl gl wl xl am nm mm tm vm gm wm xm => (V21 al nl ml tl vl gl wl xl am nm mm tm vm gm wm xm) (S.samL nl (fun j => tl (j + al)) (fun j => vl (j + al)) (fun j => gl (j + al)) (fun j => wl (j + al)) (fun j => xl (j + al)) nm (fun j => tm (j + am)) (fun j => vm (j + am)) (fun j => gm (j + am)) (fun j => wm (j + am)) (fun j => xm (j + am)))), w21 (fun al nl ml tl vl gl wl xl am nm mm tm vm gm wm xm => (N21 al nl ml tl vl gl wl xl am nm mm tm vm gm wm xm) (S.samL nl (fun j => tl (j + al)) (fun j => vl (j + al)) (fun j => gl (j + al)) (fun j => wl (j + al)) (fun j => xl (j + al)) nm (fun j => tm (j + am)) (fun j => vm (j + am)) (fun j => gm (j + am)) (fun j => wm (j + am)) (fun j => xm (j + am)))), fun _ _ => .dead⟩
theorem e21 (al nl ml : Nat) (tl vl gl wl xl : Nat → Int) (am nm mm : Nat) (tm vm gm wm xm : Nat → Int) (h : nl = nm) : S.samL nl (fun j => tl (j + al)) (fun j => vl (j + al)) (fun j => gl (j + al)) (fun j => wl (j + al)) (fun j => xl (j + al)) nm (fun j => tm (j + am)) (fun j => vm (j + am)) (fun j => gm (j + am)) (fun j => wm (j + am)) (fun j => xm (j + am)) = true ↔ ∀ j, j < nl → tl (j + al) = tm (j + am) ∧ vl (j + al) = vm (j + am) ∧ gl (j + al) = gm (j + am) ∧ wl (j + al) = wm (j + am) ∧ xl (j + al) = xm (j + am) := by
  unfold S.samL
  rw [decide_eq_true_eq, mkl_inj]
  simp only [h, true_and, Prod.mk.injEq]
theorem s21' (al nl ml : Nat) (tl vl gl wl xl : Nat → Int) (am nm mm : Nat) (tm vm gm wm xm : Nat → Int) (hp : al + nl ≤ ml ∧ nl ≤ 1000000 ∧ am + nm ≤ mm ∧ nm ≤ 1000000) (he : nl = nm) : ∀ k i : Nat, i + k = nl → (∀ j, j < i → tl (j + al) = tm (j + am) ∧ vl (j + al) = vm (j + am) ∧ gl (j + al) = gm (j + am) ∧ wl (j + al) = wm (j + am) ∧ xl (j + al) = xm (j + am)) → Comes (q21 al nl ml tl vl gl wl xl am nm mm tm vm gm wm xm) (.h0 (i : Int)) (S.samL nl (fun j => tl (j + al)) (fun j => vl (j + al)) (fun j => gl (j + al)) (fun j => wl (j + al)) (fun j => xl (j + al)) nm (fun j => tm (j + am)) (fun j => vm (j + am)) (fun j => gm (j + am)) (fun j => wm (j + am)) (fun j => xm (j + am))) := by
  obtain ⟨hp1, hp2, hp3, hp4⟩ := hp
  have hq := e21 al nl ml tl vl gl wl xl am nm mm tm vm gm wm xm he
  generalize S.samL nl (fun j => tl (j + al)) (fun j => vl (j + al)) (fun j => gl (j + al)) (fun j => wl (j + al)) (fun j => xl (j + al)) nm (fun j => tm (j + am)) (fun j => vm (j + am)) (fun j => gm (j + am)) (fun j => wm (j + am)) (fun j => xm (j + am)) = R at hq ⊢
  intro k
  induction k with
  | zero =>
    intro i hi hj
    obtain rfl : nl = i := by omega
    rw [hq.mpr hj]
    apply Comes.of
    show Goes _ _ _
    (first | rw [q21] | unfold q21)
    repeat' (first | with_reducible refine goes_if (fun h => ?_) (fun h => ?_) <;> (try simp only [SH] at h) | exact goes_none.mpr (by omega))
    all_goals first | (exfalso; omega) | exact goes_inr.mpr rfl
  | succ k ih =>
    intro i hi hj
    by_cases h0 : tl (i + al) = tm (i + am) ∧ vl (i + al) = vm (i + am) ∧ gl (i + al) = gm (i + am) ∧ wl (i + al) = wm (i + am) ∧ xl (i + al) = xm (i + am)
    · have ih := ih (i + 1) (by omega) (fun j h => by
        by_cases hji : j = i
        · subst hji; exact h0
        · exact hj j (by omega))
      obtain ⟨e1, e2, e3, e4, e5⟩ := h0
      apply Comes.of
      show Goes _ _ _
      rw [q21]
      simp only [Int.toNat_natCast, e1, e2, e3, e4, e5, beq_self_eq_true, Bool.and_self, Bool.not_true]
      repeat' (first | with_reducible refine goes_if (fun h => ?_) (fun h => ?_) <;> (try simp only [SH] at h) | exact goes_none.mpr (by omega))
      all_goals first | (exfalso; omega) | exact ih
    · have hR : R = false := by
        cases R
        · rfl
        · exact absurd (hq.mp rfl i (by omega)) h0
      rw [hR]
      have hb : (!(tl (i + al) == tm (i + am) && (vl (i + al) == vm (i + am) && (gl (i + al) == gm (i + am) && (wl (i + al) == wm (i + am) && (xl (i + al) == xm (i + am) && true)))))) = true := by
        rw [Bool.not_eq_true']
        simp only [Bool.and_true, Bool.and_eq_false_iff, beq_eq_false_iff_ne, ne_eq]
        omega
      apply Comes.of
      show Goes _ _ _
      rw [q21]
      simp only [Int.toNat_natCast, hb]
      repeat' (first | with_reducible refine goes_if (fun h => ?_) (fun h => ?_) <;> (try simp only [SH] at h) | exact goes_none.mpr (by omega))
      all_goals first | (exfalso; omega) | exact goes_inr.mpr rfl
theorem s21 (al nl ml : Nat) (tl vl gl wl xl : Nat → Int) (am nm mm : Nat) (tm vm gm wm xm : Nat → Int) (hp : al + nl ≤ ml ∧ nl ≤ 1000000 ∧ am + nm ≤ mm ∧ nm ≤ 1000000) : Goes ((q21 al nl ml tl vl gl wl xl am nm mm tm vm gm wm xm)) ((p21 al nl ml tl vl gl wl xl am nm mm tm vm gm wm xm)) (S.samL nl (fun j => tl (j + al)) (fun j => vl (j + al)) (fun j => gl (j + al)) (fun j => wl (j + al)) (fun j => xl (j + al)) nm (fun j => tm (j + am)) (fun j => vm (j + am)) (fun j => gm (j + am)) (fun j => wm (j + am)) (fun j => xm (j + am))) := by
  by_cases he : nl = nm
  · have hm := s21' al nl ml tl vl gl wl xl am nm mm tm vm gm wm xm hp he nl 0 (by omega) (fun j h => by omega)
    generalize S.samL nl (fun j => tl (j + al)) (fun j => vl (j + al)) (fun j => gl (j + al)) (fun j => wl (j + al)) (fun j => xl (j + al)) nm (fun j => tm (j + am)) (fun j => vm (j + am)) (fun j => gm (j + am)) (fun j => wm (j + am)) (fun j => xm (j + am)) = R at *
    obtain ⟨hp1, hp2, hp3, hp4⟩ := hp
    show Goes _ _ _
    unfold p21
    repeat' (first | with_reducible refine goes_if (fun h => ?_) (fun h => ?_) <;> (try simp only [SH] at h) | exact goes_none.mpr (by omega))
    all_goals first | (exfalso; omega) | exact hm
  · have hd : S.samL nl (fun j => tl (j + al)) (fun j => vl (j + al)) (fun j => gl (j + al)) (fun j => wl (j + al)) (fun j => xl (j + al)) nm (fun j => tm (j + am)) (fun j => vm (j + am)) (fun j => gm (j + am)) (fun j => wm (j + am)) (fun j => xm (j + am)) = false := decide_eq_false (fun e => he (mkl_inj.mp e).1)
    rw [hd]
    show Goes _ _ _
    unfold p21
    repeat' (first | with_reducible refine goes_if (fun h => ?_) (fun h => ?_) <;> (try simp only [SH] at h) | exact goes_none.mpr (by omega))
    all_goals first | (exfalso; omega) | exact goes_inr.mpr rfl
theorem k21_ok  : k21.ok Try.prog := by
  intro x hx
  obtain ⟨⟨al, nl, ml, tl, vl, gl, wl, xl, _⟩, ⟨am, nm, mm, tm, vm, gm, wm, xm, _⟩, _⟩ := x
  obtain ⟨h1, h2⟩ := a21 al nl ml tl vl gl wl xl am nm mm tm vm gm wm xm (s21 al nl ml tl vl gl wl xl am nm mm tm vm gm wm xm (of_dec hx rfl))
  exact ⟨⟨400, (by decide : 2 + 1 + 0 ≤ 400), h1⟩, h2⟩
noncomputable abbrev w23 {α : Type} (g : Nat → Nat → Nat → (Nat → Int) → (Nat → Int) → (Nat → Int) → (Nat → Int) → (Nat → Int) → α) (x : (Nat × Nat × Nat × (Nat → Int) × (Nat → Int) × (Nat → Int) × (Nat → Int) × (Nat → Int) × Unit) × Unit) : α := g x.1.1 x.1.2.1 x.1.2.2.1 x.1.2.2.2.1 x.1.2.2.2.2.1 x.1.2.2.2.2.2.1 x.1.2.2.2.2.2.2.1 x.1.2.2.2.2.2.2.2.1
noncomputable def k23  : Con := ⟨23, [.one (.list [.int .i64, .int .i64, .int .i64, .int .i64, .int .i64])], w23 (fun aa na ma ta va ga wa xa => decide (aa + na ≤ ma ∧ na ≤ 1000000)), w23 (fun aa na ma ta va ga wa xa => .own 2 5 na), w23 (fun aa na ma ta va ga wa xa => [.cols na [.int .i64 (fun j => ta (j + aa)), .int .i64 (fun j => va (j + aa)), .int .i64 (fun j => ga (j + aa)), .int .i64 (fun j => wa (j + aa)), .int .i64 (fun j => xa (j + aa))]]), fun _ _ => .dead⟩
theorem e23s (test : Bool → Prop → Prop → Prop) (Kst : List It → List PV → Heap → Nat → Prop) (Kret : PV → Heap → Nat → Prop) (aa na ma : Nat) (ta va ga wa xa : Nat → Int) :
  (run test Try.env true noX true 300 ⟨23, [.cd (mkFn Try.f23).body], argT 0 [.sl ⟨0, 5, aa, 0⟩ na], [[], [(0, (false, .cols ma [.int .i64 ta, .int .i64 va, .int .i64 ga, .int .i64 wa, .int .i64 xa]))]], 1⟩ (proj 1 [] Kst Kret)) =
  (test (decide (0 + na ≤ 1000000))
  (test true
    (test (decide (aa + na ≤ ma))
      (Kret (PV.own (2) (5) (0 + na))
        [[(0, false,
              Blk.cols ma
                [Col.int IntKind.i64 ta, Col.int IntKind.i64 va, Col.int IntKind.i64 ga, Col.int IntKind.i64 wa,
                  Col.int IntKind.i64 xa]),
            (2, true,
              Blk.cols (0 + na)
                [Col.int IntKind.i64 fun j => ta (j + aa), Col.int IntKind.i64 fun j => va (j + aa),
                  Col.int IntKind.i64 fun j => ga (j + aa), Col.int IntKind.i64 fun j => wa (j + aa),
                  Col.int IntKind.i64 fun j => xa (j + aa)])]]
        (3))
      False)
    False)
  False) := by kernel_rfl
theorem c23s (aa na ma : Nat) (ta va ga wa xa : NI) (hp : aa + na ≤ ma ∧ na ≤ 1000000) (h0 : 0 < na) : CallR Try.prog 23 [.sl ⟨0, 5, aa, 0⟩ na] [[(0, (false, .cols ma [.int .i64 ta, .int .i64 va, .int .i64 ga, .int .i64 wa, .int .i64 xa]))]] 1 (.own 2 5 na) [(2, (true, .cols na [.int .i64 (fun j => ta (j + aa)), .int .i64 (fun j => va (j + aa)), .int .i64 (fun j => ga (j + aa)), .int .i64 (fun j => wa (j + aa)), .int .i64 (fun j => xa (j + aa))])) :: [(0, (false, .cols ma [.int .i64 ta, .int .i64 va, .int .i64 ga, .int .i64 wa, .int .i64 xa]))]] 40 ∧ ∃ F, Try.prog.funcs[23]? = some F ∧ F.body.isSome = true ∧ (F.name == "runtime.NumGoroutine") = false := by
  refine @ret_eq _ _ Try.envOk Try.mixed _ noX_ok 23 (mkFn Try.f23) [.sl ⟨0, 5, aa, 0⟩ na] [[(0, (false, .cols ma [.int .i64 ta, .int .i64 va, .int .i64 ga, .int .i64 wa, .int .i64 xa]))]] [(2, (true, .cols na [.int .i64 (fun j => ta (j + aa)), .int .i64 (fun j => va (j + aa)), .int .i64 (fun j => ga (j + aa)), .int .i64 (fun j => wa (j + aa)), .int .i64 (fun j => xa (j + aa))])) :: [(0, (false, .cols ma [.int .i64 ta, .int .i64 va, .int .i64 ga, .int .i64 wa, .int .i64 xa]))]] 1 40 (.own 2 5 na) true 300 rfl (by decide) (by simp) (names_of rfl) _ (e23s cond _ _ aa na ma ta va ga wa xa) ?_
  repeat' first
    | with_reducible refine cond_yes rfl ?_
    | with_reducible refine cond_no rfl ?_
    | (with_reducible refine cond_intro (fun h => ?_) (fun h => ?_)) <;> (try simp only [lim64, decide_eq_true_eq, decide_eq_false_iff_not, reduceCtorEq, Int.toNat_natCast, Bool.not_eq_true', Bool.not_eq_false', Bool.and_eq_true, Bool.or_eq_true, Bool.and_eq_false_iff, Bool.or_eq_false_iff, bne_iff_ne, beq_iff_eq, bne_eq_false_iff_eq, beq_eq_false_iff_ne, ne_eq] at h)
  all_goals first
    | with_reducible apply ret_k
    | omega
  repeat' first
    | with_reducible exact rns_nil
    | with_reducible refine rns_cons ?_ ?_
    | with_reducible refine rn_tup ?_
    | with_reducible refine rn_agg ?_
    | with_reducible refine rn_int ?_
    | with_reducible refine rn_tf ?_
    | with_reducible refine rn_bool_tf ?_
    | with_reducible refine rn_bool ?_
    | with_reducible refine rn_str ?_
    | with_reducible exact rn_nils
    | with_reducible refine rn_own_nils ?_
    | with_reducible refine rn_own ?_ ?_ ?_
    | with_reducible refine rn_own_sl ?_ ?_ ?_ ?_ ?_
    | with_reducible refine rn_own_loose ?_ ?_ ?_ ?_
    | with_reducible refine rn_loose ?_ ?_ ?_ ?_
    | with_reducible refine rn_loose_sl ?_ ?_ ?_ ?_
    | exact use_lo rfl
    | exact use_own rfl
    | exact nm_k rfl
    | exact nm_lo rfl
    | ((with_reducible refine (id : pos _ = pos _ → _) ?_); exact rfl)
    | ((with_reducible refine (id : pos _ = 0 → _) ?_); exact rfl)
    | ((with_reducible refine (id : Nat.ble _ _ = true → _) ?_); exact rfl)
    | ((with_reducible refine (id : injL _ _ = true → _) ?_); exact rfl)
    | ((with_reducible refine (id : plainC _ = true → _) ?_); exact rfl)
    | ((with_reducible refine (id : hget _ _ = some _ → _) ?_); exact rfl)
    | with_reducible exact (id : (_ : Bool) = true → _ = true)
    | with_reducible exact entl_nil
    | with_reducible refine entl_bor ?_ ?_ ?_ ?_
    | refine entl_new (use_own rfl) (by rfl) ?_ ?_ ?_
    | refine entl_rows (use_own rfl) (by rfl) rfl ?_ (nthc_all ?_) ?_
    | refine entl_zero (use_own rfl) (by rfl) (by simp) (by omega) ?_
    | with_reducible exact rcs_nil
    | with_reducible refine rcs_int (fun j hj => ?_) ?_
    | with_reducible refine rcs_bool (fun j hj => ?_) ?_
    | with_reducible refine rcs_str (fun j hj => ?_) ?_
    | refine entl_fresh (k := 2) (use_own rfl) (fresh_ok (n := 39) rfl) ?_
    | with_reducible rfl
  all_goals try exact (0 : Nat)
  all_goals try ((with_reducible refine (id : injL _ _ = true → _) ?_); exact rfl)
  all_goals first
    | omega
    | skip
theorem e23z (test : Bool → Prop → Prop → Prop) (Kst : List It → List PV → Heap → Nat → Prop) (Kret : PV → Heap → Nat → Prop) (aa na ma : Nat) (ta va ga wa xa : Nat → Int) :
  (run test Try.env true noX true 300 ⟨23, [.cd (mkFn Try.f23).body], argT 0 [.zer true], [[], [(0, (false, .cols ma [.int .i64 ta, .int .i64 va, .int .i64 ga, .int .i64 wa, .int .i64 xa]))]], 1⟩ (proj 1 [] Kst Kret)) =
  (Kret (PV.own (1) (5) (0))
  [[(0, false,
        Blk.cols ma
          [Col.int IntKind.i64 ta, Col.int IntKind.i64 va, Col.int IntKind.i64 ga, Col.int IntKind.i64 wa,
            Col.int IntKind.i64 xa]),
      (1, true, Blk.cells [])]]
  (2)) := by kernel_rfl
theorem c23z (aa na ma : Nat) (ta va ga wa xa : NI) (hp : aa + na ≤ ma ∧ na ≤ 1000000) (h0 : na = 0) : CallR Try.prog 23 [.zer true] [[(0, (false, .cols ma [.int .i64 ta, .int .i64 va, .int .i64 ga, .int .i64 wa, .int .i64 xa]))]] 1 (.own 2 5 na) [(2, (true, .cols na [.int .i64 (fun j => ta (j + aa)), .int .i64 (fun j => va (j + aa)), .int .i64 (fun j => ga (j + aa)), .int .i64 (fun j => wa (j + aa)), .int .i64 (fun j => xa (j + aa))])) :: [(0, (false, .cols ma [.int .i64 ta, .int .i64 va, .int .i64 ga, .int .i64 wa, .int .i64 xa]))]] 40 ∧ ∃ F, Try.prog.funcs[23]? = some F ∧ F.body.isSome = true ∧ (F.name == "runtime.NumGoroutine") = false := by
  refine @ret_eq _ _ Try.envOk Try.mixed _ noX_ok 23 (mkFn Try.f23) [.zer true] [[(0, (false, .cols ma [.int .i64 ta, .int .i64 va, .int .i64 ga, .int .i64 wa, .int .i64 xa]))]] [(2, (true, .cols na [.int .i64 (fun j => ta (j + aa)), .int .i64 (fun j => va (j + aa)), .int .i64 (fun j => ga (j + aa)), .int .i64 (fun j => wa (j + aa)), .int .i64 (fun j => xa (j + aa))])) :: [(0, (false, .cols ma [.int .i64 ta, .int .i64 va, .int .i64 ga, .int .i64 wa, .int .i64 xa]))]] 1 40 (.own 2 5 na) true 300 rfl (by decide) (by simp) (names_of rfl) _ (e23z cond _ _ aa na ma ta va ga wa xa) ?_
  repeat' first
    | with_reducible refine cond_yes rfl ?_
    | with_reducible refine cond_no rfl ?_
    | (with_reducible refine cond_intro (fun h => ?_) (fun h => ?_)) <;> (try simp only [lim64, decide_eq_true_eq, decide_eq_false_iff_not, reduceCtorEq, Int.toNat_natCast, Bool.not_eq_true', Bool.not_eq_false', Bool.and_eq_true, Bool.or_eq_true, Bool.and_eq_false_iff, Bool.or_eq_false_iff, bne_iff_ne, beq_iff_eq, bne_eq_false_iff_eq, beq_eq_false_iff_ne, ne_eq] at h)
  all_goals first
    | with_reducible apply ret_k
    | omega
  repeat' first
    | with_reducible exact rns_nil
    | with_reducible refine rns_cons ?_ ?_
    | with_reducible refine rn_tup ?_
    | with_reducible refine rn_agg ?_
    | with_reducible refine rn_int ?_
    | with_reducible refine rn_tf ?_
    | with_reducible refine rn_bool_tf ?_
    | with_reducible refine rn_bool ?_
    | with_reducible refine rn_str ?_
    | with_reducible exact rn_nils
    | with_reducible refine rn_own_nils ?_
    | with_reducible refine rn_own ?_ ?_ ?_
    | with_reducible refine rn_own_sl ?_ ?_ ?_ ?_ ?_
    | with_reducible refine rn_own_loose ?_ ?_ ?_ ?_
    | with_reducible refine rn_loose ?_ ?_ ?_ ?_
    | with_reducible refine rn_loose_sl ?_ ?_ ?_ ?_
    | exact use_lo rfl
    | exact use_own rfl
    | exact nm_k rfl
    | exact nm_lo rfl
    | ((with_reducible refine (id : pos _ = pos _ → _) ?_); exact rfl)
    | ((with_reducible refine (id : pos _ = 0 → _) ?_); exact rfl)
    | ((with_reducible refine (id : Nat.ble _ _ = true → _) ?_); exact rfl)
    | ((with_reducible refine (id : injL _ _ = true → _) ?_); exact rfl)
    | ((with_reducible refine (id : plainC _ = true → _) ?_); exact rfl)
    | ((with_reducible refine (id : hget _ _ = some _ → _) ?_); exact rfl)
    | with_reducible exact (id : (_ : Bool) = true → _ = true)
    | with_reducible exact entl_nil
    | with_reducible refine entl_bor ?_ ?_ ?_ ?_
    | refine entl_new (use_own rfl) (by rfl) ?_ ?_ ?_
    | refine entl_rows (use_own rfl) (by rfl) rfl ?_ (nthc_all ?_) ?_
    | refine entl_zero (use_own rfl) (by rfl) (by simp) (by omega) ?_
    | with_reducible exact rcs_nil
    | with_reducible refine rcs_int (fun j hj => ?_) ?_
    | with_reducible refine rcs_bool (fun j hj => ?_) ?_
    | with_reducible refine rcs_str (fun j hj => ?_) ?_
    | refine entl_fresh (k := 2) (use_own rfl) (fresh_ok (n := 39) rfl) ?_
    | with_reducible rfl
  all_goals try exact (0 : Nat)
  all_goals try ((with_reducible refine (id : injL _ _ = true → _) ?_); exact rfl)
  all_goals first
    | omega
    | skip
theorem e23y (test : Bool → Prop → Prop → Prop) (Kst : List It → List PV → Heap → Nat → Prop) (Kret : PV → Heap → Nat → Prop) (aa na ma : Nat) (ta va ga wa xa : Nat → Int) :
  (run test Try.env true noX true 300 ⟨23, [.cd (mkFn Try.f23).body], argT 0 [.zer false], [[], [(0, (false, .cols ma [.int .i64 ta, .int .i64 va, .int .i64 ga, .int .i64 wa, .int .i64 xa]))]], 1⟩ (proj 1 [] Kst Kret)) =
  (Kret PV.nils
  [[(0, false,
        Blk.cols ma
          [Col.int IntKind.i64 ta, Col.int IntKind.i64 va, Col.int IntKind.i64 ga, Col.int IntKind.i64 wa,
            Col.int IntKind.i64 xa])]]
  (1)) := by kernel_rfl
theorem c23y (aa na ma : Nat) (ta va ga wa xa : NI) (hp : aa + na ≤ ma ∧ na ≤ 1000000) (h0 : na = 0) : CallR Try.prog 23 [.zer false] [[(0, (false, .cols ma [.int .i64 ta, .int .i64 va, .int .i64 ga, .int .i64 wa, .int .i64 xa]))]] 1 (.own 2 5 na) [(2, (true, .cols na [.int .i64 (fun j => ta (j + aa)), .int .i64 (fun j => va (j + aa)), .int .i64 (fun j => ga (j + aa)), .int .i64 (fun j => wa (j + aa)), .int .i64 (fun j => xa (j + aa))])) :: [(0, (false, .cols ma [.int .i64 ta, .int .i64 va, .int .i64 ga, .int .i64 wa, .int .i64 xa]))]] 40 ∧ ∃ F, Try.prog.funcs[23]? = some F ∧ F.body.isSome = true ∧ (F.name == "runtime.NumGoroutine") = false := by
  refine @ret_eq _ _ Try.envOk Try.mixed _ noX_ok 23 (mkFn Try.f23) [.zer false] [[(0, (false, .cols ma [.int .i64 ta, .int .i64 va, .int .i64 ga, .int .i64 wa, .int .i64 xa]))]] [(2, (true, .cols na [.int .i64 (fun j => ta (j + aa)), .int .i64 (fun j => va (j + aa)), .int .i64 (fun j => ga (j + aa)), .int .i64 (fun j => wa (j + aa)), .int .i64 (fun j => xa (j + aa))])) :: [(0, (false, .cols ma [.int .i64 ta, .int .i64 va, .int .i64 ga, .int .i64 wa, .int .i64 xa]))]] 1 40 (.own 2 5 na) true 300 rfl (by decide) (by simp) (names_of rfl) _ (e23y cond _ _ aa na ma ta va ga wa xa) ?_
  repeat' first
    | with_reducible refine cond_yes rfl ?_
    | with_reducible refine cond_no rfl ?_
    | (with_reducible refine cond_intro (fun h => ?_) (fun h => ?_)) <;> (try simp only [lim64, decide_eq_true_eq, decide_eq_false_iff_not, reduceCtorEq, Int.toNat_natCast, Bool.not_eq_true', Bool.not_eq_false', Bool.and_eq_true, Bool.or_eq_true, Bool.and_eq_false_iff, Bool.or_eq_false_iff, bne_iff_ne, beq_iff_eq, bne_eq_false_iff_eq, beq_eq_false_iff_ne, ne_eq] at h)
  all_goals first
    | with_reducible apply ret_k
    | omega
  repeat' first
    | with_reducible exact rns_nil
    | with_reducible refine rns_cons ?_ ?_
    | with_reducible refine rn_tup ?_
    | with_reducible refine rn_agg ?_
    | with_reducible refine rn_int ?_
    | with_reducible refine rn_tf ?_
    | with_reducible refine rn_bool_tf ?_
    | with_reducible refine rn_bool ?_
    | with_reducible refine rn_str ?_
    | with_reducible exact rn_nils
    | with_reducible refine rn_own_nils ?_
    | with_reducible refine rn_own ?_ ?_ ?_
    | with_reducible refine rn_own_sl ?_ ?_ ?_ ?_ ?_
    | with_reducible refine rn_own_loose ?_ ?_ ?_ ?_
    | with_reducible refine rn_loose ?_ ?_ ?_ ?_
    | with_reducible refine rn_loose_sl ?_ ?_ ?_ ?_
    | exact use_lo rfl
    | exact use_own rfl
    | exact nm_k rfl
    | exact nm_lo rfl
    | ((with_reducible refine (id : pos _ = pos _ → _) ?_); exact rfl)
    | ((with_reducible refine (id : pos _ = 0 → _) ?_); exact rfl)
    | ((with_reducible refine (id : Nat.ble _ _ = true → _) ?_); exact rfl)
    | ((with_reducible refine (id : injL _ _ = true → _) ?_); exact rfl)
    | ((with_reducible refine (id : plainC _ = true → _) ?_); exact rfl)
    | ((with_reducible refine (id : hget _ _ = some _ → _) ?_); exact rfl)
    | with_reducible exact (id : (_ : Bool) = true → _ = true)
    | with_reducible exact entl_nil
    | with_reducible refine entl_bor ?_ ?_ ?_ ?_
    | refine entl_new (use_own rfl) (by rfl) ?_ ?_ ?_
    | refine entl_rows (use_own rfl) (by rfl) rfl ?_ (nthc_all ?_) ?_
    | refine entl_zero (use_own rfl) (by rfl) (by simp) (by omega) ?_
    | with_reducible exact rcs_nil
    | with_reducible refine rcs_int (fun j hj => ?_) ?_
    | with_reducible refine rcs_bool (fun j hj => ?_) ?_
    | with_reducible refine rcs_str (fun j hj => ?_) ?_
    | refine entl_fresh (k := 2) (use_own rfl) (fresh_ok (n := 39) rfl) ?_
    | with_reducible rfl
  all_goals try exact (0 : Nat)
  all_goals try ((with_reducible refine (id : injL _ _ = true → _) ?_); exact rfl)
  all_goals first
    | omega
    | skip
theorem c23 (aa na ma : Nat) (ta va ga wa xa : NI) (hp : aa + na ≤ ma ∧ na ≤ 1000000) : CallR Try.prog 23 [.loose ⟨0, 5, aa, 0⟩ na] [[(0, (false, .cols ma [.int .i64 ta, .int .i64 va, .int .i64 ga, .int .i64 wa, .int .i64 xa]))]] 1 (.own 2 5 na) [(2, (true, .cols na [.int .i64 (fun j => ta (j + aa)), .int .i64 (fun j => va (j + aa)), .int .i64 (fun j => ga (j + aa)), .int .i64 (fun j => wa (j + aa)), .int .i64 (fun j => xa (j + aa))])) :: [(0, (false, .cols ma [.int .i64 ta, .int .i64 va, .int .i64 ga, .int .i64 wa, .int .i64 xa]))]] 40 ∧ ∃ F, Try.prog.funcs[23]? = some F ∧ F.body.isSome = true ∧ (F.name == "runtime.NumGoroutine") = false :=
  ⟨loose_cases (fun h => (c23s aa na ma ta va ga wa xa hp h).1) (fun h b => by cases b; exact (c23y aa na ma ta va ga wa xa hp h).1; exact (c23z aa na ma ta va ga wa xa hp h).1), by
    rcases Nat.eq_zero_or_pos na with h | h
    · exact (c23y aa na ma ta va ga wa xa hp h).2
    · exact (c23s aa na ma ta va ga wa xa hp h).2⟩
theorem k23_ok  : k23.ok Try.prog := by
  intro x hx
  obtain ⟨⟨aa, na, ma, ta, va, ga, wa, xa, _⟩, _⟩ := x
  have hp : aa + na ≤ ma ∧ na ≤ 1000000 := of_decide_eq_true hx
  obtain ⟨h1, h2⟩ := c23 aa na ma ta va ga wa xa hp
  exact ⟨⟨40, (by decide : 1 + 1 + 1 ≤ 40), h1⟩, h2⟩
noncomputable def xL (test : Bool → Prop → Prop → Prop) : Ext := consX test [k12, k25, k26, k21, k23]
theorem xL_ok  : ExtOk Try.prog (xL cond) := consX_ok ⟨k12_ok, k25_ok, k26_ok, k21_ok, k23_ok, trivial⟩
theorem samL_self  {n : Nat} {a b c d e : Nat → Int} : S.samL n a b c d e n a b c d e = true := decide_eq_true rfl
noncomputable abbrev c6_e_0 (al nl : Nat) (tl vl gl wl xl : NI) (nb fr : Int) := Prod.fst (S.nxtS nl (fun j => tl (j + al)) (fun j => vl (j + al)) (fun j => gl (j + al)) (fun j => wl (j + al)) (fun j => xl (j + al)) nb fr) == Prod.fst (S.nxtS nl (fun j => tl (j + al)) (fun j => vl (j + al)) (fun j => gl (j + al)) (fun j => wl (j + al)) (fun j => xl (j + al)) nb fr) && (Prod.fst (Prod.snd (S.nxtS nl (fun j => tl (j + al)) (fun j => vl (j + al)) (fun j => gl (j + al)) (fun j => wl (j + al)) (fun j => xl (j + al)) nb fr)) == Prod.fst (Prod.snd (S.nxtS nl (fun j => tl (j + al)) (fun j => vl (j + al)) (fun j => gl (j + al)) (fun j => wl (j + al)) (fun j => xl (j + al)) nb fr)) && (Prod.fst (Prod.snd (Prod.snd (S.nxtS nl (fun j => tl (j + al)) (fun j => vl (j + al)) (fun j => gl (j + al)) (fun j => wl (j + al)) (fun j => xl (j + al)) nb fr))) == Prod.fst (Prod.snd (Prod.snd (S.nxtS nl (fun j => tl (j + al)) (fun j => vl (j + al)) (fun j => gl (j + al)) (fun j => wl (j + al)) (fun j => xl (j + al)) nb fr))) && (Prod.fst (Prod.snd (Prod.snd (Prod.snd (S.nxtS nl (fun j => tl (j + al)) (fun j => vl (j + al)) (fun j => gl (j + al)) (fun j => wl (j + al)) (fun j => xl (j + al)) nb fr)))) == Prod.fst (Prod.snd (Prod.snd (Prod.snd (S.nxtS nl (fun j => tl (j + al)) (fun j => vl (j + al)) (fun j => gl (j + al)) (fun j => wl (j + al)) (fun j => xl (j + al)) nb fr)))) && (Prod.fst (Prod.snd (Prod.snd (Prod.snd (Prod.snd (S.nxtS nl (fun j => tl (j + al)) (fun j => vl (j + al)) (fun j => gl (j + al)) (fun j => wl (j + al)) (fun j => xl (j + al)) nb fr))))) == Prod.fst (Prod.snd (Prod.snd (Prod.snd (Prod.snd (S.nxtS nl (fun j => tl (j + al)) (fun j => vl (j + al)) (fun j => gl (j + al)) (fun j => wl (j + al)) (fun j => xl (j + al)) nb fr))))) && true))))
noncomputable abbrev c6_e_1 (al nl : Nat) (tl vl gl wl xl : NI) (nb fr : Int) := Prod.snd (Prod.snd (Prod.snd (Prod.snd (Prod.snd (S.nxtS nl (fun j => tl (j + al)) (fun j => vl (j + al)) (fun j => gl (j + al)) (fun j => wl (j + al)) (fun j => xl (j + al)) nb fr))))) == Prod.snd (Prod.snd (Prod.snd (Prod.snd (Prod.snd (S.nxtS nl (fun j => tl (j + al)) (fun j => vl (j + al)) (fun j => gl (j + al)) (fun j => wl (j + al)) (fun j => xl (j + al)) nb fr)))))
abbrev St6  := Empty
abbrev Rt6  := Bool
noncomputable def V6 (al nl ml : Nat) (tl vl gl wl xl : NI) (nb fr : Int) (r : Rt6) : PV := PV.bool r
noncomputable def N6 (al nl ml : Nat) (tl vl gl wl xl : NI) (nb fr : Int) (r : Rt6) : List Blk := []
noncomputable def I6 (al nl ml : Nat) (tl vl gl wl xl : NI) (nb fr : Int) : St6 → Hd := fun s => s.elim
noncomputable def q6 (al nl ml : Nat) (tl vl gl wl xl : NI) (nb fr : Int) : St6 → Option (St6 ⊕ Rt6) := fun s => s.elim
noncomputable def p6 (al nl ml : Nat) (tl vl gl wl xl : NI) (nb fr : Int) : Option (St6 ⊕ Rt6) := bif (decide ((↑nl : Int) > 60)) then (bif (decide ((↑nl : Int) ≤ 2000)) then (some (.inr (true))) else (bif (decide ((↑nl : Int) > 2010)) then (some (.inr (true))) else (bif (lim .i64 ((0 : Int) + (↑nl : Int))) then (bif (decide ((0 : Int) + (↑nl : Int) ≤ 4100)) then (bif (decide (al + nl ≤ ml ∧ nl ≤ 1000000)) then (bif (decide (0 + nl ≤ nl ∧ nl ≤ 1000000)) then (bif (c6_e_0 al nl tl vl gl wl xl nb fr) then (bif (c6_e_1 al nl tl vl gl wl xl nb fr) then (some (.inr (true))) else (some (.inr (false)))) else (some (.inr (false)))) else (none)) else (none)) else (some (.inr (true)))) else (none)))) else (bif (decide ((↑nl : Int) > 2010)) then (some (.inr (true))) else (bif (lim .i64 ((0 : Int) + (↑nl : Int))) then (bif (decide ((0 : Int) + (↑nl : Int) ≤ 4100)) then (bif (decide (al + nl ≤ ml ∧ nl ≤ 1000000)) then (bif (decide (0 + nl ≤ nl ∧ nl ≤ 1000000)) then (bif (c6_e_0 al nl tl vl gl wl xl nb fr) then (bif (c6_e_1 al nl tl vl gl wl xl nb fr) then (some (.inr (true))) else (some (.inr (false)))) else (some (.inr (false)))) else (none)) else (none)) else (some (.inr (true)))) else (none)))
noncomputable def Te6 (test : TT) (Kst : KS) (Kret : KR) (al nl ml : Nat) (tl vl gl wl xl : NI) (nb fr : Int) : Prop := test (true) (test (true) (test (true) (test (true) (test (decide ((↑nl : Int) > 60)) (test (decide ((↑nl : Int) ≤ 2000)) (test (true) (test (true) (Kret (PV.tf true) ([[(0, false, Blk.cols ml [Col.int .i64 tl, Col.int .i64 vl, Col.int .i64 gl, Col.int .i64 wl, Col.int .i64 xl])]]) (4)) (Kret (PV.tf false) ([[(0, false, Blk.cols ml [Col.int .i64 tl, Col.int .i64 vl, Col.int .i64 gl, Col.int .i64 wl, Col.int .i64 xl])]]) (4))) (False)) (test (decide ((↑nl : Int) > 2010)) (test (true) (test (true) (Kret (PV.tf true) ([[(0, false, Blk.cols ml [Col.int .i64 tl, Col.int .i64 vl, Col.int .i64 gl, Col.int .i64 wl, Col.int .i64 xl])]]) (4)) (Kret (PV.tf false) ([[(0, false, Blk.cols ml [Col.int .i64 tl, Col.int .i64 vl, Col.int .i64 gl, Col.int .i64 wl, Col.int .i64 xl])]]) (4))) (False)) (test (lim .i64 ((0 : Int) + (↑nl : Int))) (test (true) (test (false) (test (false) (False) (False)) (test (true) (test (decide ((0 : Int) + (↑nl : Int) ≤ 4100)) (test (decide (al + nl ≤ ml ∧ nl ≤ 1000000)) (test (decide (0 + nl ≤ nl ∧ nl ≤ 1000000)) (test (decide (al + nl ≤ ml ∧ nl ≤ 1000000)) (test (c6_e_0 al nl tl vl gl wl xl nb fr) (test (c6_e_1 al nl tl vl gl wl xl nb fr) (Kret (PV.tf true) ([[(0, false, Blk.cols ml [Col.int .i64 tl, Col.int .i64 vl, Col.int .i64 gl, Col.int .i64 wl, Col.int .i64 xl])]]) (9)) (Kret (PV.tf false) ([[(0, false, Blk.cols ml [Col.int .i64 tl, Col.int .i64 vl, Col.int .i64 gl, Col.int .i64 wl, Col.int .i64 xl])]]) (9))) (Kret (PV.tf false) ([[(0, false, Blk.cols ml [Col.int .i64 tl, Col.int .i64 vl, Col.int .i64 gl, Col.int .i64 wl, Col.int .i64 xl])]]) (9))) (False)) (False)) (False)) (test (true) (test (true) (Kret (PV.tf true) ([[(0, false, Blk.cols ml [Col.int .i64 tl, Col.int .i64 vl, Col.int .i64 gl, Col.int .i64 wl, Col.int .i64 xl])]]) (4)) (Kret (PV.tf false) ([[(0, false, Blk.cols ml [Col.int .i64 tl, Col.int .i64 vl, Col.int .i64 gl, Col.int .i64 wl, Col.int .i64 xl])]]) (4))) (False))) (test (true) (test (true) (Kret (PV.tf true) ([[(0, false, Blk.cols ml [Col.int .i64 tl, Col.int .i64 vl, Col.int .i64 gl, Col.int .i64 wl, Col.int .i64 xl])]]) (4)) (Kret (PV.tf false) ([[(0, false, Blk.cols ml [Col.int .i64 tl, Col.int .i64 vl, Col.int .i64 gl, Col.int .i64 wl, Col.int .i64 xl])]]) (4))) (False)))) (False)) (False)))) (test (decide ((↑nl : Int) > 2010)) (test (true) (test (true) (Kret (PV.tf true) ([[(0, false, Blk.cols ml [Col.int .i64 tl, Col.int .i64 vl, Col.int .i64 gl, Col.int .i64 wl, Col.int .i64 xl])]]) (4)) (Kret (PV.tf false) ([[(0, false, Blk.cols ml [Col.int .i64 tl, Col.int .i64 vl, Col.int .i64 gl, Col.int .i64 wl, Col.int .i64 xl])]]) (4))) (False)) (test (lim .i64 ((0 : Int) + (↑nl : Int))) (test (true) (test (false) (test (false) (False) (False)) (test (true) (test (decide ((0 : Int) + (↑nl : Int) ≤ 4100)) (test (decide (al + nl ≤ ml ∧ nl ≤ 1000000)) (test (decide (0 + nl ≤ nl ∧ nl ≤ 1000000)) (test (decide (al + nl ≤ ml ∧ nl ≤ 1000000)) (test (c6_e_0 al nl tl vl gl wl xl nb fr) (test (c6_e_1 al nl tl vl gl wl xl nb fr) (Kret (PV.tf true) ([[(0, false, Blk.cols ml [Col.int .i64 tl, Col.int .i64 vl, Col.int .i64 gl, Col.int .i64 wl, Col.int .i64 xl])]]) (9)) (Kret (PV.tf false) ([[(0, false, Blk.cols ml [Col.int .i64 tl, Col.int .i64 vl, Col.int .i64 gl, Col.int .i64 wl, Col.int .i64 xl])]]) (9))) (Kret (PV.tf false) ([[(0, false, Blk.cols ml [Col.int .i64 tl, Col.int .i64 vl, Col.int .i64 gl, Col.int .i64 wl, Col.int .i64 xl])]]) (9))) (False)) (False)) (False)) (test (true) (test (true) (Kret (PV.tf true) ([[(0, false, Blk.cols ml [Col.int .i64 tl, Col.int .i64 vl, Col.int .i64 gl, Col.int .i64 wl, Col.int .i64 xl])]]) (4)) (Kret (PV.tf false) ([[(0, false, Blk.cols ml [Col.int .i64 tl, Col.int .i64 vl, Col.int .i64 gl, Col.int .i64 wl, Col.int .i64 xl])]]) (4))) (False))) (test (true) (test (true) (Kret (PV.tf true) ([[(0, false, Blk.cols ml [Col.int .i64 tl, Col.int .i64 vl, Col.int .i64 gl, Col.int .i64 wl, Col.int .i64 xl])]]) (4)) (Kret (PV.tf false) ([[(0, false, Blk.cols ml [Col.int .i64 tl, Col.int .i64 vl, Col.int .i64 gl, Col.int .i64 wl, Col.int .i64 xl])]]) (4))) (False)))) (False)) (False)))) (False)) (test (true) (test (true) (test (decide (al + nl ≤ ml ∧ nl ≤ 1000000)) (test (decide (0 + nl ≤ nl ∧ nl ≤ 1000000)) (test (decide (al + nl ≤ ml ∧ nl ≤ 1000000)) (test (c6_e_0 al nl tl vl gl wl xl nb fr) (test (c6_e_1 al nl tl vl gl wl xl nb fr) (Kret (PV.tf true) ([[(0, false, Blk.cols ml [Col.int .i64 tl, Col.int .i64 vl, Col.int .i64 gl, Col.int .i64 wl, Col.int .i64 xl])]]) (9)) (Kret (PV.tf false) ([[(0, false, Blk.cols ml [Col.int .i64 tl, Col.int .i64 vl, Col.int .i64 gl, Col.int .i64 wl, Col.int .i64 xl])]]) (9))) (Kret (PV.tf false) ([[(0, false, Blk.cols ml [Col.int .i64 tl, Col.int .i64 vl, Col.int .i64 gl, Col.int .i64 wl, Col.int .i64 xl])]]) (9))) (False)) (False)) (False)) (test (true) (test (true) (Kret (PV.tf true) ([[(0, false, Blk.cols ml [Col.int .i64 tl, Col.int .i64 vl, Col.int .i64 gl, Col.int .i64 wl, Col.int .i64 xl])]]) (4)) (Kret (PV.tf false) ([[(0, false, Blk.cols ml [Col.int .i64 tl, Col.int .i64 vl, Col.int .i64 gl, Col.int .i64 wl, Col.int .i64 xl])]]) (4))) (False))) (test (true) (test (true) (Kret (PV.tf true) ([[(0, false, Blk.cols ml [Col.int .i64 tl, Col.int .i64 vl, Col.int .i64 gl, Col.int .i64 wl, Col.int .i64 xl])]]) (4)) (Kret (PV.tf false) ([[(0, false, Blk.cols ml [Col.int .i64 tl, Col.int .i64 vl, Col.int .i64 gl, Col.int .i64 wl, Col.int .i64 xl])]]) (4))) (False)))) (test (true) (test (true) (Kret (PV.tf true) ([[(0, false, Blk.cols ml [Col.int .i64 tl, Col.int .i64 vl, Col.int .i64 gl, Col.int .i64 wl, Col.int .i64 xl])]]) (3)) (Kret (PV.tf false) ([[(0, false, Blk.cols ml [Col.int .i64 tl, Col.int .i64 vl, Col.int .i64 gl, Col.int .i64 wl, Col.int .i64 xl])]]) (3))) (False))) (False)
theorem te6 (test : TT) (Kst : KS) (Kret : KR) (al nl ml : Nat) (tl vl gl wl xl : NI) (nb fr : Int) : run test Try.env true (xL test) true 400 ⟨6, [.cd (mkFn Try.f6).body], argT 0 [.loose ⟨0, 5, al, 0⟩ nl, .int .i64 nb, .int .i64 fr], [[], [(0, (false, .cols ml [.int .i64 tl, .int .i64 vl, .int .i64 gl, .int .i64 wl, .int .i64 xl]))]], 1⟩ (proj 1 [] Kst Kret) =
  Te6 test Kst Kret al nl ml tl vl gl wl xl nb fr := by kernel_rfl
noncomputable abbrev J6 (al nl ml : Nat) (tl : NI) (vl : NI) (gl : NI) (wl : NI) (xl : NI) (nb : Int) (fr : Int) : Rt6 → Heap := fun r => [newL (1 + 1) ((N6 al nl ml tl vl gl wl xl nb fr) r) ++ [(0, (false, .cols ml [.int .i64 tl, .int .i64 vl, .int .i64 gl, .int .i64 wl, .int .i64 xl]))]]
attribute [local irreducible] Int.subNatNat in
theorem be6 (al nl ml : Nat) (tl vl gl wl xl : NI) (nb fr : Int) (Kst : KS) (Kret : KR) (x : St6 ⊕ Rt6) (hS : HS 1 400 ((I6 al nl ml tl vl gl wl xl nb fr)) Kst x) (hR : HR 1 400 ((V6 al nl ml tl vl gl wl xl nb fr)) (J6 al nl ml tl vl gl wl xl nb fr) Kret x) (h : p6 al nl ml tl vl gl wl xl nb fr = some x) : Te6 cond Kst Kret al nl ml tl vl gl wl xl nb fr := by
  unfold Te6
  unfold p6 at h
  exact cond_yes rfl (cond_yes rfl (cond_yes rfl (cond_yes rfl (bif_split h (fun c0 h => bif_split h (fun c1 h => cond_yes rfl (cond_yes rfl (ret_at hR _ h (fun n => n) rfl rfl rfl (rn_bool_tf rfl) rfl (entl_bor (use_lo rfl) rfl rfl entl_nil)))) (fun c1 h => bif_split h (fun c2 h => cond_yes rfl (cond_yes rfl (ret_at hR _ h (fun n => n) rfl rfl rfl (rn_bool_tf rfl) rfl (entl_bor (use_lo rfl) rfl rfl entl_nil)))) (fun c2 h => bif_split h (fun c3 h => cond_yes rfl (cond_no rfl (cond_yes rfl (bif_split h (fun c4 h => bif_split h (fun c5 h => bif_split h (fun c6 h => cond_yes c5 (bif_split h (fun c7 h => bif_split h (fun c8 h => ret_at hR _ h (fun n => n) rfl rfl rfl (rn_bool_tf rfl) rfl (entl_bor (use_lo rfl) rfl rfl entl_nil)) (fun c8 h => ret_at hR _ h (fun n => n) rfl rfl rfl (rn_bool_tf rfl) rfl (entl_bor (use_lo rfl) rfl rfl entl_nil))) (fun c7 h => ret_at hR _ h (fun n => n) rfl rfl rfl (rn_bool_tf rfl) rfl (entl_bor (use_lo rfl) rfl rfl entl_nil)))) (fun c6 h => no_some h)) (fun c5 h => no_some h)) (fun c4 h => cond_yes rfl (cond_yes rfl (ret_at hR _ h (fun n => n) rfl rfl rfl (rn_bool_tf rfl) rfl (entl_bor (use_lo rfl) rfl rfl entl_nil)))))))) (fun c3 h => no_some h)))) (fun c0 h => bif_split h (fun c1 h => cond_yes rfl (cond_yes rfl (ret_at hR _ h (fun n => n) rfl rfl rfl (rn_bool_tf rfl) rfl (entl_bor (use_lo rfl) rfl rfl entl_nil)))) (fun c1 h => bif_split h (fun c2 h => cond_yes rfl (cond_no rfl (cond_yes rfl (bif_split h (fun c3 h => bif_split h (fun c4 h => bif_split h (fun c5 h => cond_yes c4 (bif_split h (fun c6 h => bif_split h (fun c7 h => ret_at hR _ h (fun n => n) rfl rfl rfl (rn_bool_tf rfl) rfl (entl_bor (use_lo rfl) rfl rfl entl_nil)) (fun c7 h => ret_at hR _ h (fun n => n) rfl rfl rfl (rn_bool_tf rfl) rfl (entl_bor (use_lo rfl) rfl rfl entl_nil))) (fun c6 h => ret_at hR _ h (fun n => n) rfl rfl rfl (rn_bool_tf rfl) rfl (entl_bor (use_lo rfl) rfl rfl entl_nil)))) (fun c5 h => no_some h)) (fun c4 h => no_some h)) (fun c3 h => cond_yes rfl (cond_yes rfl (ret_at hR _ h (fun n => n) rfl rfl rfl (rn_bool_tf rfl) rfl (entl_bor (use_lo rfl) rfl rfl entl_nil)))))))) (fun c2 h => no_some h)))))))
theorem a6 (al nl ml : Nat) (tl vl gl wl xl : NI) (nb fr : Int) {r : Rt6} (h : Goes ((q6 al nl ml tl vl gl wl xl nb fr)) ((p6 al nl ml tl vl gl wl xl nb fr)) r) : CallR Try.prog 6 [.loose ⟨0, 5, al, 0⟩ nl, .int .i64 nb, .int .i64 fr] [[(0, (false, .cols ml [.int .i64 tl, .int .i64 vl, .int .i64 gl, .int .i64 wl, .int .i64 xl]))]] 1 ((V6 al nl ml tl vl gl wl xl nb fr) r) ((J6 al nl ml tl vl gl wl xl nb fr) r) 400 ∧ ∃ F, Try.prog.funcs[6]? = some F ∧ F.body.isSome = true ∧ (F.name == "runtime.NumGoroutine") = false := by
  refine dec_calls (f := 6) (lo := 1) (hi := 400) Try.envOk Try.mixed xL_ok ((I6 al nl ml tl vl gl wl xl nb fr)) ((V6 al nl ml tl vl gl wl xl nb fr)) (J6 al nl ml tl vl gl wl xl nb fr) (fn := mkFn Try.f6) (ts := []) (n := 400) rfl (by decide) (by simp) (names_of rfl) ?_ ?_ ?_ h
  · intro s; exact s.elim
  · intro Kst Kret x hS hR h
    exact Holds.eq (te6 cond Kst Kret al nl ml tl vl gl wl xl nb fr) (be6 al nl ml tl vl gl wl xl nb fr Kst Kret x hS hR h)
  · intro Kst Kret x hS hR s h; exact s.elim
noncomputable abbrev w6 {α : Type} (g : Nat → Nat → Nat → (Nat → Int) → (Nat → Int) → (Nat → Int) → (Nat → Int) → (Nat → Int) → Int → Int → α) (x : (Nat × Nat × Nat × (Nat → Int) × (Nat → Int) × (Nat → Int) × (Nat → Int) × (Nat → Int) × Unit) × Int × Int × Unit) : α := g x.1.1 x.1.2.1 x.1.2.2.1 x.1.2.2.2.1 x.1.2.2.2.2.1 x.1.2.2.2.2.2.1 x.1.2.2.2.2.2.2.1 x.1.2.2.2.2.2.2.2.1 x.2.1 x.2.2.1
noncomputable def k6  : Con := ⟨6, [.one (.list [.int .i64, .int .i64, .int .i64, .int .i64, .int .i64]), .one (.plain (.int .i64)), .one (.plain (.int .i64))], w6 (fun al nl ml tl vl gl wl xl nb fr => decide (al + nl ≤ ml)), w6 (fun al nl ml tl vl gl wl xl nb fr => (V6 al nl ml tl vl gl wl xl nb fr) (true)), w6 (fun al nl ml tl vl gl wl xl nb fr => (N6 al nl ml tl vl gl wl xl nb fr) (true)), fun _ _ => .dead⟩
theorem s6 (al nl ml : Nat) (tl vl gl wl xl : Nat → Int) (nb fr : Int) (hp : al + nl ≤ ml) : Goes ((q6 al nl ml tl vl gl wl xl nb fr)) ((p6 al nl ml tl vl gl wl xl nb fr)) (true) := by
  unfold p6
  simp only [c6_e_0, c6_e_1]
  generalize S.nxtS nl (fun j => tl (j + al)) (fun j => vl (j + al)) (fun j => gl (j + al)) (fun j => wl (j + al)) (fun j => xl (j + al)) nb fr = A at *
  repeat' (first | with_reducible refine goes_if (fun h => ?_) (fun h => ?_) <;> (try simp only [SH] at h) | exact goes_none.mpr (by omega))
  all_goals first
    | exact goes_inr.mpr rfl
    | (exfalso; omega)
    | (exfalso; simp only [samL_self, beq_self_eq_true, Bool.and_self, Bool.true_eq_false, ne_eq, not_true_eq_false] at *; done)
    | (exfalso; simp_all [samL_self]; done)
theorem k6_ok  : k6.ok Try.prog := by
  intro x hx
  obtain ⟨⟨al, nl, ml, tl, vl, gl, wl, xl, _⟩, nb, fr, _⟩ := x
  obtain ⟨h1, h2⟩ := a6 al nl ml tl vl gl wl xl nb fr (s6 al nl ml tl vl gl wl xl nb fr (of_dec hx rfl))
  exact ⟨⟨400, (by decide : 1 + 1 + 0 ≤ 400), h1⟩, h2⟩
theorem pre6  {x : SsI k6.ss} (hx : ssFits k6.ss x) : k6.pre (ssj k6.ss x) = true := by
  obtain ⟨⟨n, t0, t1, t2, t3, t4, u'⟩, c0, c1, u''⟩ := x
  exact decide_eq_true (Nat.le_of_eq (Nat.zero_add _))
end Go.Ev
