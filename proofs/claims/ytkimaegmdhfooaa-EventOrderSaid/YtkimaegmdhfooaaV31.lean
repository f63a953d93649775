/-
  The parts that the statement needs, 1 of 1.
-/
import Derived.Test.YtkimaegmdhfooaaEnv
import Derived.Test.YtkimaegmdhfooaaEvY
import Derived.Test.YtkimaegmdhfooaaKit
namespace Go.Ev
open Go.Proofs
set_option linter.unusedVariables false
set_option linter.unusedSimpArgs false
set_option maxRecDepth 100000
theorem SH : type_of% (And.intro @lim64 (And.intro @imp_false (And.intro @decide_eq_true_eq (And.intro @decide_eq_false_iff_not (And.intro @Int.toNat_natCast (And.intro @toNat_pred (And.intro @toNat_succ (And.intro @Option.getD_some.{0} (And.intro @Option.getD_none.{0} (And.intro @Bool.not_eq_true' (And.intro @Bool.not_eq_false' (And.intro @Bool.and_eq_true (And.intro @Bool.or_eq_true (And.intro @Bool.and_eq_false_iff (And.intro @Bool.or_eq_false_iff (And.intro @bne_iff_ne.{0} (And.intro @beq_iff_eq.{0} (And.intro @bne_eq_false_iff_eq.{0} (And.intro @beq_eq_false_iff_ne.{0} (And.intro @ne_eq.{1} (And.intro @not_and (And.intro @Int.not_le (And.intro @Int.not_lt (And.intro @ge_iff_le.{0} (And.intro @gt_iff_lt.{0} (And.intro @Nat.not_lt (And.intro @Nat.not_le (And.intro @Bool.not_eq_true (And.intro @Bool.not_eq_false (And.intro @Bool.true_eq_false (And.intro @Bool.false_eq_true (And.intro @not_false_eq_true @not_true_eq_false)))))))))))))))))))))))))))))))) :=
  (And.intro @lim64 (And.intro @imp_false (And.intro @decide_eq_true_eq (And.intro @decide_eq_false_iff_not (And.intro @Int.toNat_natCast (And.intro @toNat_pred (And.intro @toNat_succ (And.intro @Option.getD_some.{0} (And.intro @Option.getD_none.{0} (And.intro @Bool.not_eq_true' (And.intro @Bool.not_eq_false' (And.intro @Bool.and_eq_true (And.intro @Bool.or_eq_true (And.intro @Bool.and_eq_false_iff (And.intro @Bool.or_eq_false_iff (And.intro @bne_iff_ne.{0} (And.intro @beq_iff_eq.{0} (And.intro @bne_eq_false_iff_eq.{0} (And.intro @beq_eq_false_iff_ne.{0} (And.intro @ne_eq.{1} (And.intro @not_and (And.intro @Int.not_le (And.intro @Int.not_lt (And.intro @ge_iff_le.{0} (And.intro @gt_iff_lt.{0} (And.intro @Nat.not_lt (And.intro @Nat.not_le (And.intro @Bool.not_eq_true (And.intro @Bool.not_eq_false (And.intro @Bool.true_eq_false (And.intro @Bool.false_eq_true (And.intro @not_false_eq_true @not_true_eq_false))))))))))))))))))))))))))))))))
abbrev TT := Bool → Prop → Prop → Prop
abbrev NI := Nat → Int
namespace S
def any (p : Nat → Bool) (n : Nat) : Bool := (List.range n).any p
end S
namespace S
def evB (a n c s p : Int) : Bool := decide ((0 ≤ a ∧ a ≤ 1099511627776) ∧ (1 ≤ n ∧ n ≤ 999) ∧ (0 ≤ c ∧ c ≤ 1048576) ∧ (0 ≤ s ∧ s ≤ 99) ∧ -1099511627776 ≤ p ∧ p ≤ 1099511627776)
def evE (a n c s p : Int) : Int := if evB a n c s p = true then 0 else 6
def cmpN (a b : Int) : Int := if a < b then -1 else if a > b then 1 else 0
def or0 (a b : Int) : Int := if a = 0 then b else a
def ecmp (a n c s p a' n' c' s' p' : Int) : Int := or0 (cmpN a a') (or0 (cmpN s s') (or0 (cmpN n n') (or0 (cmpN c c') (cmpN p p'))))
end S
abbrev St40  := Empty
abbrev Rt40  := Int
noncomputable def V40 (u v : Int) (r : Rt40) : PV := PV.int .i64 r
noncomputable def N40 (u v : Int) (r : Rt40) : List Blk := []
noncomputable def I40 (u v : Int) : St40 → Hd := fun s => s.elim
noncomputable def q40 (u v : Int) : St40 → Option (St40 ⊕ Rt40) := fun s => s.elim
noncomputable def p40 (u v : Int) : Option (St40 ⊕ Rt40) := bif (u != u) then (bif (v != v) then (some (.inr ((0 : Int)))) else (some (.inr ((-1 : Int))))) else (bif (v != v) then (some (.inr ((1 : Int)))) else (bif (decide (u < v)) then (some (.inr ((-1 : Int)))) else (bif (decide (u > v)) then (some (.inr ((1 : Int)))) else (some (.inr ((0 : Int)))))))
noncomputable def Te40 (test : TT) (Kst : KS) (Kret : KR) (u v : Int) : Prop := test (u != u) (test (v != v) (Kret (PV.int .i64 (0 : Int)) ([[]]) (0)) (Kret (PV.int .i64 (-1 : Int)) ([[]]) (0))) (test (v != v) (Kret (PV.int .i64 (1 : Int)) ([[]]) (0)) (test (decide (u < v)) (Kret (PV.int .i64 (-1 : Int)) ([[]]) (0)) (test (decide (u > v)) (Kret (PV.int .i64 (1 : Int)) ([[]]) (0)) (Kret (PV.int .i64 (0 : Int)) ([[]]) (0)))))
theorem te40 (test : TT) (Kst : KS) (Kret : KR) (u v : Int) : run test Try.env true noX true 400 ⟨40, [.cd (mkFn Try.f40).body], argT 0 [.int .i64 u, .int .i64 v], [[], []], 0⟩ (proj 0 [] Kst Kret) =
  Te40 test Kst Kret u v := by kernel_rfl
attribute [local irreducible] Int.subNatNat in
theorem be40 (u v : Int) (Kst : KS) (Kret : KR) (x : St40 ⊕ Rt40) (hS : HS 0 400 ((I40 u v)) Kst x) (hR : HR 0 400 ((V40 u v)) (fun r => [newL (0 + 1) ((N40 u v) r) ++ []]) Kret x) (h : p40 u v = some x) : Te40 cond Kst Kret u v := by
  unfold Te40
  unfold p40 at h
  refine bif_split h (fun c0 h => bif_split h (fun c1 h => ?_) (fun c1 h => ?_)) (fun c0 h => bif_split h (fun c1 h => ?_) (fun c1 h => bif_split h (fun c2 h => ?_) (fun c2 h => bif_split h (fun c3 h => ?_) (fun c3 h => ?_))))
  all_goals first
    | exact ret_at hR _ h (fun n => n) rfl rfl rfl (rn_int rfl) rfl entl_nil
theorem a40 (u v : Int) {r : Rt40} (h : Goes ((q40 u v)) ((p40 u v)) r) : CallR Try.prog 40 [.int .i64 u, .int .i64 v] [[]] 0 ((V40 u v) r) ((fun r => [newL (0 + 1) ((N40 u v) r) ++ []]) r) 400 ∧ ∃ F, Try.prog.funcs[40]? = some F ∧ F.body.isSome = true ∧ (F.name == "runtime.NumGoroutine") = false := by
  refine dec_calls (f := 40) (lo := 0) (hi := 400) Try.envOk Try.mixed noX_ok ((I40 u v)) ((V40 u v)) (fun r => [newL (0 + 1) ((N40 u v) r) ++ []]) (fn := mkFn Try.f40) (ts := []) (n := 400) rfl (by decide) (by simp) (names_of rfl) ?_ ?_ ?_ h
  · intro s; exact s.elim
  · intro Kst Kret x hS hR h
    exact Holds.eq (te40 cond Kst Kret u v) (be40 u v Kst Kret x hS hR h)
  · intro Kst Kret x hS hR s h; exact s.elim
noncomputable abbrev w40 {α : Type} (g : Int → Int → α) (x : Int × Int × Unit) : α := g x.1 x.2.1
noncomputable def k40  : Con := ⟨40, [.one (.plain (.int .i64)), .one (.plain (.int .i64))], w40 (fun u v => decide (True)), w40 (fun u v => (V40 u v) (S.cmpN u v)), w40 (fun u v => (N40 u v) (S.cmpN u v)), fun _ _ => .dead⟩
theorem s40 (u v : Int) (hp : True) : Goes ((q40 u v)) ((p40 u v)) (S.cmpN u v) := by
  unfold S.cmpN
  show Goes _ _ _
  unfold p40
  repeat' (first | with_reducible refine goes_if (fun h => ?_) (fun h => ?_) <;> (try simp only [SH] at h) | exact goes_none.mpr (by omega))
  all_goals first
    | (exfalso; omega)
    | (refine goes_inr.mpr ?_; (repeat' split) <;> first | rfl | (exfalso; omega))
theorem k40_ok  : k40.ok Try.prog := by
  intro x hx
  obtain ⟨u, v, _⟩ := x
  obtain ⟨h1, h2⟩ := a40 u v (s40 u v (of_dec hx rfl))
  exact ⟨⟨400, (by decide : 0 + 1 + 0 ≤ 400), h1⟩, h2⟩
abbrev St14  := Empty
abbrev Rt14  := Int
noncomputable def V14 (ta tn tc ts tp : Int) (r : Rt14) : PV := PV.int .i64 r
noncomputable def N14 (ta tn tc ts tp : Int) (r : Rt14) : List Blk := []
noncomputable def I14 (ta tn tc ts tp : Int) : St14 → Hd := fun s => s.elim
noncomputable def q14 (ta tn tc ts tp : Int) : St14 → Option (St14 ⊕ Rt14) := fun s => s.elim
noncomputable def p14 (ta tn tc ts tp : Int) : Option (St14 ⊕ Rt14) := bif (decide (ta ≥ 0)) then (bif (decide (ta ≤ 1099511627776)) then (bif (decide (tn ≥ 1)) then (bif (decide (tn ≤ 999)) then (bif (decide (tc ≥ 0)) then (bif (decide (tc ≤ 1048576)) then (bif (decide (ts ≥ 0)) then (bif (decide (ts ≤ 99)) then (bif (decide (tp ≥ -1099511627776)) then (bif (decide (tp ≤ 1099511627776)) then (some (.inr ((0 : Int)))) else (some (.inr ((6 : Int))))) else (some (.inr ((6 : Int))))) else (some (.inr ((6 : Int))))) else (some (.inr ((6 : Int))))) else (some (.inr ((6 : Int))))) else (some (.inr ((6 : Int))))) else (some (.inr ((6 : Int))))) else (some (.inr ((6 : Int))))) else (some (.inr ((6 : Int))))) else (some (.inr ((6 : Int))))
noncomputable def Te14 (test : TT) (Kst : KS) (Kret : KR) (ta tn tc ts tp : Int) : Prop := test (decide (ta ≥ 0)) (test (decide (ta ≤ 1099511627776)) (test (decide (tn ≥ 1)) (test (decide (tn ≤ 999)) (test (decide (tc ≥ 0)) (test (decide (tc ≤ 1048576)) (test (decide (ts ≥ 0)) (test (decide (ts ≤ 99)) (test (decide (tp ≥ -1099511627776)) (test (decide (tp ≤ 1099511627776)) (Kret (PV.int .i64 (0 : Int)) ([[]]) (1)) (Kret (PV.int .i64 (6 : Int)) ([[]]) (1))) (Kret (PV.int .i64 (6 : Int)) ([[]]) (1))) (Kret (PV.int .i64 (6 : Int)) ([[]]) (1))) (Kret (PV.int .i64 (6 : Int)) ([[]]) (1))) (Kret (PV.int .i64 (6 : Int)) ([[]]) (1))) (Kret (PV.int .i64 (6 : Int)) ([[]]) (1))) (Kret (PV.int .i64 (6 : Int)) ([[]]) (1))) (Kret (PV.int .i64 (6 : Int)) ([[]]) (1))) (Kret (PV.int .i64 (6 : Int)) ([[]]) (1))) (Kret (PV.int .i64 (6 : Int)) ([[]]) (1))
theorem te14 (test : TT) (Kst : KS) (Kret : KR) (ta tn tc ts tp : Int) : run test Try.env true noX true 400 ⟨14, [.cd (mkFn Try.f14).body], argT 0 [.agg [.int .i64 ta, .int .i64 tn, .int .i64 tc, .int .i64 ts, .int .i64 tp]], [[], []], 0⟩ (proj 0 [] Kst Kret) =
  Te14 test Kst Kret ta tn tc ts tp := by kernel_rfl
attribute [local irreducible] Int.subNatNat in
theorem be14 (ta tn tc ts tp : Int) (Kst : KS) (Kret : KR) (x : St14 ⊕ Rt14) (hS : HS 0 400 ((I14 ta tn tc ts tp)) Kst x) (hR : HR 0 400 ((V14 ta tn tc ts tp)) (fun r => [newL (0 + 1) ((N14 ta tn tc ts tp) r) ++ []]) Kret x) (h : p14 ta tn tc ts tp = some x) : Te14 cond Kst Kret ta tn tc ts tp := by
  unfold Te14
  unfold p14 at h
  refine bif_split h (fun c0 h => bif_split h (fun c1 h => bif_split h (fun c2 h => bif_split h (fun c3 h => bif_split h (fun c4 h => bif_split h (fun c5 h => bif_split h (fun c6 h => bif_split h (fun c7 h => bif_split h (fun c8 h => bif_split h (fun c9 h => ?_) (fun c9 h => ?_)) (fun c8 h => ?_)) (fun c7 h => ?_)) (fun c6 h => ?_)) (fun c5 h => ?_)) (fun c4 h => ?_)) (fun c3 h => ?_)) (fun c2 h => ?_)) (fun c1 h => ?_)) (fun c0 h => ?_)
  all_goals first
    | exact ret_at hR _ h (fun n => n) rfl rfl rfl (rn_int rfl) rfl entl_nil
theorem a14 (ta tn tc ts tp : Int) {r : Rt14} (h : Goes ((q14 ta tn tc ts tp)) ((p14 ta tn tc ts tp)) r) : CallR Try.prog 14 [.agg [.int .i64 ta, .int .i64 tn, .int .i64 tc, .int .i64 ts, .int .i64 tp]] [[]] 0 ((V14 ta tn tc ts tp) r) ((fun r => [newL (0 + 1) ((N14 ta tn tc ts tp) r) ++ []]) r) 400 ∧ ∃ F, Try.prog.funcs[14]? = some F ∧ F.body.isSome = true ∧ (F.name == "runtime.NumGoroutine") = false := by
  refine dec_calls (f := 14) (lo := 0) (hi := 400) Try.envOk Try.mixed noX_ok ((I14 ta tn tc ts tp)) ((V14 ta tn tc ts tp)) (fun r => [newL (0 + 1) ((N14 ta tn tc ts tp) r) ++ []]) (fn := mkFn Try.f14) (ts := []) (n := 400) rfl (by decide) (by simp) (names_of rfl) ?_ ?_ ?_ h
  · intro s; exact s.elim
  · intro Kst Kret x hS hR h
    exact Holds.eq (te14 cond Kst Kret ta tn tc ts tp) (be14 ta tn tc ts tp Kst Kret x hS hR h)
  · intro Kst Kret x hS hR s h; exact s.elim
noncomputable abbrev w14 {α : Type} (g : Int → Int → Int → Int → Int → α) (x : (Int × Int × Int × Int × Int × Unit) × Unit) : α := g x.1.1 x.1.2.1 x.1.2.2.1 x.1.2.2.2.1 x.1.2.2.2.2.1
noncomputable def k14  : Con := ⟨14, [.agg [.plain (.int .i64), .plain (.int .i64), .plain (.int .i64), .plain (.int .i64), .plain (.int .i64)]], w14 (fun ta tn tc ts tp => decide (True)), w14 (fun ta tn tc ts tp => (V14 ta tn tc ts tp) (S.evE ta tn tc ts tp)), w14 (fun ta tn tc ts tp => (N14 ta tn tc ts tp) (S.evE ta tn tc ts tp)), fun _ _ => .dead⟩
theorem s14 (ta tn tc ts tp : Int) (hp : True) : Goes ((q14 ta tn tc ts tp)) ((p14 ta tn tc ts tp)) (S.evE ta tn tc ts tp) := by
  unfold S.evE S.evB
  simp only [decide_eq_true_eq]
  show Goes _ _ _
  unfold p14
  repeat' (first | with_reducible refine goes_if (fun h => ?_) (fun h => ?_) <;> (try simp only [SH] at h) | exact goes_none.mpr (by omega))
  all_goals first
    | (exfalso; omega)
    | (rw [if_pos (by omega)]; exact goes_inr.mpr rfl)
    | (rw [if_neg (by omega)]; exact goes_inr.mpr rfl)
theorem k14_ok  : k14.ok Try.prog := by
  intro x hx
  obtain ⟨⟨ta, tn, tc, ts, tp, _⟩, _⟩ := x
  obtain ⟨h1, h2⟩ := a14 ta tn tc ts tp (s14 ta tn tc ts tp (of_dec hx rfl))
  exact ⟨⟨400, (by decide : 0 + 1 + 0 ≤ 400), h1⟩, h2⟩
abbrev St15  := Empty
abbrev Rt15  := Int
noncomputable def V15 (ta tn tc ts tp : Int) (r : Rt15) : PV := PV.int .i64 r
noncomputable def N15 (ta tn tc ts tp : Int) (r : Rt15) : List Blk := []
noncomputable def I15 (ta tn tc ts tp : Int) : St15 → Hd := fun s => s.elim
noncomputable def q15 (ta tn tc ts tp : Int) : St15 → Option (St15 ⊕ Rt15) := fun s => s.elim
noncomputable def p15 (ta tn tc ts tp : Int) : Option (St15 ⊕ Rt15) := bif (decide (ta ≥ 0)) then (bif (decide (ta ≤ 1099511627776)) then (bif (decide (tn ≥ 1)) then (bif (decide (tn ≤ 999)) then (bif (decide (tc ≥ 0)) then (bif (decide (tc ≤ 1048576)) then (bif (decide (ts ≥ 0)) then (bif (decide (ts ≤ 99)) then (bif (decide (tp ≥ -1099511627776)) then (bif (decide (tp ≤ 1099511627776)) then (some (.inr ((0 : Int)))) else (some (.inr ((6 : Int))))) else (some (.inr ((6 : Int))))) else (some (.inr ((6 : Int))))) else (some (.inr ((6 : Int))))) else (some (.inr ((6 : Int))))) else (some (.inr ((6 : Int))))) else (some (.inr ((6 : Int))))) else (some (.inr ((6 : Int))))) else (some (.inr ((6 : Int))))) else (some (.inr ((6 : Int))))
noncomputable def Te15 (test : TT) (Kst : KS) (Kret : KR) (ta tn tc ts tp : Int) : Prop := test (decide (ta ≥ 0)) (test (decide (ta ≤ 1099511627776)) (test (decide (tn ≥ 1)) (test (decide (tn ≤ 999)) (test (decide (tc ≥ 0)) (test (decide (tc ≤ 1048576)) (test (decide (ts ≥ 0)) (test (decide (ts ≤ 99)) (test (decide (tp ≥ -1099511627776)) (test (decide (tp ≤ 1099511627776)) (Kret (PV.int .i64 (0 : Int)) ([[]]) (1)) (Kret (PV.int .i64 (6 : Int)) ([[]]) (1))) (Kret (PV.int .i64 (6 : Int)) ([[]]) (1))) (Kret (PV.int .i64 (6 : Int)) ([[]]) (1))) (Kret (PV.int .i64 (6 : Int)) ([[]]) (1))) (Kret (PV.int .i64 (6 : Int)) ([[]]) (1))) (Kret (PV.int .i64 (6 : Int)) ([[]]) (1))) (Kret (PV.int .i64 (6 : Int)) ([[]]) (1))) (Kret (PV.int .i64 (6 : Int)) ([[]]) (1))) (Kret (PV.int .i64 (6 : Int)) ([[]]) (1))) (Kret (PV.int .i64 (6 : Int)) ([[]]) (1))
theorem te15 (test : TT) (Kst : KS) (Kret : KR) (ta tn tc ts tp : Int) : run test Try.env true noX true 400 ⟨15, [.cd (mkFn Try.f15).body], argT 0 [.agg [.int .i64 ta, .int .i64 tn, .int .i64 tc, .int .i64 ts, .int .i64 tp]], [[], []], 0⟩ (proj 0 [] Kst Kret) =
  Te15 test Kst Kret ta tn tc ts tp := by kernel_rfl
attribute [local irreducible] Int.subNatNat in
theorem be15 (ta tn tc ts tp : Int) (Kst : KS) (Kret : KR) (x : St15 ⊕ Rt15) (hS : HS 0 400 ((I15 ta tn tc ts tp)) Kst x) (hR : HR 0 400 ((V15 ta tn tc ts tp)) (fun r => [newL (0 + 1) ((N15 ta tn tc ts tp) r) ++ []]) Kret x) (h : p15 ta tn tc ts tp = some x) : Te15 cond Kst Kret ta tn tc ts tp := by
  unfold Te15
  unfold p15 at h
  refine bif_split h (fun c0 h => bif_split h (fun c1 h => bif_split h (fun c2 h => bif_split h (fun c3 h => bif_split h (fun c4 h => bif_split h (fun c5 h => bif_split h (fun c6 h => bif_split h (fun c7 h => bif_split h (fun c8 h => bif_split h (fun c9 h => ?_) (fun c9 h => ?_)) (fun c8 h => ?_)) (fun c7 h => ?_)) (fun c6 h => ?_)) (fun c5 h => ?_)) (fun c4 h => ?_)) (fun c3 h => ?_)) (fun c2 h => ?_)) (fun c1 h => ?_)) (fun c0 h => ?_)
  all_goals first
    | exact ret_at hR _ h (fun n => n) rfl rfl rfl (rn_int rfl) rfl entl_nil
theorem a15 (ta tn tc ts tp : Int) {r : Rt15} (h : Goes ((q15 ta tn tc ts tp)) ((p15 ta tn tc ts tp)) r) : CallR Try.prog 15 [.agg [.int .i64 ta, .int .i64 tn, .int .i64 tc, .int .i64 ts, .int .i64 tp]] [[]] 0 ((V15 ta tn tc ts tp) r) ((fun r => [newL (0 + 1) ((N15 ta tn tc ts tp) r) ++ []]) r) 400 ∧ ∃ F, Try.prog.funcs[15]? = some F ∧ F.body.isSome = true ∧ (F.name == "runtime.NumGoroutine") = false := by
  refine dec_calls (f := 15) (lo := 0) (hi := 400) Try.envOk Try.mixed noX_ok ((I15 ta tn tc ts tp)) ((V15 ta tn tc ts tp)) (fun r => [newL (0 + 1) ((N15 ta tn tc ts tp) r) ++ []]) (fn := mkFn Try.f15) (ts := []) (n := 400) rfl (by decide) (by simp) (names_of rfl) ?_ ?_ ?_ h
  · intro s; exact s.elim
  · intro Kst Kret x hS hR h
    exact Holds.eq (te15 cond Kst Kret ta tn tc ts tp) (be15 ta tn tc ts tp Kst Kret x hS hR h)
  · intro Kst Kret x hS hR s h; exact s.elim
noncomputable abbrev w15 {α : Type} (g : Int → Int → Int → Int → Int → α) (x : (Int × Int × Int × Int × Int × Unit) × Unit) : α := g x.1.1 x.1.2.1 x.1.2.2.1 x.1.2.2.2.1 x.1.2.2.2.2.1
noncomputable def k15  : Con := ⟨15, [.agg [.plain (.int .i64), .plain (.int .i64), .plain (.int .i64), .plain (.int .i64), .plain (.int .i64)]], w15 (fun ta tn tc ts tp => decide (True)), w15 (fun ta tn tc ts tp => (V15 ta tn tc ts tp) (S.evE ta tn tc ts tp)), w15 (fun ta tn tc ts tp => (N15 ta tn tc ts tp) (S.evE ta tn tc ts tp)), fun _ _ => .dead⟩
theorem s15 (ta tn tc ts tp : Int) (hp : True) : Goes ((q15 ta tn tc ts tp)) ((p15 ta tn tc ts tp)) (S.evE ta tn tc ts tp) := by
  unfold S.evE S.evB
  simp only [decide_eq_true_eq]
  show Goes _ _ _
  unfold p15
  repeat' (first | with_reducible refine goes_if (fun h => ?_) (fun h => ?_) <;> (try simp only [SH] at h) | exact goes_none.mpr (by omega))
  all_goals first
    | (exfalso; omega)
    | (rw [if_pos (by omega)]; exact goes_inr.mpr rfl)
    | (rw [if_neg (by omega)]; exact goes_inr.mpr rfl)
theorem k15_ok  : k15.ok Try.prog := by
  intro x hx
  obtain ⟨⟨ta, tn, tc, ts, tp, _⟩, _⟩ := x
  obtain ⟨h1, h2⟩ := a15 ta tn tc ts tp (s15 ta tn tc ts tp (of_dec hx rfl))
  exact ⟨⟨400, (by decide : 0 + 1 + 0 ≤ 400), h1⟩, h2⟩
noncomputable def xA0 (test : Bool → Prop → Prop → Prop) : Ext := consX test [k40, k14, k15]
theorem xA0_ok  : ExtOk Try.prog (xA0 cond) := consX_ok ⟨k40_ok, k14_ok, k15_ok, trivial⟩
section
variable {P : Program} {E : Env} (ok : EnvOk P E) (hm : P.follows .mixedOrders = true) {X : Ext} (hX : ExtOk P X)
include ok hm hX
theorem dec_free  {lo hi : Nat} {R : Type} {q : Empty → Option (Empty ⊕ R)} {p : Option (Empty ⊕ R)} {r : R} (I : Empty → Hd) (V : R → PV) (H1 : R → Heap) {f : FuncId} {fn : FnI} {args : List PV} {H : Heap} {n : Nat} (hf : nthFn E.fs f = some fn) (hl : lo ≤ hi) (hne : H ≠ []) (hN : Names H lo)
    (entry : ∀ Kst Kret x, HS lo hi I Kst x → HR lo hi V H1 Kret x → p = some x → Holds (run cond E true X false n ⟨f, [.cd fn.body], argT 0 args, [] :: H, lo⟩ (proj lo [] Kst Kret)))
    (h : Goes q p r) : CallR P f args H lo (V r) (H1 r) hi ∧ ∃ F, P.funcs[f]? = some F ∧ F.body.isSome = true ∧ (F.name == "runtime.NumGoroutine") = false := by
  cases hp : p with
  | none => rw [hp] at h; exact h.elim
  | some x =>
    rw [hp] at h
    cases x with
    | inl s => exact s.elim
    | inr r' =>
      cases h
      exact calls_free ok hm hX hf hl hne hN (entry (fun _ _ _ _ => False) _ (.inr _) (fun s => s.elim) (fun r hr v' H' fr' h => by cases hr; exact h) hp)
end
theorem cmpN_k (a b : Int) : (a < b ∧ S.cmpN a b = -1) ∨ (a = b ∧ S.cmpN a b = 0) ∨ (a > b ∧ S.cmpN a b = 1) := by
  unfold S.cmpN
  rcases Int.lt_trichotomy a b with h | h | h
  · left; exact ⟨h, if_pos h⟩
  · right; left; exact ⟨h, by rw [if_neg (by omega), if_neg (by omega)]⟩
  · right; right; exact ⟨h, by rw [if_neg (by omega), if_pos h]⟩
theorem or0_0  {x : Int} : S.or0 0 x = x := rfl
abbrev St13  := Empty
abbrev Rt13  := Int
noncomputable def V13 (ta tn tc ts tp ua un uc us up : Int) (r : Rt13) : PV := PV.int .i64 r
noncomputable def N13 (ta tn tc ts tp ua un uc us up : Int) (r : Rt13) : List Blk := []
noncomputable def I13 (ta tn tc ts tp ua un uc us up : Int) : St13 → Hd := fun s => s.elim
noncomputable def q13 (ta tn tc ts tp ua un uc us up : Int) : St13 → Option (St13 ⊕ Rt13) := fun s => s.elim
noncomputable def p13 (ta tn tc ts tp ua un uc us up : Int) : Option (St13 ⊕ Rt13) := bif (S.cmpN ta ua != 0) then (some (.inr (S.cmpN ta ua))) else (bif (S.cmpN ts us != 0) then (some (.inr (S.cmpN ts us))) else (bif (S.cmpN tn un != 0) then (some (.inr (S.cmpN tn un))) else (bif (S.cmpN tc uc != 0) then (some (.inr (S.cmpN tc uc))) else (bif (S.cmpN tp up != 0) then (some (.inr (S.cmpN tp up))) else (some (.inr ((0 : Int))))))))
noncomputable def Te13 (test : TT) (Kst : KS) (Kret : KR) (ta tn tc ts tp ua un uc us up : Int) : Prop := test (true) (test (true) (test (true) (test (true) (test (true) (test (true) (test (true) (test (S.cmpN ta ua != 0) (Kret (PV.int .i64 (S.cmpN ta ua)) ([[]]) (8)) (test (true) (test (true) (test (true) (test (S.cmpN ts us != 0) (Kret (PV.int .i64 (S.cmpN ts us)) ([[]]) (8)) (test (true) (test (true) (test (true) (test (S.cmpN tn un != 0) (Kret (PV.int .i64 (S.cmpN tn un)) ([[]]) (8)) (test (true) (test (true) (test (true) (test (S.cmpN tc uc != 0) (Kret (PV.int .i64 (S.cmpN tc uc)) ([[]]) (8)) (test (true) (test (true) (test (true) (test (S.cmpN tp up != 0) (Kret (PV.int .i64 (S.cmpN tp up)) ([[]]) (8)) (test (true) (test (false) (test (false) (False) (False)) (Kret (PV.int .i64 (0 : Int)) ([[]]) (8))) (False))) (False)) (Kret (PV.int .i64 (0 : Int)) ([[]]) (8))) (False))) (False)) (Kret (PV.int .i64 (0 : Int)) ([[]]) (8))) (False))) (False)) (Kret (PV.int .i64 (0 : Int)) ([[]]) (8))) (False))) (False)) (Kret (PV.int .i64 (0 : Int)) ([[]]) (8))) (False))) (False)) (Kret (PV.int .i64 (0 : Int)) ([[]]) (8))) (False)) (False)) (False)) (False)) (False)
theorem te13 (test : TT) (Kst : KS) (Kret : KR) (ta tn tc ts tp ua un uc us up : Int) : run test Try.env true (xA0 test) true 400 ⟨13, [.cd (mkFn Try.f13).body], argT 0 [.agg [.int .i64 ta, .int .i64 tn, .int .i64 tc, .int .i64 ts, .int .i64 tp], .agg [.int .i64 ua, .int .i64 un, .int .i64 uc, .int .i64 us, .int .i64 up]], [[], []], 0⟩ (proj 0 [] Kst Kret) =
  Te13 test Kst Kret ta tn tc ts tp ua un uc us up := by kernel_rfl
attribute [local irreducible] Int.subNatNat in
theorem be13 (ta tn tc ts tp ua un uc us up : Int) (Kst : KS) (Kret : KR) (x : St13 ⊕ Rt13) (hS : HS 0 400 ((I13 ta tn tc ts tp ua un uc us up)) Kst x) (hR : HR 0 400 ((V13 ta tn tc ts tp ua un uc us up)) (fun r => [newL (0 + 1) ((N13 ta tn tc ts tp ua un uc us up) r) ++ []]) Kret x) (h : p13 ta tn tc ts tp ua un uc us up = some x) : Te13 cond Kst Kret ta tn tc ts tp ua un uc us up := by
  unfold Te13
  unfold p13 at h
  exact cond_yes rfl (cond_yes rfl (cond_yes rfl (cond_yes rfl (cond_yes rfl (cond_yes rfl (cond_yes rfl (bif_split h (fun c0 h => ret_at hR _ h (fun n => n) rfl rfl rfl (rn_int rfl) rfl entl_nil) (fun c0 h => cond_yes rfl (cond_yes rfl (cond_yes rfl (bif_split h (fun c1 h => ret_at hR _ h (fun n => n) rfl rfl rfl (rn_int rfl) rfl entl_nil) (fun c1 h => cond_yes rfl (cond_yes rfl (cond_yes rfl (bif_split h (fun c2 h => ret_at hR _ h (fun n => n) rfl rfl rfl (rn_int rfl) rfl entl_nil) (fun c2 h => cond_yes rfl (cond_yes rfl (cond_yes rfl (bif_split h (fun c3 h => ret_at hR _ h (fun n => n) rfl rfl rfl (rn_int rfl) rfl entl_nil) (fun c3 h => cond_yes rfl (cond_yes rfl (cond_yes rfl (bif_split h (fun c4 h => ret_at hR _ h (fun n => n) rfl rfl rfl (rn_int rfl) rfl entl_nil) (fun c4 h => cond_yes rfl (cond_no rfl (ret_at hR _ h (fun n => n) rfl rfl rfl (rn_int rfl) rfl entl_nil))))))))))))))))))))))))))
theorem a13 (ta tn tc ts tp ua un uc us up : Int) {r : Rt13} (h : Goes ((q13 ta tn tc ts tp ua un uc us up)) ((p13 ta tn tc ts tp ua un uc us up)) r) : CallR Try.prog 13 [.agg [.int .i64 ta, .int .i64 tn, .int .i64 tc, .int .i64 ts, .int .i64 tp], .agg [.int .i64 ua, .int .i64 un, .int .i64 uc, .int .i64 us, .int .i64 up]] [[]] 0 ((V13 ta tn tc ts tp ua un uc us up) r) ((fun r => [newL (0 + 1) ((N13 ta tn tc ts tp ua un uc us up) r) ++ []]) r) 400 ∧ ∃ F, Try.prog.funcs[13]? = some F ∧ F.body.isSome = true ∧ (F.name == "runtime.NumGoroutine") = false := by
  refine dec_calls (f := 13) (lo := 0) (hi := 400) Try.envOk Try.mixed xA0_ok ((I13 ta tn tc ts tp ua un uc us up)) ((V13 ta tn tc ts tp ua un uc us up)) (fun r => [newL (0 + 1) ((N13 ta tn tc ts tp ua un uc us up) r) ++ []]) (fn := mkFn Try.f13) (ts := []) (n := 400) rfl (by decide) (by simp) (names_of rfl) ?_ ?_ ?_ h
  · intro s; exact s.elim
  · intro Kst Kret x hS hR h
    exact Holds.eq (te13 cond Kst Kret ta tn tc ts tp ua un uc us up) (be13 ta tn tc ts tp ua un uc us up Kst Kret x hS hR h)
  · intro Kst Kret x hS hR s h; exact s.elim
noncomputable abbrev w13 {α : Type} (g : Int → Int → Int → Int → Int → Int → Int → Int → Int → Int → α) (x : (Int × Int × Int × Int × Int × Unit) × (Int × Int × Int × Int × Int × Unit) × Unit) : α := g x.1.1 x.1.2.1 x.1.2.2.1 x.1.2.2.2.1 x.1.2.2.2.2.1 x.2.1.1 x.2.1.2.1 x.2.1.2.2.1 x.2.1.2.2.2.1 x.2.1.2.2.2.2.1
noncomputable def k13  : Con := ⟨13, [.agg [.plain (.int .i64), .plain (.int .i64), .plain (.int .i64), .plain (.int .i64), .plain (.int .i64)], .agg [.plain (.int .i64), .plain (.int .i64), .plain (.int .i64), .plain (.int .i64), .plain (.int .i64)]], w13 (fun ta tn tc ts tp ua un uc us up => decide (True)), w13 (fun ta tn tc ts tp ua un uc us up => (V13 ta tn tc ts tp ua un uc us up) (S.ecmp ta tn tc ts tp ua un uc us up)), w13 (fun ta tn tc ts tp ua un uc us up => (N13 ta tn tc ts tp ua un uc us up) (S.ecmp ta tn tc ts tp ua un uc us up)), fun _ _ => .dead⟩
theorem s13 (ta tn tc ts tp ua un uc us up : Int) (hp : True) : Goes ((q13 ta tn tc ts tp ua un uc us up)) ((p13 ta tn tc ts tp ua un uc us up)) (S.ecmp ta tn tc ts tp ua un uc us up) := by
  unfold S.ecmp
  unfold p13
  rcases cmpN_k ta ua with ⟨h0, e⟩ | ⟨h0, e⟩ | ⟨h0, e⟩
  · rw [e]; exact goes_ok rfl (goes_inr.mpr rfl)
  rotate_left
  · rw [e]; exact goes_ok rfl (goes_inr.mpr rfl)
  rw [e]
  refine goes_no rfl ?_
  rw [or0_0]
  rcases cmpN_k ts us with ⟨h1, e⟩ | ⟨h1, e⟩ | ⟨h1, e⟩
  · rw [e]; exact goes_ok rfl (goes_inr.mpr rfl)
  rotate_left
  · rw [e]; exact goes_ok rfl (goes_inr.mpr rfl)
  rw [e]
  refine goes_no rfl ?_
  rw [or0_0]
  rcases cmpN_k tn un with ⟨h2, e⟩ | ⟨h2, e⟩ | ⟨h2, e⟩
  · rw [e]; exact goes_ok rfl (goes_inr.mpr rfl)
  rotate_left
  · rw [e]; exact goes_ok rfl (goes_inr.mpr rfl)
  rw [e]
  refine goes_no rfl ?_
  rw [or0_0]
  rcases cmpN_k tc uc with ⟨h3, e⟩ | ⟨h3, e⟩ | ⟨h3, e⟩
  · rw [e]; exact goes_ok rfl (goes_inr.mpr rfl)
  rotate_left
  · rw [e]; exact goes_ok rfl (goes_inr.mpr rfl)
  rw [e]
  refine goes_no rfl ?_
  rw [or0_0]
  rcases cmpN_k tp up with ⟨h4, e⟩ | ⟨h4, e⟩ | ⟨h4, e⟩
  · rw [e]; exact goes_ok rfl (goes_inr.mpr rfl)
  rotate_left
  · rw [e]; exact goes_ok rfl (goes_inr.mpr rfl)
  rw [e]
  refine goes_no rfl ?_
  exact goes_inr.mpr rfl
theorem k13_ok  : k13.ok Try.prog := by
  intro x hx
  obtain ⟨⟨ta, tn, tc, ts, tp, _⟩, ⟨ua, un, uc, us, up, _⟩, _⟩ := x
  obtain ⟨h1, h2⟩ := a13 ta tn tc ts tp ua un uc us up (s13 ta tn tc ts tp ua un uc us up (of_dec hx rfl))
  exact ⟨⟨400, (by decide : 0 + 1 + 0 ≤ 400), h1⟩, h2⟩
abbrev St16  := Empty
abbrev Rt16  := Int
noncomputable def V16 (ta tn tc ts tp ua un uc us up : Int) (r : Rt16) : PV := PV.int .i64 r
noncomputable def N16 (ta tn tc ts tp ua un uc us up : Int) (r : Rt16) : List Blk := []
noncomputable def I16 (ta tn tc ts tp ua un uc us up : Int) : St16 → Hd := fun s => s.elim
noncomputable def q16 (ta tn tc ts tp ua un uc us up : Int) : St16 → Option (St16 ⊕ Rt16) := fun s => s.elim
noncomputable def p16 (ta tn tc ts tp ua un uc us up : Int) : Option (St16 ⊕ Rt16) := bif (decide (ta < ua)) then (some (.inr ((-1 : Int)))) else (bif (decide (ta > ua)) then (some (.inr ((1 : Int)))) else (bif (decide (ts < us)) then (some (.inr ((-1 : Int)))) else (bif (decide (ts > us)) then (some (.inr ((1 : Int)))) else (bif (decide (tn < un)) then (some (.inr ((-1 : Int)))) else (bif (decide (tn > un)) then (some (.inr ((1 : Int)))) else (bif (decide (tc < uc)) then (some (.inr ((-1 : Int)))) else (bif (decide (tc > uc)) then (some (.inr ((1 : Int)))) else (bif (decide (tp < up)) then (some (.inr ((-1 : Int)))) else (bif (decide (tp > up)) then (some (.inr ((1 : Int)))) else (some (.inr ((0 : Int)))))))))))))
noncomputable def Te16 (test : TT) (Kst : KS) (Kret : KR) (ta tn tc ts tp ua un uc us up : Int) : Prop := test (true) (test (true) (test (true) (test (decide (ta < ua)) (Kret (PV.int .i64 (-1 : Int)) ([[]]) (4)) (test (true) (test (true) (test (decide (ta > ua)) (Kret (PV.int .i64 (1 : Int)) ([[]]) (4)) (test (true) (test (true) (test (true) (test (true) (test (decide (ts < us)) (Kret (PV.int .i64 (-1 : Int)) ([[]]) (4)) (test (true) (test (true) (test (decide (ts > us)) (Kret (PV.int .i64 (1 : Int)) ([[]]) (4)) (test (true) (test (true) (test (true) (test (true) (test (decide (tn < un)) (Kret (PV.int .i64 (-1 : Int)) ([[]]) (4)) (test (true) (test (true) (test (decide (tn > un)) (Kret (PV.int .i64 (1 : Int)) ([[]]) (4)) (test (true) (test (true) (test (true) (test (true) (test (decide (tc < uc)) (Kret (PV.int .i64 (-1 : Int)) ([[]]) (4)) (test (true) (test (true) (test (decide (tc > uc)) (Kret (PV.int .i64 (1 : Int)) ([[]]) (4)) (test (true) (test (true) (test (true) (test (true) (test (decide (tp < up)) (Kret (PV.int .i64 (-1 : Int)) ([[]]) (4)) (test (true) (test (true) (test (decide (tp > up)) (Kret (PV.int .i64 (1 : Int)) ([[]]) (4)) (test (true) (test (false) (test (false) (False) (False)) (Kret (PV.int .i64 (0 : Int)) ([[]]) (4))) (False))) (False)) (False))) (False)) (False)) (Kret (PV.int .i64 (0 : Int)) ([[]]) (4))) (False))) (False)) (False))) (False)) (False)) (Kret (PV.int .i64 (0 : Int)) ([[]]) (4))) (False))) (False)) (False))) (False)) (False)) (Kret (PV.int .i64 (0 : Int)) ([[]]) (4))) (False))) (False)) (False))) (False)) (False)) (Kret (PV.int .i64 (0 : Int)) ([[]]) (4))) (False))) (False)) (False))) (False)) (False)) (Kret (PV.int .i64 (0 : Int)) ([[]]) (4))
theorem te16 (test : TT) (Kst : KS) (Kret : KR) (ta tn tc ts tp ua un uc us up : Int) : run test Try.env true (xA0 test) false 400 ⟨16, [.cd (mkFn Try.f16).body], argT 0 [.agg [.int .i64 ta, .int .i64 tn, .int .i64 tc, .int .i64 ts, .int .i64 tp], .agg [.int .i64 ua, .int .i64 un, .int .i64 uc, .int .i64 us, .int .i64 up]], [[], []], 0⟩ (proj 0 [] Kst Kret) =
  Te16 test Kst Kret ta tn tc ts tp ua un uc us up := by kernel_rfl
attribute [local irreducible] Int.subNatNat in
theorem be16 (ta tn tc ts tp ua un uc us up : Int) (Kst : KS) (Kret : KR) (x : St16 ⊕ Rt16) (hS : HS 0 400 ((I16 ta tn tc ts tp ua un uc us up)) Kst x) (hR : HR 0 400 ((V16 ta tn tc ts tp ua un uc us up)) (fun r => [newL (0 + 1) ((N16 ta tn tc ts tp ua un uc us up) r) ++ []]) Kret x) (h : p16 ta tn tc ts tp ua un uc us up = some x) : Te16 cond Kst Kret ta tn tc ts tp ua un uc us up := by
  unfold Te16
  unfold p16 at h
  exact cond_yes rfl (cond_yes rfl (cond_yes rfl (bif_split h (fun c0 h => ret_at hR _ h (fun n => n) rfl rfl rfl (rn_int rfl) rfl entl_nil) (fun c0 h => cond_yes rfl (cond_yes rfl (bif_split h (fun c1 h => ret_at hR _ h (fun n => n) rfl rfl rfl (rn_int rfl) rfl entl_nil) (fun c1 h => cond_yes rfl (cond_yes rfl (cond_yes rfl (cond_yes rfl (bif_split h (fun c2 h => ret_at hR _ h (fun n => n) rfl rfl rfl (rn_int rfl) rfl entl_nil) (fun c2 h => cond_yes rfl (cond_yes rfl (bif_split h (fun c3 h => ret_at hR _ h (fun n => n) rfl rfl rfl (rn_int rfl) rfl entl_nil) (fun c3 h => cond_yes rfl (cond_yes rfl (cond_yes rfl (cond_yes rfl (bif_split h (fun c4 h => ret_at hR _ h (fun n => n) rfl rfl rfl (rn_int rfl) rfl entl_nil) (fun c4 h => cond_yes rfl (cond_yes rfl (bif_split h (fun c5 h => ret_at hR _ h (fun n => n) rfl rfl rfl (rn_int rfl) rfl entl_nil) (fun c5 h => cond_yes rfl (cond_yes rfl (cond_yes rfl (cond_yes rfl (bif_split h (fun c6 h => ret_at hR _ h (fun n => n) rfl rfl rfl (rn_int rfl) rfl entl_nil) (fun c6 h => cond_yes rfl (cond_yes rfl (bif_split h (fun c7 h => ret_at hR _ h (fun n => n) rfl rfl rfl (rn_int rfl) rfl entl_nil) (fun c7 h => cond_yes rfl (cond_yes rfl (cond_yes rfl (cond_yes rfl (bif_split h (fun c8 h => ret_at hR _ h (fun n => n) rfl rfl rfl (rn_int rfl) rfl entl_nil) (fun c8 h => cond_yes rfl (cond_yes rfl (bif_split h (fun c9 h => ret_at hR _ h (fun n => n) rfl rfl rfl (rn_int rfl) rfl entl_nil) (fun c9 h => cond_yes rfl (cond_no rfl (ret_at hR _ h (fun n => n) rfl rfl rfl (rn_int rfl) rfl entl_nil)))))))))))))))))))))))))))))))))))))))))
theorem a16 (ta tn tc ts tp ua un uc us up : Int) {r : Rt16} (h : Goes ((q16 ta tn tc ts tp ua un uc us up)) ((p16 ta tn tc ts tp ua un uc us up)) r) : CallR Try.prog 16 [.agg [.int .i64 ta, .int .i64 tn, .int .i64 tc, .int .i64 ts, .int .i64 tp], .agg [.int .i64 ua, .int .i64 un, .int .i64 uc, .int .i64 us, .int .i64 up]] [[]] 0 ((V16 ta tn tc ts tp ua un uc us up) r) ((fun r => [newL (0 + 1) ((N16 ta tn tc ts tp ua un uc us up) r) ++ []]) r) 400 ∧ ∃ F, Try.prog.funcs[16]? = some F ∧ F.body.isSome = true ∧ (F.name == "runtime.NumGoroutine") = false := by
  refine dec_free (f := 16) (lo := 0) (hi := 400) Try.envOk Try.mixed xA0_ok ((I16 ta tn tc ts tp ua un uc us up)) ((V16 ta tn tc ts tp ua un uc us up)) (fun r => [newL (0 + 1) ((N16 ta tn tc ts tp ua un uc us up) r) ++ []]) (fn := mkFn Try.f16) (n := 400) rfl (by decide) (by simp) (names_of rfl) ?_ h
  · intro Kst Kret x hS hR h
    exact Holds.eq (te16 cond Kst Kret ta tn tc ts tp ua un uc us up) (be16 ta tn tc ts tp ua un uc us up Kst Kret x hS hR h)
noncomputable abbrev w16 {α : Type} (g : Int → Int → Int → Int → Int → Int → Int → Int → Int → Int → α) (x : (Int × Int × Int × Int × Int × Unit) × (Int × Int × Int × Int × Int × Unit) × Unit) : α := g x.1.1 x.1.2.1 x.1.2.2.1 x.1.2.2.2.1 x.1.2.2.2.2.1 x.2.1.1 x.2.1.2.1 x.2.1.2.2.1 x.2.1.2.2.2.1 x.2.1.2.2.2.2.1
noncomputable def k16  : Con := ⟨16, [.agg [.plain (.int .i64), .plain (.int .i64), .plain (.int .i64), .plain (.int .i64), .plain (.int .i64)], .agg [.plain (.int .i64), .plain (.int .i64), .plain (.int .i64), .plain (.int .i64), .plain (.int .i64)]], w16 (fun ta tn tc ts tp ua un uc us up => decide (True)), w16 (fun ta tn tc ts tp ua un uc us up => (V16 ta tn tc ts tp ua un uc us up) (S.ecmp ta tn tc ts tp ua un uc us up)), w16 (fun ta tn tc ts tp ua un uc us up => (N16 ta tn tc ts tp ua un uc us up) (S.ecmp ta tn tc ts tp ua un uc us up)), fun _ _ => .dead⟩
theorem s16 (ta tn tc ts tp ua un uc us up : Int) (hp : True) : Goes ((q16 ta tn tc ts tp ua un uc us up)) ((p16 ta tn tc ts tp ua un uc us up)) (S.ecmp ta tn tc ts tp ua un uc us up) := by
  unfold S.ecmp
  unfold p16
  rcases cmpN_k ta ua with ⟨h0, e⟩ | ⟨h0, e⟩ | ⟨h0, e⟩
  · rw [e]; exact goes_ok (decide_eq_true h0) (goes_inr.mpr rfl)
  rotate_left
  · rw [e]; exact goes_no (decide_eq_false (by omega)) (goes_ok (decide_eq_true h0) (goes_inr.mpr rfl))
  rw [e]
  refine goes_no (decide_eq_false (by omega)) (goes_no (decide_eq_false (by omega)) ?_)
  rw [or0_0]
  rcases cmpN_k ts us with ⟨h1, e⟩ | ⟨h1, e⟩ | ⟨h1, e⟩
  · rw [e]; exact goes_ok (decide_eq_true h1) (goes_inr.mpr rfl)
  rotate_left
  · rw [e]; exact goes_no (decide_eq_false (by omega)) (goes_ok (decide_eq_true h1) (goes_inr.mpr rfl))
  rw [e]
  refine goes_no (decide_eq_false (by omega)) (goes_no (decide_eq_false (by omega)) ?_)
  rw [or0_0]
  rcases cmpN_k tn un with ⟨h2, e⟩ | ⟨h2, e⟩ | ⟨h2, e⟩
  · rw [e]; exact goes_ok (decide_eq_true h2) (goes_inr.mpr rfl)
  rotate_left
  · rw [e]; exact goes_no (decide_eq_false (by omega)) (goes_ok (decide_eq_true h2) (goes_inr.mpr rfl))
  rw [e]
  refine goes_no (decide_eq_false (by omega)) (goes_no (decide_eq_false (by omega)) ?_)
  rw [or0_0]
  rcases cmpN_k tc uc with ⟨h3, e⟩ | ⟨h3, e⟩ | ⟨h3, e⟩
  · rw [e]; exact goes_ok (decide_eq_true h3) (goes_inr.mpr rfl)
  rotate_left
  · rw [e]; exact goes_no (decide_eq_false (by omega)) (goes_ok (decide_eq_true h3) (goes_inr.mpr rfl))
  rw [e]
  refine goes_no (decide_eq_false (by omega)) (goes_no (decide_eq_false (by omega)) ?_)
  rw [or0_0]
  rcases cmpN_k tp up with ⟨h4, e⟩ | ⟨h4, e⟩ | ⟨h4, e⟩
  · rw [e]; exact goes_ok (decide_eq_true h4) (goes_inr.mpr rfl)
  rotate_left
  · rw [e]; exact goes_no (decide_eq_false (by omega)) (goes_ok (decide_eq_true h4) (goes_inr.mpr rfl))
  rw [e]
  refine goes_no (decide_eq_false (by omega)) (goes_no (decide_eq_false (by omega)) ?_)
  exact goes_inr.mpr rfl
theorem k16_ok  : k16.ok Try.prog := by
  intro x hx
  obtain ⟨⟨ta, tn, tc, ts, tp, _⟩, ⟨ua, un, uc, us, up, _⟩, _⟩ := x
  obtain ⟨h1, h2⟩ := a16 ta tn tc ts tp ua un uc us up (s16 ta tn tc ts tp ua un uc us up (of_dec hx rfl))
  exact ⟨⟨400, (by decide : 0 + 1 + 0 ≤ 400), h1⟩, h2⟩
noncomputable def k12  : Con := ⟨12, [], fun _ => true, fun _ => .bool true, fun _ => [], fun _ _ => .dead⟩
theorem te12 (Kst : KS) (Kret : KR) : run cond Try.env true noX false 4000 ⟨12, [.cd (mkFn Try.f12).body], [], [[], []], 0⟩ (proj 0 [] Kst Kret) = Kret (.tf true) [[]] 75 := by kernel_rfl
theorem k12_ok  : k12.ok Try.prog := awake_ok (fn := mkFn Try.f12) (hi := 76) (n := 4000) Try.envOk Try.mixed noX_ok rfl (by decide) (by decide : Nat.ble 75 76 = true) te12
noncomputable def xC (test : Bool → Prop → Prop → Prop) : Ext := consX test [k12, k13, k14, k15, k16]
theorem xC_ok  : ExtOk Try.prog (xC cond) := consX_ok ⟨k12_ok, k13_ok, k14_ok, k15_ok, k16_ok, trivial⟩
theorem or0_b  {x X : Int} (h : -1 ≤ x ∧ x ≤ 1) (h2 : -1 ≤ X ∧ X ≤ 1) : -1 ≤ S.or0 x X ∧ S.or0 x X ≤ 1 := by unfold S.or0; split <;> omega
theorem cmpN_b  {a b : Int} : -1 ≤ S.cmpN a b ∧ S.cmpN a b ≤ 1 := by have := cmpN_k a b; omega
theorem or0_neg  {x y X Y : Int} (h : y = -x) (h2 : Y = -X) : S.or0 y Y = - S.or0 x X := by unfold S.or0; (repeat' split) <;> omega
theorem cmpN_neg  {a b : Int} : S.cmpN b a = - S.cmpN a b := by have := cmpN_k a b; have := cmpN_k b a; omega
theorem cmpN_self  {a : Int} : S.cmpN a a = 0 := by have := cmpN_k a a; omega
theorem or0_z  {x X : Int} (h : S.or0 x X = 0) : x = 0 ∧ X = 0 := by unfold S.or0 at h; split at h <;> omega
theorem cmpN_z  {a b : Int} (h : S.cmpN a b = 0) : a = b := by have := cmpN_k a b; omega
theorem or0_tr  {a b c X Y Z : Int} (h : X ≤ 0 → Y ≤ 0 → Z ≤ 0) (h1 : S.or0 (S.cmpN a b) X ≤ 0) (h2 : S.or0 (S.cmpN b c) Y ≤ 0) : S.or0 (S.cmpN a c) Z ≤ 0 := by
  have k1 := cmpN_k a b
  have k2 := cmpN_k b c
  have k3 := cmpN_k a c
  unfold S.or0 at *
  (repeat' split at *) <;> first | omega | (have := h (by omega) (by omega); omega)
section
variable {a n c s p a' n' c' s' p' a2 n2 c2 s2 p2 : Int}
theorem ecmp_b  : -1 ≤ S.ecmp a n c s p a' n' c' s' p' ∧ S.ecmp a n c s p a' n' c' s' p' ≤ 1 := or0_b cmpN_b (or0_b cmpN_b (or0_b cmpN_b (or0_b cmpN_b cmpN_b)))
theorem ecmp_neg  : S.ecmp a' n' c' s' p' a n c s p = - S.ecmp a n c s p a' n' c' s' p' := or0_neg cmpN_neg (or0_neg cmpN_neg (or0_neg cmpN_neg (or0_neg cmpN_neg cmpN_neg)))
theorem ecmp_self  : S.ecmp a n c s p a n c s p = 0 := by
  unfold S.ecmp
  simp only [cmpN_self, or0_0]
theorem ecmp_z (h : S.ecmp a n c s p a' n' c' s' p' = 0) : a = a' ∧ n = n' ∧ c = c' ∧ s = s' ∧ p = p' := by
  obtain ⟨h1, h⟩ := or0_z h
  obtain ⟨h2, h⟩ := or0_z h
  obtain ⟨h3, h⟩ := or0_z h
  obtain ⟨h4, h5⟩ := or0_z h
  exact ⟨cmpN_z h1, cmpN_z h3, cmpN_z h4, cmpN_z h2, cmpN_z h5⟩
theorem ecmp_tr (h1 : S.ecmp a n c s p a' n' c' s' p' ≤ 0) (h2 : S.ecmp a' n' c' s' p' a2 n2 c2 s2 p2 ≤ 0) : S.ecmp a n c s p a2 n2 c2 s2 p2 ≤ 0 := by
  refine or0_tr (or0_tr (or0_tr (or0_tr (fun h1 h2 => ?_)))) h1 h2
  have k1 := cmpN_k p p'
  have k2 := cmpN_k p' p2
  have k3 := cmpN_k p p2
  omega
end
abbrev St3  := Empty
abbrev Rt3  := Bool
noncomputable def V3 (ta tn tc ts tp ua un uc us up va vn vc vs vp : Int) (r : Rt3) : PV := PV.bool r
noncomputable def N3 (ta tn tc ts tp ua un uc us up va vn vc vs vp : Int) (r : Rt3) : List Blk := []
noncomputable def I3 (ta tn tc ts tp ua un uc us up va vn vc vs vp : Int) : St3 → Hd := fun s => s.elim
noncomputable def q3 (ta tn tc ts tp ua un uc us up va vn vc vs vp : Int) : St3 → Option (St3 ⊕ Rt3) := fun s => s.elim
noncomputable def p3 (ta tn tc ts tp ua un uc us up va vn vc vs vp : Int) : Option (St3 ⊕ Rt3) := bif (S.evE ta tn tc ts tp == S.evE ta tn tc ts tp) then (bif (S.ecmp ta tn tc ts tp ua un uc us up == S.ecmp ta tn tc ts tp ua un uc us up) then (bif (lim .i64 (-S.ecmp ta tn tc ts tp ua un uc us up)) then (bif (S.ecmp ua un uc us up ta tn tc ts tp == -S.ecmp ta tn tc ts tp ua un uc us up) then (bif (S.ecmp ta tn tc ts tp ta tn tc ts tp == 0) then (bif (decide (S.ecmp ta tn tc ts tp ua un uc us up > 0)) then (bif (S.ecmp ta tn tc ts tp ua un uc us up != 0) then (some (.inr (true))) else (bif (ta == ua && (tn == un && (tc == uc && (ts == us && (tp == up && true))))) then (some (.inr (true))) else (some (.inr (false))))) else (bif (decide (S.ecmp ua un uc us up va vn vc vs vp > 0)) then (bif (S.ecmp ta tn tc ts tp ua un uc us up != 0) then (some (.inr (true))) else (bif (ta == ua && (tn == un && (tc == uc && (ts == us && (tp == up && true))))) then (some (.inr (true))) else (some (.inr (false))))) else (bif (decide (S.ecmp ta tn tc ts tp va vn vc vs vp ≤ 0)) then (bif (S.ecmp ta tn tc ts tp ua un uc us up != 0) then (some (.inr (true))) else (bif (ta == ua && (tn == un && (tc == uc && (ts == us && (tp == up && true))))) then (some (.inr (true))) else (some (.inr (false))))) else (some (.inr (false)))))) else (some (.inr (false)))) else (some (.inr (false)))) else (none)) else (some (.inr (false)))) else (some (.inr (false)))
noncomputable def Te3 (test : TT) (Kst : KS) (Kret : KR) (ta tn tc ts tp ua un uc us up va vn vc vs vp : Int) : Prop := test (true) (test (true) (test (true) (test (true) (test (true) (test (true) (test (true) (test (S.evE ta tn tc ts tp == S.evE ta tn tc ts tp) (test (true) (test (S.ecmp ta tn tc ts tp ua un uc us up == S.ecmp ta tn tc ts tp ua un uc us up) (test (true) (test (lim .i64 (-S.ecmp ta tn tc ts tp ua un uc us up)) (test (S.ecmp ua un uc us up ta tn tc ts tp == -S.ecmp ta tn tc ts tp ua un uc us up) (test (true) (test (S.ecmp ta tn tc ts tp ta tn tc ts tp == 0) (test (decide (S.ecmp ta tn tc ts tp ua un uc us up > 0)) (test (S.ecmp ta tn tc ts tp ua un uc us up != 0) (Kret (PV.tf true) ([[]]) (12)) (test (ta == ua && (tn == un && (tc == uc && (ts == us && (tp == up && true))))) (Kret (PV.tf true) ([[]]) (12)) (Kret (PV.tf false) ([[]]) (12)))) (test (decide (S.ecmp ua un uc us up va vn vc vs vp > 0)) (test (S.ecmp ta tn tc ts tp ua un uc us up != 0) (Kret (PV.tf true) ([[]]) (12)) (test (ta == ua && (tn == un && (tc == uc && (ts == us && (tp == up && true))))) (Kret (PV.tf true) ([[]]) (12)) (Kret (PV.tf false) ([[]]) (12)))) (test (decide (S.ecmp ta tn tc ts tp va vn vc vs vp ≤ 0)) (test (S.ecmp ta tn tc ts tp ua un uc us up != 0) (Kret (PV.tf true) ([[]]) (12)) (test (ta == ua && (tn == un && (tc == uc && (ts == us && (tp == up && true))))) (Kret (PV.tf true) ([[]]) (12)) (Kret (PV.tf false) ([[]]) (12)))) (Kret (PV.tf false) ([[]]) (12))))) (Kret (PV.tf false) ([[]]) (12))) (False)) (Kret (PV.tf false) ([[]]) (11))) (False)) (False)) (Kret (PV.tf false) ([[]]) (10))) (False)) (Kret (PV.tf false) ([[]]) (9))) (False)) (False)) (False)) (False)) (False)) (Kret (PV.tf false) ([[]]) (4))) (False)
theorem te3 (test : TT) (Kst : KS) (Kret : KR) (ta tn tc ts tp ua un uc us up va vn vc vs vp : Int) : run test Try.env true (xC test) true 400 ⟨3, [.cd (mkFn Try.f3).body], argT 0 [.agg [.int .i64 ta, .int .i64 tn, .int .i64 tc, .int .i64 ts, .int .i64 tp], .agg [.int .i64 ua, .int .i64 un, .int .i64 uc, .int .i64 us, .int .i64 up], .agg [.int .i64 va, .int .i64 vn, .int .i64 vc, .int .i64 vs, .int .i64 vp]], [[], []], 0⟩ (proj 0 [] Kst Kret) =
  Te3 test Kst Kret ta tn tc ts tp ua un uc us up va vn vc vs vp := by kernel_rfl
attribute [local irreducible] Int.subNatNat in
theorem be3 (ta tn tc ts tp ua un uc us up va vn vc vs vp : Int) (Kst : KS) (Kret : KR) (x : St3 ⊕ Rt3) (hS : HS 0 400 ((I3 ta tn tc ts tp ua un uc us up va vn vc vs vp)) Kst x) (hR : HR 0 400 ((V3 ta tn tc ts tp ua un uc us up va vn vc vs vp)) (fun r => [newL (0 + 1) ((N3 ta tn tc ts tp ua un uc us up va vn vc vs vp) r) ++ []]) Kret x) (h : p3 ta tn tc ts tp ua un uc us up va vn vc vs vp = some x) : Te3 cond Kst Kret ta tn tc ts tp ua un uc us up va vn vc vs vp := by
  unfold Te3
  unfold p3 at h
  exact cond_yes rfl (cond_yes rfl (cond_yes rfl (cond_yes rfl (cond_yes rfl (cond_yes rfl (cond_yes rfl (bif_split h (fun c0 h => cond_yes rfl (bif_split h (fun c1 h => cond_yes rfl (bif_split h (fun c2 h => bif_split h (fun c3 h => cond_yes rfl (bif_split h (fun c4 h => bif_split h (fun c5 h => bif_split h (fun c6 h => ret_at hR _ h (fun n => n) rfl rfl rfl (rn_bool_tf rfl) rfl entl_nil) (fun c6 h => bif_split h (fun c7 h => ret_at hR _ h (fun n => n) rfl rfl rfl (rn_bool_tf rfl) rfl entl_nil) (fun c7 h => ret_at hR _ h (fun n => n) rfl rfl rfl (rn_bool_tf rfl) rfl entl_nil))) (fun c5 h => bif_split h (fun c6 h => bif_split h (fun c7 h => ret_at hR _ h (fun n => n) rfl rfl rfl (rn_bool_tf rfl) rfl entl_nil) (fun c7 h => bif_split h (fun c8 h => ret_at hR _ h (fun n => n) rfl rfl rfl (rn_bool_tf rfl) rfl entl_nil) (fun c8 h => ret_at hR _ h (fun n => n) rfl rfl rfl (rn_bool_tf rfl) rfl entl_nil))) (fun c6 h => bif_split h (fun c7 h => bif_split h (fun c8 h => ret_at hR _ h (fun n => n) rfl rfl rfl (rn_bool_tf rfl) rfl entl_nil) (fun c8 h => bif_split h (fun c9 h => ret_at hR _ h (fun n => n) rfl rfl rfl (rn_bool_tf rfl) rfl entl_nil) (fun c9 h => ret_at hR _ h (fun n => n) rfl rfl rfl (rn_bool_tf rfl) rfl entl_nil))) (fun c7 h => ret_at hR _ h (fun n => n) rfl rfl rfl (rn_bool_tf rfl) rfl entl_nil)))) (fun c4 h => ret_at hR _ h (fun n => n) rfl rfl rfl (rn_bool_tf rfl) rfl entl_nil))) (fun c3 h => ret_at hR _ h (fun n => n) rfl rfl rfl (rn_bool_tf rfl) rfl entl_nil)) (fun c2 h => no_some h))) (fun c1 h => ret_at hR _ h (fun n => n) rfl rfl rfl (rn_bool_tf rfl) rfl entl_nil))) (fun c0 h => ret_at hR _ h (fun n => n) rfl rfl rfl (rn_bool_tf rfl) rfl entl_nil))))))))
theorem a3 (ta tn tc ts tp ua un uc us up va vn vc vs vp : Int) {r : Rt3} (h : Goes ((q3 ta tn tc ts tp ua un uc us up va vn vc vs vp)) ((p3 ta tn tc ts tp ua un uc us up va vn vc vs vp)) r) : CallR Try.prog 3 [.agg [.int .i64 ta, .int .i64 tn, .int .i64 tc, .int .i64 ts, .int .i64 tp], .agg [.int .i64 ua, .int .i64 un, .int .i64 uc, .int .i64 us, .int .i64 up], .agg [.int .i64 va, .int .i64 vn, .int .i64 vc, .int .i64 vs, .int .i64 vp]] [[]] 0 ((V3 ta tn tc ts tp ua un uc us up va vn vc vs vp) r) ((fun r => [newL (0 + 1) ((N3 ta tn tc ts tp ua un uc us up va vn vc vs vp) r) ++ []]) r) 400 ∧ ∃ F, Try.prog.funcs[3]? = some F ∧ F.body.isSome = true ∧ (F.name == "runtime.NumGoroutine") = false := by
  refine dec_calls (f := 3) (lo := 0) (hi := 400) Try.envOk Try.mixed xC_ok ((I3 ta tn tc ts tp ua un uc us up va vn vc vs vp)) ((V3 ta tn tc ts tp ua un uc us up va vn vc vs vp)) (fun r => [newL (0 + 1) ((N3 ta tn tc ts tp ua un uc us up va vn vc vs vp) r) ++ []]) (fn := mkFn Try.f3) (ts := []) (n := 400) rfl (by decide) (by simp) (names_of rfl) ?_ ?_ ?_ h
  · intro s; exact s.elim
  · intro Kst Kret x hS hR h
    exact Holds.eq (te3 cond Kst Kret ta tn tc ts tp ua un uc us up va vn vc vs vp) (be3 ta tn tc ts tp ua un uc us up va vn vc vs vp Kst Kret x hS hR h)
  · intro Kst Kret x hS hR s h; exact s.elim
noncomputable abbrev w3 {α : Type} (g : Int → Int → Int → Int → Int → Int → Int → Int → Int → Int → Int → Int → Int → Int → Int → α) (x : (Int × Int × Int × Int × Int × Unit) × (Int × Int × Int × Int × Int × Unit) × (Int × Int × Int × Int × Int × Unit) × Unit) : α := g x.1.1 x.1.2.1 x.1.2.2.1 x.1.2.2.2.1 x.1.2.2.2.2.1 x.2.1.1 x.2.1.2.1 x.2.1.2.2.1 x.2.1.2.2.2.1 x.2.1.2.2.2.2.1 x.2.2.1.1 x.2.2.1.2.1 x.2.2.1.2.2.1 x.2.2.1.2.2.2.1 x.2.2.1.2.2.2.2.1
noncomputable def k3  : Con := ⟨3, [.agg [.plain (.int .i64), .plain (.int .i64), .plain (.int .i64), .plain (.int .i64), .plain (.int .i64)], .agg [.plain (.int .i64), .plain (.int .i64), .plain (.int .i64), .plain (.int .i64), .plain (.int .i64)], .agg [.plain (.int .i64), .plain (.int .i64), .plain (.int .i64), .plain (.int .i64), .plain (.int .i64)]], w3 (fun ta tn tc ts tp ua un uc us up va vn vc vs vp => decide (True)), w3 (fun ta tn tc ts tp ua un uc us up va vn vc vs vp => (V3 ta tn tc ts tp ua un uc us up va vn vc vs vp) (true)), w3 (fun ta tn tc ts tp ua un uc us up va vn vc vs vp => (N3 ta tn tc ts tp ua un uc us up va vn vc vs vp) (true)), fun _ _ => .dead⟩
theorem s3 (ta tn tc ts tp ua un uc us up va vn vc vs vp : Int) (hp : True) : Goes ((q3 ta tn tc ts tp ua un uc us up va vn vc vs vp)) ((p3 ta tn tc ts tp ua un uc us up va vn vc vs vp)) (true) := by
  have hb := @ecmp_b ta tn tc ts tp ua un uc us up
  have hz := @ecmp_z ta tn tc ts tp ua un uc us up
  have ht := @ecmp_tr ta tn tc ts tp ua un uc us up va vn vc vs vp
  unfold p3
  simp only [ecmp_neg (a := ta) (n := tn) (c := tc) (s := ts) (p := tp) (a' := ua) (n' := un) (c' := uc) (s' := us) (p' := up), ecmp_self]
  generalize S.ecmp ta tn tc ts tp ua un uc us up = X at *
  generalize S.ecmp ua un uc us up va vn vc vs vp = Y at *
  generalize S.ecmp ta tn tc ts tp va vn vc vs vp = Z at *
  by_cases h0 : X = 0
  · obtain ⟨rfl, rfl, rfl, rfl, rfl⟩ := hz h0
    subst h0
    repeat' (first | with_reducible refine goes_if (fun h => ?_) (fun h => ?_) <;> (try simp only [SH] at h) | exact goes_none.mpr (by omega))
    all_goals first
      | exact goes_inr.mpr rfl
      | (exfalso; simp at *; done)
      | (exfalso; simp only [beq_self_eq_true, Bool.and_self] at *; done)
      | (exfalso; omega)
      | (exfalso; have := ht (by omega) (by omega); omega)
      | (exfalso; simp_all; done)
  · have h1 : (X != 0) = true := by simpa using h0
    simp only [h1, cond_true]
    repeat' (first | with_reducible refine goes_if (fun h => ?_) (fun h => ?_) <;> (try simp only [SH] at h) | exact goes_none.mpr (by omega))
    all_goals first
      | exact goes_inr.mpr rfl
      | (exfalso; omega)
      | (exfalso; simp at *; done)
      | (exfalso; have := ht (by omega) (by omega); omega)
      | (exfalso; simp_all; done)
theorem k3_ok  : k3.ok Try.prog := by
  intro x hx
  obtain ⟨⟨ta, tn, tc, ts, tp, _⟩, ⟨ua, un, uc, us, up, _⟩, ⟨va, vn, vc, vs, vp, _⟩, _⟩ := x
  obtain ⟨h1, h2⟩ := a3 ta tn tc ts tp ua un uc us up va vn vc vs vp (s3 ta tn tc ts tp ua un uc us up va vn vc vs vp (of_dec hx rfl))
  exact ⟨⟨400, (by decide : 0 + 1 + 0 ≤ 400), h1⟩, h2⟩
theorem pre3  {x : SsI k3.ss} (hx : ssFits k3.ss x) : k3.pre (ssj k3.ss x) = true := decide_eq_true trivial
end Go.Ev
