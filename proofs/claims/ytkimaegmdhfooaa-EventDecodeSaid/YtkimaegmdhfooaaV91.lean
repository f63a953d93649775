/-
  The parts that the statement needs, 1 of 1.
-/
import Derived.Test.YtkimaegmdhfooaaEnv
import Derived.Test.YtkimaegmdhfooaaEvY
import Derived.Test.YtkimaegmdhfooaaKit
namespace Go.Ev
open Go.Proofs
set_option linter.unusedVariables false
set_option linter.unusedSimpArgs false
set_option maxRecDepth 100000
theorem SH : type_of% (And.intro @lim64 (And.intro @imp_false (And.intro @decide_eq_true_eq (And.intro @decide_eq_false_iff_not (And.intro @Int.toNat_natCast (And.intro @toNat_pred (And.intro @toNat_succ (And.intro @Option.getD_some.{0} (And.intro @Option.getD_none.{0} (And.intro @Bool.not_eq_true' (And.intro @Bool.not_eq_false' (And.intro @Bool.and_eq_true (And.intro @Bool.or_eq_true (And.intro @Bool.and_eq_false_iff (And.intro @Bool.or_eq_false_iff (And.intro @bne_iff_ne.{0} (And.intro @beq_iff_eq.{0} (And.intro @bne_eq_false_iff_eq.{0} (And.intro @beq_eq_false_iff_ne.{0} (And.intro @ne_eq.{1} (And.intro @not_and (And.intro @Int.not_le (And.intro @Int.not_lt (And.intro @ge_iff_le.{0} (And.intro @gt_iff_lt.{0} (And.intro @Nat.not_lt (And.intro @Nat.not_le (And.intro @Bool.not_eq_true (And.intro @Bool.not_eq_false (And.intro @Bool.true_eq_false (And.intro @Bool.false_eq_true (And.intro @not_false_eq_true @not_true_eq_false)))))))))))))))))))))))))))))))) :=
  (And.intro @lim64 (And.intro @imp_false (And.intro @decide_eq_true_eq (And.intro @decide_eq_false_iff_not (And.intro @Int.toNat_natCast (And.intro @toNat_pred (And.intro @toNat_succ (And.intro @Option.getD_some.{0} (And.intro @Option.getD_none.{0} (And.intro @Bool.not_eq_true' (And.intro @Bool.not_eq_false' (And.intro @Bool.and_eq_true (And.intro @Bool.or_eq_true (And.intro @Bool.and_eq_false_iff (And.intro @Bool.or_eq_false_iff (And.intro @bne_iff_ne.{0} (And.intro @beq_iff_eq.{0} (And.intro @bne_eq_false_iff_eq.{0} (And.intro @beq_eq_false_iff_ne.{0} (And.intro @ne_eq.{1} (And.intro @not_and (And.intro @Int.not_le (And.intro @Int.not_lt (And.intro @ge_iff_le.{0} (And.intro @gt_iff_lt.{0} (And.intro @Nat.not_lt (And.intro @Nat.not_le (And.intro @Bool.not_eq_true (And.intro @Bool.not_eq_false (And.intro @Bool.true_eq_false (And.intro @Bool.false_eq_true (And.intro @not_false_eq_true @not_true_eq_false))))))))))))))))))))))))))))))))
abbrev TT := Bool → Prop → Prop → Prop
abbrev NI := Nat → Int
namespace S
def any (p : Nat → Bool) (n : Nat) : Bool := (List.range n).any p
end S
namespace S
def sumN (t : Nat → Int) : Nat → Int
  | 0 => 0
  | n + 1 => sumN t n + t n
end S
namespace S
def evB (a n c s p : Int) : Bool := decide ((0 ≤ a ∧ a ≤ 1099511627776) ∧ (1 ≤ n ∧ n ≤ 999) ∧ (0 ≤ c ∧ c ≤ 1048576) ∧ (0 ≤ s ∧ s ≤ 99) ∧ -1099511627776 ≤ p ∧ p ≤ 1099511627776)
def evE (a n c s p : Int) : Int := if evB a n c s p = true then 0 else 6
def cmpN (a b : Int) : Int := if a < b then -1 else if a > b then 1 else 0
def or0 (a b : Int) : Int := if a = 0 then b else a
def ecmp (a n c s p a' n' c' s' p' : Int) : Int := or0 (cmpN a a') (or0 (cmpN s s') (or0 (cmpN n n') (or0 (cmpN c c') (cmpN p p'))))
end S
abbrev St40  := Empty
abbrev Rt40  := Int
noncomputable def V40 (u v : Int) (r : Rt40) : PV := PV.int .i64 r
noncomputable def N40 (u v : Int) (r : Rt40) : List Blk := []
noncomputable def I40 (u v : Int) : St40 → Hd := fun s => s.elim
noncomputable def q40 (u v : Int) : St40 → Option (St40 ⊕ Rt40) := fun s => s.elim
noncomputable def p40 (u v : Int) : Option (St40 ⊕ Rt40) := bif (u != u) then (bif (v != v) then (some (.inr ((0 : Int)))) else (some (.inr ((-1 : Int))))) else (bif (v != v) then (some (.inr ((1 : Int)))) else (bif (decide (u < v)) then (some (.inr ((-1 : Int)))) else (bif (decide (u > v)) then (some (.inr ((1 : Int)))) else (some (.inr ((0 : Int)))))))
noncomputable def Te40 (test : TT) (Kst : KS) (Kret : KR) (u v : Int) : Prop := test (u != u) (test (v != v) (Kret (PV.int .i64 (0 : Int)) ([[]]) (0)) (Kret (PV.int .i64 (-1 : Int)) ([[]]) (0))) (test (v != v) (Kret (PV.int .i64 (1 : Int)) ([[]]) (0)) (test (decide (u < v)) (Kret (PV.int .i64 (-1 : Int)) ([[]]) (0)) (test (decide (u > v)) (Kret (PV.int .i64 (1 : Int)) ([[]]) (0)) (Kret (PV.int .i64 (0 : Int)) ([[]]) (0)))))
theorem te40 (test : TT) (Kst : KS) (Kret : KR) (u v : Int) : run test Try.env true noX true 400 ⟨40, [.cd (mkFn Try.f40).body], argT 0 [.int .i64 u, .int .i64 v], [[], []], 0⟩ (proj 0 [] Kst Kret) =
  Te40 test Kst Kret u v := by kernel_rfl
attribute [local irreducible] Int.subNatNat in
theorem be40 (u v : Int) (Kst : KS) (Kret : KR) (x : St40 ⊕ Rt40) (hS : HS 0 400 ((I40 u v)) Kst x) (hR : HR 0 400 ((V40 u v)) (fun r => [newL (0 + 1) ((N40 u v) r) ++ []]) Kret x) (h : p40 u v = some x) : Te40 cond Kst Kret u v := by
  unfold Te40
  unfold p40 at h
  refine bif_split h (fun c0 h => bif_split h (fun c1 h => ?_) (fun c1 h => ?_)) (fun c0 h => bif_split h (fun c1 h => ?_) (fun c1 h => bif_split h (fun c2 h => ?_) (fun c2 h => bif_split h (fun c3 h => ?_) (fun c3 h => ?_))))
  all_goals first
    | exact ret_at hR _ h (fun n => n) rfl rfl rfl (rn_int rfl) rfl entl_nil
theorem a40 (u v : Int) {r : Rt40} (h : Goes ((q40 u v)) ((p40 u v)) r) : CallR Try.prog 40 [.int .i64 u, .int .i64 v] [[]] 0 ((V40 u v) r) ((fun r => [newL (0 + 1) ((N40 u v) r) ++ []]) r) 400 ∧ ∃ F, Try.prog.funcs[40]? = some F ∧ F.body.isSome = true ∧ (F.name == "runtime.NumGoroutine") = false := by
  refine dec_calls (f := 40) (lo := 0) (hi := 400) Try.envOk Try.mixed noX_ok ((I40 u v)) ((V40 u v)) (fun r => [newL (0 + 1) ((N40 u v) r) ++ []]) (fn := mkFn Try.f40) (ts := []) (n := 400) rfl (by decide) (by simp) (names_of rfl) ?_ ?_ ?_ h
  · intro s; exact s.elim
  · intro Kst Kret x hS hR h
    exact Holds.eq (te40 cond Kst Kret u v) (be40 u v Kst Kret x hS hR h)
  · intro Kst Kret x hS hR s h; exact s.elim
noncomputable abbrev w40 {α : Type} (g : Int → Int → α) (x : Int × Int × Unit) : α := g x.1 x.2.1
noncomputable def k40  : Con := ⟨40, [.one (.plain (.int .i64)), .one (.plain (.int .i64))], w40 (fun u v => decide (True)), w40 (fun u v => (V40 u v) (S.cmpN u v)), w40 (fun u v => (N40 u v) (S.cmpN u v)), fun _ _ => .dead⟩
theorem s40 (u v : Int) (hp : True) : Goes ((q40 u v)) ((p40 u v)) (S.cmpN u v) := by
  unfold S.cmpN
  show Goes _ _ _
  unfold p40
  repeat' (first | with_reducible refine goes_if (fun h => ?_) (fun h => ?_) <;> (try simp only [SH] at h) | exact goes_none.mpr (by omega))
  all_goals first
    | (exfalso; omega)
    | (refine goes_inr.mpr ?_; (repeat' split) <;> first | rfl | (exfalso; omega))
theorem k40_ok  : k40.ok Try.prog := by
  intro x hx
  obtain ⟨u, v, _⟩ := x
  obtain ⟨h1, h2⟩ := a40 u v (s40 u v (of_dec hx rfl))
  exact ⟨⟨400, (by decide : 0 + 1 + 0 ≤ 400), h1⟩, h2⟩
abbrev St14  := Empty
abbrev Rt14  := Int
noncomputable def V14 (ta tn tc ts tp : Int) (r : Rt14) : PV := PV.int .i64 r
noncomputable def N14 (ta tn tc ts tp : Int) (r : Rt14) : List Blk := []
noncomputable def I14 (ta tn tc ts tp : Int) : St14 → Hd := fun s => s.elim
noncomputable def q14 (ta tn tc ts tp : Int) : St14 → Option (St14 ⊕ Rt14) := fun s => s.elim
noncomputable def p14 (ta tn tc ts tp : Int) : Option (St14 ⊕ Rt14) := bif (decide (ta ≥ 0)) then (bif (decide (ta ≤ 1099511627776)) then (bif (decide (tn ≥ 1)) then (bif (decide (tn ≤ 999)) then (bif (decide (tc ≥ 0)) then (bif (decide (tc ≤ 1048576)) then (bif (decide (ts ≥ 0)) then (bif (decide (ts ≤ 99)) then (bif (decide (tp ≥ -1099511627776)) then (bif (decide (tp ≤ 1099511627776)) then (some (.inr ((0 : Int)))) else (some (.inr ((6 : Int))))) else (some (.inr ((6 : Int))))) else (some (.inr ((6 : Int))))) else (some (.inr ((6 : Int))))) else (some (.inr ((6 : Int))))) else (some (.inr ((6 : Int))))) else (some (.inr ((6 : Int))))) else (some (.inr ((6 : Int))))) else (some (.inr ((6 : Int))))) else (some (.inr ((6 : Int))))
noncomputable def Te14 (test : TT) (Kst : KS) (Kret : KR) (ta tn tc ts tp : Int) : Prop := test (decide (ta ≥ 0)) (test (decide (ta ≤ 1099511627776)) (test (decide (tn ≥ 1)) (test (decide (tn ≤ 999)) (test (decide (tc ≥ 0)) (test (decide (tc ≤ 1048576)) (test (decide (ts ≥ 0)) (test (decide (ts ≤ 99)) (test (decide (tp ≥ -1099511627776)) (test (decide (tp ≤ 1099511627776)) (Kret (PV.int .i64 (0 : Int)) ([[]]) (1)) (Kret (PV.int .i64 (6 : Int)) ([[]]) (1))) (Kret (PV.int .i64 (6 : Int)) ([[]]) (1))) (Kret (PV.int .i64 (6 : Int)) ([[]]) (1))) (Kret (PV.int .i64 (6 : Int)) ([[]]) (1))) (Kret (PV.int .i64 (6 : Int)) ([[]]) (1))) (Kret (PV.int .i64 (6 : Int)) ([[]]) (1))) (Kret (PV.int .i64 (6 : Int)) ([[]]) (1))) (Kret (PV.int .i64 (6 : Int)) ([[]]) (1))) (Kret (PV.int .i64 (6 : Int)) ([[]]) (1))) (Kret (PV.int .i64 (6 : Int)) ([[]]) (1))
theorem te14 (test : TT) (Kst : KS) (Kret : KR) (ta tn tc ts tp : Int) : run test Try.env true noX true 400 ⟨14, [.cd (mkFn Try.f14).body], argT 0 [.agg [.int .i64 ta, .int .i64 tn, .int .i64 tc, .int .i64 ts, .int .i64 tp]], [[], []], 0⟩ (proj 0 [] Kst Kret) =
  Te14 test Kst Kret ta tn tc ts tp := by kernel_rfl
attribute [local irreducible] Int.subNatNat in
theorem be14 (ta tn tc ts tp : Int) (Kst : KS) (Kret : KR) (x : St14 ⊕ Rt14) (hS : HS 0 400 ((I14 ta tn tc ts tp)) Kst x) (hR : HR 0 400 ((V14 ta tn tc ts tp)) (fun r => [newL (0 + 1) ((N14 ta tn tc ts tp) r) ++ []]) Kret x) (h : p14 ta tn tc ts tp = some x) : Te14 cond Kst Kret ta tn tc ts tp := by
  unfold Te14
  unfold p14 at h
  refine bif_split h (fun c0 h => bif_split h (fun c1 h => bif_split h (fun c2 h => bif_split h (fun c3 h => bif_split h (fun c4 h => bif_split h (fun c5 h => bif_split h (fun c6 h => bif_split h (fun c7 h => bif_split h (fun c8 h => bif_split h (fun c9 h => ?_) (fun c9 h => ?_)) (fun c8 h => ?_)) (fun c7 h => ?_)) (fun c6 h => ?_)) (fun c5 h => ?_)) (fun c4 h => ?_)) (fun c3 h => ?_)) (fun c2 h => ?_)) (fun c1 h => ?_)) (fun c0 h => ?_)
  all_goals first
    | exact ret_at hR _ h (fun n => n) rfl rfl rfl (rn_int rfl) rfl entl_nil
theorem a14 (ta tn tc ts tp : Int) {r : Rt14} (h : Goes ((q14 ta tn tc ts tp)) ((p14 ta tn tc ts tp)) r) : CallR Try.prog 14 [.agg [.int .i64 ta, .int .i64 tn, .int .i64 tc, .int .i64 ts, .int .i64 tp]] [[]] 0 ((V14 ta tn tc ts tp) r) ((fun r => [newL (0 + 1) ((N14 ta tn tc ts tp) r) ++ []]) r) 400 ∧ ∃ F, Try.prog.funcs[14]? = some F ∧ F.body.isSome = true ∧ (F.name == "runtime.NumGoroutine") = false := by
  refine dec_calls (f := 14) (lo := 0) (hi := 400) Try.envOk Try.mixed noX_ok ((I14 ta tn tc ts tp)) ((V14 ta tn tc ts tp)) (fun r => [newL (0 + 1) ((N14 ta tn tc ts tp) r) ++ []]) (fn := mkFn Try.f14) (ts := []) (n := 400) rfl (by decide) (by simp) (names_of rfl) ?_ ?_ ?_ h
  · intro s; exact s.elim
  · intro Kst Kret x hS hR h
    exact Holds.eq (te14 cond Kst Kret ta tn tc ts tp) (be14 ta tn tc ts tp Kst Kret x hS hR h)
  · intro Kst Kret x hS hR s h; exact s.elim
noncomputable abbrev w14 {α : Type} (g : Int → Int → Int → Int → Int → α) (x : (Int × Int × Int × Int × Int × Unit) × Unit) : α := g x.1.1 x.1.2.1 x.1.2.2.1 x.1.2.2.2.1 x.1.2.2.2.2.1
noncomputable def k14  : Con := ⟨14, [.agg [.plain (.int .i64), .plain (.int .i64), .plain (.int .i64), .plain (.int .i64), .plain (.int .i64)]], w14 (fun ta tn tc ts tp => decide (True)), w14 (fun ta tn tc ts tp => (V14 ta tn tc ts tp) (S.evE ta tn tc ts tp)), w14 (fun ta tn tc ts tp => (N14 ta tn tc ts tp) (S.evE ta tn tc ts tp)), fun _ _ => .dead⟩
theorem s14 (ta tn tc ts tp : Int) (hp : True) : Goes ((q14 ta tn tc ts tp)) ((p14 ta tn tc ts tp)) (S.evE ta tn tc ts tp) := by
  unfold S.evE S.evB
  simp only [decide_eq_true_eq]
  show Goes _ _ _
  unfold p14
  repeat' (first | with_reducible refine goes_if (fun h => ?_) (fun h => ?_) <;> (try simp only [SH] at h) | exact goes_none.mpr (by omega))
  all_goals first
    | (exfalso; omega)
    | (rw [if_pos (by omega)]; exact goes_inr.mpr rfl)
    | (rw [if_neg (by omega)]; exact goes_inr.mpr rfl)
theorem k14_ok  : k14.ok Try.prog := by
  intro x hx
  obtain ⟨⟨ta, tn, tc, ts, tp, _⟩, _⟩ := x
  obtain ⟨h1, h2⟩ := a14 ta tn tc ts tp (s14 ta tn tc ts tp (of_dec hx rfl))
  exact ⟨⟨400, (by decide : 0 + 1 + 0 ≤ 400), h1⟩, h2⟩
abbrev St15  := Empty
abbrev Rt15  := Int
noncomputable def V15 (ta tn tc ts tp : Int) (r : Rt15) : PV := PV.int .i64 r
noncomputable def N15 (ta tn tc ts tp : Int) (r : Rt15) : List Blk := []
noncomputable def I15 (ta tn tc ts tp : Int) : St15 → Hd := fun s => s.elim
noncomputable def q15 (ta tn tc ts tp : Int) : St15 → Option (St15 ⊕ Rt15) := fun s => s.elim
noncomputable def p15 (ta tn tc ts tp : Int) : Option (St15 ⊕ Rt15) := bif (decide (ta ≥ 0)) then (bif (decide (ta ≤ 1099511627776)) then (bif (decide (tn ≥ 1)) then (bif (decide (tn ≤ 999)) then (bif (decide (tc ≥ 0)) then (bif (decide (tc ≤ 1048576)) then (bif (decide (ts ≥ 0)) then (bif (decide (ts ≤ 99)) then (bif (decide (tp ≥ -1099511627776)) then (bif (decide (tp ≤ 1099511627776)) then (some (.inr ((0 : Int)))) else (some (.inr ((6 : Int))))) else (some (.inr ((6 : Int))))) else (some (.inr ((6 : Int))))) else (some (.inr ((6 : Int))))) else (some (.inr ((6 : Int))))) else (some (.inr ((6 : Int))))) else (some (.inr ((6 : Int))))) else (some (.inr ((6 : Int))))) else (some (.inr ((6 : Int))))) else (some (.inr ((6 : Int))))
noncomputable def Te15 (test : TT) (Kst : KS) (Kret : KR) (ta tn tc ts tp : Int) : Prop := test (decide (ta ≥ 0)) (test (decide (ta ≤ 1099511627776)) (test (decide (tn ≥ 1)) (test (decide (tn ≤ 999)) (test (decide (tc ≥ 0)) (test (decide (tc ≤ 1048576)) (test (decide (ts ≥ 0)) (test (decide (ts ≤ 99)) (test (decide (tp ≥ -1099511627776)) (test (decide (tp ≤ 1099511627776)) (Kret (PV.int .i64 (0 : Int)) ([[]]) (1)) (Kret (PV.int .i64 (6 : Int)) ([[]]) (1))) (Kret (PV.int .i64 (6 : Int)) ([[]]) (1))) (Kret (PV.int .i64 (6 : Int)) ([[]]) (1))) (Kret (PV.int .i64 (6 : Int)) ([[]]) (1))) (Kret (PV.int .i64 (6 : Int)) ([[]]) (1))) (Kret (PV.int .i64 (6 : Int)) ([[]]) (1))) (Kret (PV.int .i64 (6 : Int)) ([[]]) (1))) (Kret (PV.int .i64 (6 : Int)) ([[]]) (1))) (Kret (PV.int .i64 (6 : Int)) ([[]]) (1))) (Kret (PV.int .i64 (6 : Int)) ([[]]) (1))
theorem te15 (test : TT) (Kst : KS) (Kret : KR) (ta tn tc ts tp : Int) : run test Try.env true noX true 400 ⟨15, [.cd (mkFn Try.f15).body], argT 0 [.agg [.int .i64 ta, .int .i64 tn, .int .i64 tc, .int .i64 ts, .int .i64 tp]], [[], []], 0⟩ (proj 0 [] Kst Kret) =
  Te15 test Kst Kret ta tn tc ts tp := by kernel_rfl
attribute [local irreducible] Int.subNatNat in
theorem be15 (ta tn tc ts tp : Int) (Kst : KS) (Kret : KR) (x : St15 ⊕ Rt15) (hS : HS 0 400 ((I15 ta tn tc ts tp)) Kst x) (hR : HR 0 400 ((V15 ta tn tc ts tp)) (fun r => [newL (0 + 1) ((N15 ta tn tc ts tp) r) ++ []]) Kret x) (h : p15 ta tn tc ts tp = some x) : Te15 cond Kst Kret ta tn tc ts tp := by
  unfold Te15
  unfold p15 at h
  refine bif_split h (fun c0 h => bif_split h (fun c1 h => bif_split h (fun c2 h => bif_split h (fun c3 h => bif_split h (fun c4 h => bif_split h (fun c5 h => bif_split h (fun c6 h => bif_split h (fun c7 h => bif_split h (fun c8 h => bif_split h (fun c9 h => ?_) (fun c9 h => ?_)) (fun c8 h => ?_)) (fun c7 h => ?_)) (fun c6 h => ?_)) (fun c5 h => ?_)) (fun c4 h => ?_)) (fun c3 h => ?_)) (fun c2 h => ?_)) (fun c1 h => ?_)) (fun c0 h => ?_)
  all_goals first
    | exact ret_at hR _ h (fun n => n) rfl rfl rfl (rn_int rfl) rfl entl_nil
theorem a15 (ta tn tc ts tp : Int) {r : Rt15} (h : Goes ((q15 ta tn tc ts tp)) ((p15 ta tn tc ts tp)) r) : CallR Try.prog 15 [.agg [.int .i64 ta, .int .i64 tn, .int .i64 tc, .int .i64 ts, .int .i64 tp]] [[]] 0 ((V15 ta tn tc ts tp) r) ((fun r => [newL (0 + 1) ((N15 ta tn tc ts tp) r) ++ []]) r) 400 ∧ ∃ F, Try.prog.funcs[15]? = some F ∧ F.body.isSome = true ∧ (F.name == "runtime.NumGoroutine") = false := by
  refine dec_calls (f := 15) (lo := 0) (hi := 400) Try.envOk Try.mixed noX_ok ((I15 ta tn tc ts tp)) ((V15 ta tn tc ts tp)) (fun r => [newL (0 + 1) ((N15 ta tn tc ts tp) r) ++ []]) (fn := mkFn Try.f15) (ts := []) (n := 400) rfl (by decide) (by simp) (names_of rfl) ?_ ?_ ?_ h
  · intro s; exact s.elim
  · intro Kst Kret x hS hR h
    exact Holds.eq (te15 cond Kst Kret ta tn tc ts tp) (be15 ta tn tc ts tp Kst Kret x hS hR h)
  · intro Kst Kret x hS hR s h; exact s.elim
noncomputable abbrev w15 {α : Type} (g : Int → Int → Int → Int → Int → α) (x : (Int × Int × Int × Int × Int × Unit) × Unit) : α := g x.1.1 x.1.2.1 x.1.2.2.1 x.1.2.2.2.1 x.1.2.2.2.2.1
noncomputable def k15  : Con := ⟨15, [.agg [.plain (.int .i64), .plain (.int .i64), .plain (.int .i64), .plain (.int .i64), .plain (.int .i64)]], w15 (fun ta tn tc ts tp => decide (True)), w15 (fun ta tn tc ts tp => (V15 ta tn tc ts tp) (S.evE ta tn tc ts tp)), w15 (fun ta tn tc ts tp => (N15 ta tn tc ts tp) (S.evE ta tn tc ts tp)), fun _ _ => .dead⟩
theorem s15 (ta tn tc ts tp : Int) (hp : True) : Goes ((q15 ta tn tc ts tp)) ((p15 ta tn tc ts tp)) (S.evE ta tn tc ts tp) := by
  unfold S.evE S.evB
  simp only [decide_eq_true_eq]
  show Goes _ _ _
  unfold p15
  repeat' (first | with_reducible refine goes_if (fun h => ?_) (fun h => ?_) <;> (try simp only [SH] at h) | exact goes_none.mpr (by omega))
  all_goals first
    | (exfalso; omega)
    | (rw [if_pos (by omega)]; exact goes_inr.mpr rfl)
    | (rw [if_neg (by omega)]; exact goes_inr.mpr rfl)
theorem k15_ok  : k15.ok Try.prog := by
  intro x hx
  obtain ⟨⟨ta, tn, tc, ts, tp, _⟩, _⟩ := x
  obtain ⟨h1, h2⟩ := a15 ta tn tc ts tp (s15 ta tn tc ts tp (of_dec hx rfl))
  exact ⟨⟨400, (by decide : 0 + 1 + 0 ≤ 400), h1⟩, h2⟩
noncomputable def xA0 (test : Bool → Prop → Prop → Prop) : Ext := consX test [k40, k14, k15]
theorem xA0_ok  : ExtOk Try.prog (xA0 cond) := consX_ok ⟨k40_ok, k14_ok, k15_ok, trivial⟩
section
variable {P : Program} {E : Env} (ok : EnvOk P E) (hm : P.follows .mixedOrders = true) {X : Ext} (hX : ExtOk P X)
include ok hm hX
theorem dec_free  {lo hi : Nat} {R : Type} {q : Empty → Option (Empty ⊕ R)} {p : Option (Empty ⊕ R)} {r : R} (I : Empty → Hd) (V : R → PV) (H1 : R → Heap) {f : FuncId} {fn : FnI} {args : List PV} {H : Heap} {n : Nat} (hf : nthFn E.fs f = some fn) (hl : lo ≤ hi) (hne : H ≠ []) (hN : Names H lo)
    (entry : ∀ Kst Kret x, HS lo hi I Kst x → HR lo hi V H1 Kret x → p = some x → Holds (run cond E true X false n ⟨f, [.cd fn.body], argT 0 args, [] :: H, lo⟩ (proj lo [] Kst Kret)))
    (h : Goes q p r) : CallR P f args H lo (V r) (H1 r) hi ∧ ∃ F, P.funcs[f]? = some F ∧ F.body.isSome = true ∧ (F.name == "runtime.NumGoroutine") = false := by
  cases hp : p with
  | none => rw [hp] at h; exact h.elim
  | some x =>
    rw [hp] at h
    cases x with
    | inl s => exact s.elim
    | inr r' =>
      cases h
      exact calls_free ok hm hX hf hl hne hN (entry (fun _ _ _ _ => False) _ (.inr _) (fun s => s.elim) (fun r hr v' H' fr' h => by cases hr; exact h) hp)
end
theorem cmpN_k (a b : Int) : (a < b ∧ S.cmpN a b = -1) ∨ (a = b ∧ S.cmpN a b = 0) ∨ (a > b ∧ S.cmpN a b = 1) := by
  unfold S.cmpN
  rcases Int.lt_trichotomy a b with h | h | h
  · left; exact ⟨h, if_pos h⟩
  · right; left; exact ⟨h, by rw [if_neg (by omega), if_neg (by omega)]⟩
  · right; right; exact ⟨h, by rw [if_neg (by omega), if_pos h]⟩
theorem or0_0  {x : Int} : S.or0 0 x = x := rfl
abbrev St13  := Empty
abbrev Rt13  := Int
noncomputable def V13 (ta tn tc ts tp ua un uc us up : Int) (r : Rt13) : PV := PV.int .i64 r
noncomputable def N13 (ta tn tc ts tp ua un uc us up : Int) (r : Rt13) : List Blk := []
noncomputable def I13 (ta tn tc ts tp ua un uc us up : Int) : St13 → Hd := fun s => s.elim
noncomputable def q13 (ta tn tc ts tp ua un uc us up : Int) : St13 → Option (St13 ⊕ Rt13) := fun s => s.elim
noncomputable def p13 (ta tn tc ts tp ua un uc us up : Int) : Option (St13 ⊕ Rt13) := bif (S.cmpN ta ua != 0) then (some (.inr (S.cmpN ta ua))) else (bif (S.cmpN ts us != 0) then (some (.inr (S.cmpN ts us))) else (bif (S.cmpN tn un != 0) then (some (.inr (S.cmpN tn un))) else (bif (S.cmpN tc uc != 0) then (some (.inr (S.cmpN tc uc))) else (bif (S.cmpN tp up != 0) then (some (.inr (S.cmpN tp up))) else (some (.inr ((0 : Int))))))))
noncomputable def Te13 (test : TT) (Kst : KS) (Kret : KR) (ta tn tc ts tp ua un uc us up : Int) : Prop := test (true) (test (true) (test (true) (test (true) (test (true) (test (true) (test (true) (test (S.cmpN ta ua != 0) (Kret (PV.int .i64 (S.cmpN ta ua)) ([[]]) (8)) (test (true) (test (true) (test (true) (test (S.cmpN ts us != 0) (Kret (PV.int .i64 (S.cmpN ts us)) ([[]]) (8)) (test (true) (test (true) (test (true) (test (S.cmpN tn un != 0) (Kret (PV.int .i64 (S.cmpN tn un)) ([[]]) (8)) (test (true) (test (true) (test (true) (test (S.cmpN tc uc != 0) (Kret (PV.int .i64 (S.cmpN tc uc)) ([[]]) (8)) (test (true) (test (true) (test (true) (test (S.cmpN tp up != 0) (Kret (PV.int .i64 (S.cmpN tp up)) ([[]]) (8)) (test (true) (test (false) (test (false) (False) (False)) (Kret (PV.int .i64 (0 : Int)) ([[]]) (8))) (False))) (False)) (Kret (PV.int .i64 (0 : Int)) ([[]]) (8))) (False))) (False)) (Kret (PV.int .i64 (0 : Int)) ([[]]) (8))) (False))) (False)) (Kret (PV.int .i64 (0 : Int)) ([[]]) (8))) (False))) (False)) (Kret (PV.int .i64 (0 : Int)) ([[]]) (8))) (False))) (False)) (Kret (PV.int .i64 (0 : Int)) ([[]]) (8))) (False)) (False)) (False)) (False)) (False)
theorem te13 (test : TT) (Kst : KS) (Kret : KR) (ta tn tc ts tp ua un uc us up : Int) : run test Try.env true (xA0 test) true 400 ⟨13, [.cd (mkFn Try.f13).body], argT 0 [.agg [.int .i64 ta, .int .i64 tn, .int .i64 tc, .int .i64 ts, .int .i64 tp], .agg [.int .i64 ua, .int .i64 un, .int .i64 uc, .int .i64 us, .int .i64 up]], [[], []], 0⟩ (proj 0 [] Kst Kret) =
  Te13 test Kst Kret ta tn tc ts tp ua un uc us up := by kernel_rfl
attribute [local irreducible] Int.subNatNat in
theorem be13 (ta tn tc ts tp ua un uc us up : Int) (Kst : KS) (Kret : KR) (x : St13 ⊕ Rt13) (hS : HS 0 400 ((I13 ta tn tc ts tp ua un uc us up)) Kst x) (hR : HR 0 400 ((V13 ta tn tc ts tp ua un uc us up)) (fun r => [newL (0 + 1) ((N13 ta tn tc ts tp ua un uc us up) r) ++ []]) Kret x) (h : p13 ta tn tc ts tp ua un uc us up = some x) : Te13 cond Kst Kret ta tn tc ts tp ua un uc us up := by
  unfold Te13
  unfold p13 at h
  exact cond_yes rfl (cond_yes rfl (cond_yes rfl (cond_yes rfl (cond_yes rfl (cond_yes rfl (cond_yes rfl (bif_split h (fun c0 h => ret_at hR _ h (fun n => n) rfl rfl rfl (rn_int rfl) rfl entl_nil) (fun c0 h => cond_yes rfl (cond_yes rfl (cond_yes rfl (bif_split h (fun c1 h => ret_at hR _ h (fun n => n) rfl rfl rfl (rn_int rfl) rfl entl_nil) (fun c1 h => cond_yes rfl (cond_yes rfl (cond_yes rfl (bif_split h (fun c2 h => ret_at hR _ h (fun n => n) rfl rfl rfl (rn_int rfl) rfl entl_nil) (fun c2 h => cond_yes rfl (cond_yes rfl (cond_yes rfl (bif_split h (fun c3 h => ret_at hR _ h (fun n => n) rfl rfl rfl (rn_int rfl) rfl entl_nil) (fun c3 h => cond_yes rfl (cond_yes rfl (cond_yes rfl (bif_split h (fun c4 h => ret_at hR _ h (fun n => n) rfl rfl rfl (rn_int rfl) rfl entl_nil) (fun c4 h => cond_yes rfl (cond_no rfl (ret_at hR _ h (fun n => n) rfl rfl rfl (rn_int rfl) rfl entl_nil))))))))))))))))))))))))))
theorem a13 (ta tn tc ts tp ua un uc us up : Int) {r : Rt13} (h : Goes ((q13 ta tn tc ts tp ua un uc us up)) ((p13 ta tn tc ts tp ua un uc us up)) r) : CallR Try.prog 13 [.agg [.int .i64 ta, .int .i64 tn, .int .i64 tc, .int .i64 ts, .int .i64 tp], .agg [.int .i64 ua, .int .i64 un, .int .i64 uc, .int .i64 us, .int .i64 up]] [[]] 0 ((V13 ta tn tc ts tp ua un uc us up) r) ((fun r => [newL (0 + 1) ((N13 ta tn tc ts tp ua un uc us up) r) ++ []]) r) 400 ∧ ∃ F, Try.prog.funcs[13]? = some F ∧ F.body.isSome = true ∧ (F.name == "runtime.NumGoroutine") = false := by
  refine dec_calls (f := 13) (lo := 0) (hi := 400) Try.envOk Try.mixed xA0_ok ((I13 ta tn tc ts tp ua un uc us up)) ((V13 ta tn tc ts tp ua un uc us up)) (fun r => [newL (0 + 1) ((N13 ta tn tc ts tp ua un uc us up) r) ++ []]) (fn := mkFn Try.f13) (ts := []) (n := 400) rfl (by decide) (by simp) (names_of rfl) ?_ ?_ ?_ h
  · intro s; exact s.elim
  · intro Kst Kret x hS hR h
    exact Holds.eq (te13 cond Kst Kret ta tn tc ts tp ua un uc us up) (be13 ta tn tc ts tp ua un uc us up Kst Kret x hS hR h)
  · intro Kst Kret x hS hR s h; exact s.elim
noncomputable abbrev w13 {α : Type} (g : Int → Int → Int → Int → Int → Int → Int → Int → Int → Int → α) (x : (Int × Int × Int × Int × Int × Unit) × (Int × Int × Int × Int × Int × Unit) × Unit) : α := g x.1.1 x.1.2.1 x.1.2.2.1 x.1.2.2.2.1 x.1.2.2.2.2.1 x.2.1.1 x.2.1.2.1 x.2.1.2.2.1 x.2.1.2.2.2.1 x.2.1.2.2.2.2.1
noncomputable def k13  : Con := ⟨13, [.agg [.plain (.int .i64), .plain (.int .i64), .plain (.int .i64), .plain (.int .i64), .plain (.int .i64)], .agg [.plain (.int .i64), .plain (.int .i64), .plain (.int .i64), .plain (.int .i64), .plain (.int .i64)]], w13 (fun ta tn tc ts tp ua un uc us up => decide (True)), w13 (fun ta tn tc ts tp ua un uc us up => (V13 ta tn tc ts tp ua un uc us up) (S.ecmp ta tn tc ts tp ua un uc us up)), w13 (fun ta tn tc ts tp ua un uc us up => (N13 ta tn tc ts tp ua un uc us up) (S.ecmp ta tn tc ts tp ua un uc us up)), fun _ _ => .dead⟩
theorem s13 (ta tn tc ts tp ua un uc us up : Int) (hp : True) : Goes ((q13 ta tn tc ts tp ua un uc us up)) ((p13 ta tn tc ts tp ua un uc us up)) (S.ecmp ta tn tc ts tp ua un uc us up) := by
  unfold S.ecmp
  unfold p13
  rcases cmpN_k ta ua with ⟨h0, e⟩ | ⟨h0, e⟩ | ⟨h0, e⟩
  · rw [e]; exact goes_ok rfl (goes_inr.mpr rfl)
  rotate_left
  · rw [e]; exact goes_ok rfl (goes_inr.mpr rfl)
  rw [e]
  refine goes_no rfl ?_
  rw [or0_0]
  rcases cmpN_k ts us with ⟨h1, e⟩ | ⟨h1, e⟩ | ⟨h1, e⟩
  · rw [e]; exact goes_ok rfl (goes_inr.mpr rfl)
  rotate_left
  · rw [e]; exact goes_ok rfl (goes_inr.mpr rfl)
  rw [e]
  refine goes_no rfl ?_
  rw [or0_0]
  rcases cmpN_k tn un with ⟨h2, e⟩ | ⟨h2, e⟩ | ⟨h2, e⟩
  · rw [e]; exact goes_ok rfl (goes_inr.mpr rfl)
  rotate_left
  · rw [e]; exact goes_ok rfl (goes_inr.mpr rfl)
  rw [e]
  refine goes_no rfl ?_
  rw [or0_0]
  rcases cmpN_k tc uc with ⟨h3, e⟩ | ⟨h3, e⟩ | ⟨h3, e⟩
  · rw [e]; exact goes_ok rfl (goes_inr.mpr rfl)
  rotate_left
  · rw [e]; exact goes_ok rfl (goes_inr.mpr rfl)
  rw [e]
  refine goes_no rfl ?_
  rw [or0_0]
  rcases cmpN_k tp up with ⟨h4, e⟩ | ⟨h4, e⟩ | ⟨h4, e⟩
  · rw [e]; exact goes_ok rfl (goes_inr.mpr rfl)
  rotate_left
  · rw [e]; exact goes_ok rfl (goes_inr.mpr rfl)
  rw [e]
  refine goes_no rfl ?_
  exact goes_inr.mpr rfl
theorem k13_ok  : k13.ok Try.prog := by
  intro x hx
  obtain ⟨⟨ta, tn, tc, ts, tp, _⟩, ⟨ua, un, uc, us, up, _⟩, _⟩ := x
  obtain ⟨h1, h2⟩ := a13 ta tn tc ts tp ua un uc us up (s13 ta tn tc ts tp ua un uc us up (of_dec hx rfl))
  exact ⟨⟨400, (by decide : 0 + 1 + 0 ≤ 400), h1⟩, h2⟩
abbrev Rt16  := Int
noncomputable def V16 (ta tn tc ts tp ua un uc us up : Int) (r : Rt16) : PV := PV.int .i64 r
noncomputable def N16 (ta tn tc ts tp ua un uc us up : Int) (r : Rt16) : List Blk := []
noncomputable abbrev w16 {α : Type} (g : Int → Int → Int → Int → Int → Int → Int → Int → Int → Int → α) (x : (Int × Int × Int × Int × Int × Unit) × (Int × Int × Int × Int × Int × Unit) × Unit) : α := g x.1.1 x.1.2.1 x.1.2.2.1 x.1.2.2.2.1 x.1.2.2.2.2.1 x.2.1.1 x.2.1.2.1 x.2.1.2.2.1 x.2.1.2.2.2.1 x.2.1.2.2.2.2.1
noncomputable def k16  : Con := ⟨16, [.agg [.plain (.int .i64), .plain (.int .i64), .plain (.int .i64), .plain (.int .i64), .plain (.int .i64)], .agg [.plain (.int .i64), .plain (.int .i64), .plain (.int .i64), .plain (.int .i64), .plain (.int .i64)]], w16 (fun ta tn tc ts tp ua un uc us up => decide (True)), w16 (fun ta tn tc ts tp ua un uc us up => (V16 ta tn tc ts tp ua un uc us up) (S.ecmp ta tn tc ts tp ua un uc us up)), w16 (fun ta tn tc ts tp ua un uc us up => (N16 ta tn tc ts tp ua un uc us up) (S.ecmp ta tn tc ts tp ua un uc us up)), fun _ _ => .dead⟩
noncomputable def k12  : Con := ⟨12, [], fun _ => true, fun _ => .bool true, fun _ => [], fun _ _ => .dead⟩
theorem te12 (Kst : KS) (Kret : KR) : run cond Try.env true noX false 4000 ⟨12, [.cd (mkFn Try.f12).body], [], [[], []], 0⟩ (proj 0 [] Kst Kret) = Kret (.tf true) [[]] 75 := by kernel_rfl
theorem k12_ok  : k12.ok Try.prog := awake_ok (fn := mkFn Try.f12) (hi := 76) (n := 4000) Try.envOk Try.mixed noX_ok rfl (by decide) (by decide : Nat.ble 75 76 = true) te12
section
variable {a n c s p a' n' c' s' p' a2 n2 c2 s2 p2 : Int}
end
namespace S
def getN (f : Nat → Int) : Nat → Int
  | 0 => 0
  | n + 1 => getN f n * 256 + f n
def getS (st : ByteArray) : Int := getN (fun j => keys st j) st.size
def ckN (f : Nat → Int) (n : Nat) : Int := sumN (fun j => ((j : Int) + 1) * f j) n
def ckS (st : ByteArray) : Int := ckN (fun j => keys st j) st.size % 65521
end S
theorem key_b (st : ByteArray) (j : Nat) : 0 ≤ keys st j ∧ keys st j ≤ 255 := by
  unfold keys
  have := (st.data.toList.getD j 0).toNat_lt
  omega
theorem ckN_b  {f : Nat → Int} (h : ∀ j, 0 ≤ f j ∧ f j ≤ 255) : ∀ {n : Nat}, n ≤ 1000 → 0 ≤ S.ckN f n ∧ S.ckN f n ≤ 256000 * n
  | 0, _ => ⟨Int.le_refl _, Int.le_refl _⟩
  | n + 1, hn => by
    have ih := ckN_b h (n := n) (by omega)
    have h0 := h n
    have e : S.ckN f (n + 1) = S.ckN f n + ((n : Int) + 1) * f n := rfl
    have m0 : 0 ≤ ((n : Int) + 1) * f n := Int.mul_nonneg (by omega) h0.1
    have m1 : ((n : Int) + 1) * f n ≤ 1000 * f n := Int.mul_le_mul_of_nonneg_right (by omega) h0.1
    rw [e]
    omega
def p256  : Nat → Int
  | 0 => 1
  | n + 1 => 256 * p256 n
theorem getN_b  {f : Nat → Int} (h : ∀ j, 0 ≤ f j ∧ f j ≤ 255) : ∀ {n : Nat}, 0 ≤ S.getN f n ∧ S.getN f n < p256 n
  | 0 => ⟨Int.le_refl _, by show (0 : Int) < 1; decide⟩
  | n + 1 => by
    have ih := getN_b h (n := n)
    have h0 := h n
    simp only [S.getN, p256]
    omega
theorem p256_6  {n : Nat} (h : n ≤ 6) : p256 n ≤ 281474976710656 := by
  have : n = 0 ∨ n = 1 ∨ n = 2 ∨ n = 3 ∨ n = 4 ∨ n = 5 ∨ n = 6 := by omega
  rcases this with rfl | rfl | rfl | rfl | rfl | rfl | rfl <;> decide
theorem or_shl  {x c : Int} (h : 0 ≤ x ∧ x < 281474976710656) (hc : 0 ≤ c ∧ c ≤ 255) : S.orB .i64 (S.shlB .i64 x 8) c = x * 256 + c := by
  obtain ⟨n, rfl⟩ := Int.eq_ofNat_of_zero_le h.1
  obtain ⟨m, rfl⟩ := Int.eq_ofNat_of_zero_le hc.1
  have e0 : S.shlB .i64 (n : Int) 8 = ((n * 256 : Nat) : Int) := by
    show IntKind.wrap .i64 ((n : Int) * 2 ^ (min (8 : Int).toNat 64)) = _
    have : (2 : Int) ^ (min (8 : Int).toNat 64) = 256 := by decide
    rw [this, IntKind.wrap_i64]; omega
  rw [e0]
  show IntKind.wrap .i64 (((BitVec.ofInt 64 ((n * 256 : Nat) : Int) ||| BitVec.ofInt 64 (m : Int)).toNat : Nat) : Int) = _
  have e1 : (BitVec.ofInt 64 ((n * 256 : Nat) : Int)).toNat = n * 256 := by rw [BitVec.toNat_ofInt]; omega
  have e2 : (BitVec.ofInt 64 (m : Int)).toNat = m := by rw [BitVec.toNat_ofInt]; omega
  rw [BitVec.toNat_or, e1, e2]
  have e3 : n * 256 ||| m = n * 256 + m := by
    have := Nat.shiftLeft_add_eq_or_of_lt (a := n) (i := 8) (b := m) (by omega)
    rw [Nat.shiftLeft_eq] at this
    exact this.symm
  rw [e3, IntKind.wrap_i64]; omega
inductive St51 where
  | h0 (x0 : Int) (x1 : Int) (x2 : List Int)
abbrev Rt51  := Int
noncomputable def V51 (st : ByteArray) (r : Rt51) : PV := PV.int .i64 r
noncomputable def N51 (st : ByteArray) (r : Rt51) : List Blk := []
noncomputable def I51 (st : ByteArray) : St51 → Hd
  | .h0 x0 x1 x2 => ⟨hd Try.f51 0, [PV.int .i64 x0, PV.own (0) (1) (List.length x2),
 PV.int .i64 (↑(ByteArray.size st) : Int), PV.int .i64 x1], [[(0, (true, Blk.cols (List.length x2) [Col.int .u8 fun j => S.at' x2 j]))], []], 1⟩
noncomputable def q51 (st : ByteArray) : St51 → Option (St51 ⊕ Rt51) | .h0 x0 x1 x2 => bif (decide (x1 < (↑(ByteArray.size st) : Int))) then (bif (decide ((0 : Int) ≤ x1 ∧ x1 < (↑(List.length x2) : Int))) then (bif (decide (Int.toNat x1 < List.length x2)) then (bif (lim .i64 (x1 + 1)) then (bif (lim .i64 (S.at' x2 (Int.toNat x1))) then (bif (lim .i64 ((x1 + 1) * S.at' x2 (Int.toNat x1))) then (bif (lim .i64 (x0 + (x1 + 1) * S.at' x2 (Int.toNat x1))) then (some (.inl (.h0 (x0 + (x1 + 1) * S.at' x2 (Int.toNat x1)) (x1 + 1) (x2)))) else (none)) else (none)) else (none)) else (none)) else (none)) else (none)) else (some (.inr (Int.tmod x0 (65521 : Int))))
noncomputable def p51 (st : ByteArray) : Option (St51 ⊕ Rt51) := some (.inl (.h0 ((0 : Int)) ((0 : Int)) (S.mkl (ByteArray.size st) fun j => keys st j)))
noncomputable def Te51 (test : TT) (Kst : KS) (Kret : KR) (st : ByteArray) : Prop := Kst (hd Try.f51 0) ([PV.int .i64 (0 : Int), PV.own (0) (1) (ByteArray.size st), PV.int .i64 (↑(ByteArray.size st) : Int), PV.int .i64 (0 : Int)]) ([[(0, true, Blk.cols (ByteArray.size st) [Col.int .u8 fun j => keys st j])]]) (1)
theorem te51 (test : TT) (Kst : KS) (Kret : KR) (st : ByteArray) : run test Try.env true noX true 400 ⟨51, [.cd (mkFn Try.f51).body], argT 0 [.str st], [[], []], 0⟩ (proj 0 [3, 7, 8, 9] Kst Kret) =
  Te51 test Kst Kret st := by kernel_rfl
noncomputable def T51_0 (test : TT) (Kst : KS) (Kret : KR) (st : ByteArray) (x0 x1 : Int) (x2 : List Int) : Prop := test (decide (x1 < (↑(ByteArray.size st) : Int))) (test (decide ((0 : Int) ≤ x1 ∧ x1 < (↑(List.length x2) : Int))) (test (decide (Int.toNat x1 < List.length x2)) (test (lim .i64 (x1 + 1)) (test (lim .i64 (S.at' x2 (Int.toNat x1))) (test (lim .i64 ((x1 + 1) * S.at' x2 (Int.toNat x1))) (test (lim .i64 (x0 + (x1 + 1) * S.at' x2 (Int.toNat x1))) (test (lim .i64 (x1 + 1)) (Kst (hd Try.f51 0) ([PV.int .i64 (x0 + (x1 + 1) * S.at' x2 (Int.toNat x1)), PV.own (0) (1) (List.length x2), PV.int .i64 (↑(ByteArray.size st) : Int), PV.int .i64 (x1 + 1)]) ([[(0, true, Blk.cols (List.length x2) [Col.int .u8 fun j => S.at' x2 j])]]) (1)) (False)) (False)) (False)) (False)) (False)) (False)) (False)) (test (false) (False) (Kret (PV.int .i64 (Int.tmod x0 (65521 : Int))) ([[]]) (1)))
theorem t51_0 (test : TT) (Kst : KS) (Kret : KR) (st : ByteArray) (x0 x1 : Int) (x2 : List Int) : run test Try.env true noX true 400 ⟨51, hd Try.f51 0, zipT [3, 7, 8, 9] [PV.int .i64 x0, PV.own (0) (1) (List.length x2),
 PV.int .i64 (↑(ByteArray.size st) : Int), PV.int .i64 x1], [[(0, (true, Blk.cols (List.length x2) [Col.int .u8 fun j => S.at' x2 j]))], []], 1⟩ (proj 0 [3, 7, 8, 9] Kst Kret) =
  T51_0 test Kst Kret st x0 x1 x2 := by kernel_rfl
noncomputable abbrev J51 (st : ByteArray) : Rt51 → Heap := fun r => [newL (0 + 1) ((N51 st) r) ++ []]
attribute [local irreducible] Int.subNatNat in
theorem be51 (st : ByteArray) (Kst : KS) (Kret : KR) (x : St51 ⊕ Rt51) (hS : HS 0 400 ((I51 st)) Kst x) (hR : HR 0 400 ((V51 st)) (J51 st) Kret x) (h : (some (.inl (.h0 ((0 : Int)) ((0 : Int)) (S.mkl (ByteArray.size st) fun j => keys st j))) : Option (St51 ⊕ Rt51)) = some x) : Te51 cond Kst Kret st := by
  unfold Te51
  exact stop_at hS _ h (fun n => bif Nat.beq n 0 then 0 else n) rfl rfl rfl ⟨(rn_int rfl), ⟨(rn_own (use_own rfl) rfl mkl_len), ⟨(rn_int rfl), ⟨(rn_int rfl), trivial⟩⟩⟩⟩ rfl (entl_new (use_own rfl) rfl (Nat.le_of_eq mkl_len) (rcs_int (fun _ hj => col_mkl (fun (t : Int) => t) hj) rcs_nil) entl_nil)
attribute [local irreducible] Int.subNatNat in
theorem b51_0 (st : ByteArray) (Kst : KS) (Kret : KR) (x : St51 ⊕ Rt51) (hS : HS 0 400 ((I51 st)) Kst x) (hR : HR 0 400 ((V51 st)) (J51 st) Kret x) (x0 x1 : Int) (x2 : List Int) (h : q51 st (.h0 x0 x1 x2) = some x) : T51_0 cond Kst Kret st x0 x1 x2 := by
  unfold T51_0
  rw [q51] at h
  exact bif_split h (fun c0 h => bif_split h (fun c1 h => bif_split h (fun c2 h => bif_split h (fun c3 h => bif_split h (fun c4 h => bif_split h (fun c5 h => bif_split h (fun c6 h => cond_yes c3 (stop_at hS _ h (fun n => bif Nat.beq n 0 then 0 else n) rfl rfl rfl ⟨(rn_int rfl), ⟨(rn_own (use_own rfl) rfl rfl), ⟨(rn_int rfl), ⟨(rn_int rfl), trivial⟩⟩⟩⟩ rfl (entl_new (use_own rfl) rfl (Nat.le_of_eq rfl) (rcs_int (fun _ _ => rfl) rcs_nil) entl_nil))) (fun c6 h => no_some h)) (fun c5 h => no_some h)) (fun c4 h => no_some h)) (fun c3 h => no_some h)) (fun c2 h => no_some h)) (fun c1 h => no_some h)) (fun c0 h => cond_no rfl (ret_at hR _ h (fun n => n) rfl rfl rfl (rn_int rfl) rfl entl_nil))
theorem a51 (st : ByteArray) {r : Rt51} (h : Goes ((q51 st)) ((p51 st)) r) : CallR Try.prog 51 [.str st] [[]] 0 ((V51 st) r) ((J51 st) r) 400 ∧ ∃ F, Try.prog.funcs[51]? = some F ∧ F.body.isSome = true ∧ (F.name == "runtime.NumGoroutine") = false := by
  refine dec_calls (f := 51) (lo := 0) (hi := 400) Try.envOk Try.mixed noX_ok ((I51 st)) ((V51 st)) (J51 st) (fn := mkFn Try.f51) (ts := [3, 7, 8, 9]) (n := 400) rfl (by decide) (by simp) (names_of rfl) ?_ ?_ ?_ h
  · intro s; cases s <;> exact ⟨hd_ok _ _, by simp [I51], names_of rfl, Nat.le_of_ble_eq_true rfl⟩
  · intro Kst Kret x hS hR h
    exact Holds.eq (te51 cond Kst Kret st) (be51 st Kst Kret x hS hR h)
  · intro Kst Kret x hS hR s h
    cases s with
    | h0 x0 x1 x2 => exact Holds.eq (t51_0 cond Kst Kret st x0 x1 x2) (b51_0 st Kst Kret x hS hR x0 x1 x2 h)
noncomputable abbrev w51 {α : Type} (g : ByteArray → α) (x : ByteArray × Unit) : α := g x.1
noncomputable def k51  : Con := ⟨51, [.one (.plain (.str))], w51 (fun st => decide (st.size ≤ 1000)), w51 (fun st => (V51 st) (S.ckS st)), w51 (fun st => (N51 st) (S.ckS st)), fun _ _ => .dead⟩
theorem s51' (st : ByteArray) (hp : st.size ≤ 1000) : ∀ (k i : Nat), i + k = st.size → Comes (q51 st) (.h0 (S.ckN (fun j => keys st j) i) (i : Int) (S.mkl st.size fun j => keys st j)) (S.ckS st) := by
  intro k
  induction k with
  | zero =>
    intro i hi
    obtain rfl : st.size = i := by omega
    have hb := ckN_b (f := fun j => keys st j) (key_b st) hp
    unfold S.ckS
    rw [← Int.tmod_eq_emod_of_nonneg hb.1]
    generalize S.ckN _ _ = v at *
    apply Comes.of
    show Goes _ _ _
    (first | rw [q51] | unfold q51)
    repeat' (first | with_reducible refine goes_if (fun h => ?_) (fun h => ?_) <;> (try simp only [SH] at h) | exact goes_none.mpr (by omega))
    all_goals first | (exfalso; omega) | exact goes_inr.mpr rfl
  | succ k ih =>
    intro i hi
    have ih := ih (i + 1) (by omega)
    have hb := ckN_b (f := fun j => keys st j) (key_b st) (n := i) (by omega)
    have hb2 := ckN_b (f := fun j => keys st j) (key_b st) (n := i + 1) (by omega)
    have hk := key_b st i
    have e : S.ckN (fun j => keys st j) (i + 1) = S.ckN (fun j => keys st j) i + ((i : Int) + 1) * keys st i := rfl
    rw [e] at ih hb2
    have m0 : 0 ≤ ((i : Int) + 1) * keys st i := Int.mul_nonneg (by omega) hk.1
    generalize S.ckN (fun j => keys st j) i = v at *
    have ea : S.at' (S.mkl st.size fun j => keys st j) i = keys st i := at_mkl (by omega)
    apply Comes.of
    show Goes _ _ _
    rw [q51]
    simp only [Int.toNat_natCast, ea, mkl_len]
    generalize ((i : Int) + 1) * keys st i = w at *
    repeat' (first | with_reducible refine goes_if (fun h => ?_) (fun h => ?_) <;> (try simp only [SH] at h) | exact goes_none.mpr (by omega))
    all_goals first | (exfalso; omega) | exact ih
theorem s51 (st : ByteArray) (hp : st.size ≤ 1000) : Goes ((q51 st)) ((p51 st)) (S.ckS st) := by
  exact s51' st hp st.size 0 (by omega)
theorem k51_ok  : k51.ok Try.prog := by
  intro x hx
  obtain ⟨st, _⟩ := x
  obtain ⟨h1, h2⟩ := a51 st (s51 st (of_dec hx rfl))
  exact ⟨⟨400, (by decide : 0 + 1 + 0 ≤ 400), h1⟩, h2⟩
inductive St53 where
  | h0 (x0 : Int) (x1 : Int)
abbrev Rt53  := Int
noncomputable def V53 (st : ByteArray) (r : Rt53) : PV := PV.int .i64 r
noncomputable def N53 (st : ByteArray) (r : Rt53) : List Blk := []
noncomputable def I53 (st : ByteArray) : St53 → Hd
  | .h0 x0 x1 => ⟨hd Try.f53 0, [PV.str st, PV.int .i64 x0, PV.int .i64 x1], [[], []], 0⟩
noncomputable def q53 (st : ByteArray) : St53 → Option (St53 ⊕ Rt53) | .h0 x0 x1 => bif (decide (x1 < (↑(ByteArray.size st) : Int))) then (bif (lim .i64 (x1 + 1)) then (bif (decide ((0 : Int) ≤ x1 ∧ x1 < (↑(ByteArray.size st) : Int))) then (bif (lim .i64 (keys st (Int.toNat x1))) then (bif (lim .i64 ((x1 + 1) * keys st (Int.toNat x1))) then (bif (lim .i64 (x0 + (x1 + 1) * keys st (Int.toNat x1))) then (some (.inl (.h0 (x0 + (x1 + 1) * keys st (Int.toNat x1)) (x1 + 1)))) else (none)) else (none)) else (none)) else (none)) else (none)) else (some (.inr (Int.tmod x0 (65521 : Int))))
noncomputable def p53 (st : ByteArray) : Option (St53 ⊕ Rt53) := some (.inl (.h0 ((0 : Int)) ((0 : Int))))
noncomputable def Te53 (test : TT) (Kst : KS) (Kret : KR) (st : ByteArray) : Prop := Kst (hd Try.f53 0) ([PV.str st, PV.int .i64 (0 : Int), PV.int .i64 (0 : Int)]) ([[]]) (0)
theorem te53 (test : TT) (Kst : KS) (Kret : KR) (st : ByteArray) : run test Try.env true noX true 400 ⟨53, [.cd (mkFn Try.f53).body], argT 0 [.str st], [[], []], 0⟩ (proj 0 [0, 3, 4] Kst Kret) =
  Te53 test Kst Kret st := by kernel_rfl
noncomputable def T53_0 (test : TT) (Kst : KS) (Kret : KR) (st : ByteArray) (x0 x1 : Int) : Prop := test (decide (x1 < (↑(ByteArray.size st) : Int))) (test (lim .i64 (x1 + 1)) (test (decide ((0 : Int) ≤ x1 ∧ x1 < (↑(ByteArray.size st) : Int))) (test (lim .i64 (keys st (Int.toNat x1))) (test (lim .i64 ((x1 + 1) * keys st (Int.toNat x1))) (test (lim .i64 (x0 + (x1 + 1) * keys st (Int.toNat x1))) (test (lim .i64 (x1 + 1)) (Kst (hd Try.f53 0) ([PV.str st, PV.int .i64 (x0 + (x1 + 1) * keys st (Int.toNat x1)), PV.int .i64 (x1 + 1)]) ([[]]) (0)) (False)) (False)) (False)) (False)) (False)) (False)) (test (false) (False) (Kret (PV.int .i64 (Int.tmod x0 (65521 : Int))) ([[]]) (0)))
theorem t53_0 (test : TT) (Kst : KS) (Kret : KR) (st : ByteArray) (x0 x1 : Int) : run test Try.env true noX true 400 ⟨53, hd Try.f53 0, zipT [0, 3, 4] [PV.str st, PV.int .i64 x0, PV.int .i64 x1], [[], []], 0⟩ (proj 0 [0, 3, 4] Kst Kret) =
  T53_0 test Kst Kret st x0 x1 := by kernel_rfl
noncomputable abbrev J53 (st : ByteArray) : Rt53 → Heap := fun r => [newL (0 + 1) ((N53 st) r) ++ []]
attribute [local irreducible] Int.subNatNat in
theorem be53 (st : ByteArray) (Kst : KS) (Kret : KR) (x : St53 ⊕ Rt53) (hS : HS 0 400 ((I53 st)) Kst x) (hR : HR 0 400 ((V53 st)) (J53 st) Kret x) (h : (some (.inl (.h0 ((0 : Int)) ((0 : Int)))) : Option (St53 ⊕ Rt53)) = some x) : Te53 cond Kst Kret st := by
  unfold Te53
  exact stop_at hS _ h (fun n => n) rfl rfl rfl ⟨(rn_str rfl), ⟨(rn_int rfl), ⟨(rn_int rfl), trivial⟩⟩⟩ rfl entl_nil
attribute [local irreducible] Int.subNatNat in
theorem b53_0 (st : ByteArray) (Kst : KS) (Kret : KR) (x : St53 ⊕ Rt53) (hS : HS 0 400 ((I53 st)) Kst x) (hR : HR 0 400 ((V53 st)) (J53 st) Kret x) (x0 x1 : Int) (h : q53 st (.h0 x0 x1) = some x) : T53_0 cond Kst Kret st x0 x1 := by
  unfold T53_0
  rw [q53] at h
  exact bif_split h (fun c0 h => bif_split h (fun c1 h => bif_split h (fun c2 h => bif_split h (fun c3 h => bif_split h (fun c4 h => bif_split h (fun c5 h => cond_yes c1 (stop_at hS _ h (fun n => n) rfl rfl rfl ⟨(rn_str rfl), ⟨(rn_int rfl), ⟨(rn_int rfl), trivial⟩⟩⟩ rfl entl_nil)) (fun c5 h => no_some h)) (fun c4 h => no_some h)) (fun c3 h => no_some h)) (fun c2 h => no_some h)) (fun c1 h => no_some h)) (fun c0 h => cond_no rfl (ret_at hR _ h (fun n => n) rfl rfl rfl (rn_int rfl) rfl entl_nil))
theorem a53 (st : ByteArray) {r : Rt53} (h : Goes ((q53 st)) ((p53 st)) r) : CallR Try.prog 53 [.str st] [[]] 0 ((V53 st) r) ((J53 st) r) 400 ∧ ∃ F, Try.prog.funcs[53]? = some F ∧ F.body.isSome = true ∧ (F.name == "runtime.NumGoroutine") = false := by
  refine dec_calls (f := 53) (lo := 0) (hi := 400) Try.envOk Try.mixed noX_ok ((I53 st)) ((V53 st)) (J53 st) (fn := mkFn Try.f53) (ts := [0, 3, 4]) (n := 400) rfl (by decide) (by simp) (names_of rfl) ?_ ?_ ?_ h
  · intro s; cases s <;> exact ⟨hd_ok _ _, by simp [I53], names_of rfl, Nat.le_of_ble_eq_true rfl⟩
  · intro Kst Kret x hS hR h
    exact Holds.eq (te53 cond Kst Kret st) (be53 st Kst Kret x hS hR h)
  · intro Kst Kret x hS hR s h
    cases s with
    | h0 x0 x1 => exact Holds.eq (t53_0 cond Kst Kret st x0 x1) (b53_0 st Kst Kret x hS hR x0 x1 h)
noncomputable abbrev w53 {α : Type} (g : ByteArray → α) (x : ByteArray × Unit) : α := g x.1
noncomputable def k53  : Con := ⟨53, [.one (.plain (.str))], w53 (fun st => decide (st.size ≤ 1000)), w53 (fun st => (V53 st) (S.ckS st)), w53 (fun st => (N53 st) (S.ckS st)), fun _ _ => .dead⟩
theorem s53' (st : ByteArray) (hp : st.size ≤ 1000) : ∀ (k i : Nat), i + k = st.size → Comes (q53 st) (.h0 (S.ckN (fun j => keys st j) i) (i : Int)) (S.ckS st) := by
  intro k
  induction k with
  | zero =>
    intro i hi
    obtain rfl : st.size = i := by omega
    have hb := ckN_b (f := fun j => keys st j) (key_b st) hp
    unfold S.ckS
    rw [← Int.tmod_eq_emod_of_nonneg hb.1]
    generalize S.ckN _ _ = v at *
    apply Comes.of
    show Goes _ _ _
    (first | rw [q53] | unfold q53)
    repeat' (first | with_reducible refine goes_if (fun h => ?_) (fun h => ?_) <;> (try simp only [SH] at h) | exact goes_none.mpr (by omega))
    all_goals first | (exfalso; omega) | exact goes_inr.mpr rfl
  | succ k ih =>
    intro i hi
    have ih := ih (i + 1) (by omega)
    have hb := ckN_b (f := fun j => keys st j) (key_b st) (n := i) (by omega)
    have hb2 := ckN_b (f := fun j => keys st j) (key_b st) (n := i + 1) (by omega)
    have hk := key_b st i
    have e : S.ckN (fun j => keys st j) (i + 1) = S.ckN (fun j => keys st j) i + ((i : Int) + 1) * keys st i := rfl
    rw [e] at ih hb2
    have m0 : 0 ≤ ((i : Int) + 1) * keys st i := Int.mul_nonneg (by omega) hk.1
    generalize S.ckN (fun j => keys st j) i = v at *
    skip
    apply Comes.of
    show Goes _ _ _
    rw [q53]
    simp only [Int.toNat_natCast]
    generalize ((i : Int) + 1) * keys st i = w at *
    repeat' (first | with_reducible refine goes_if (fun h => ?_) (fun h => ?_) <;> (try simp only [SH] at h) | exact goes_none.mpr (by omega))
    all_goals first | (exfalso; omega) | exact ih
theorem s53 (st : ByteArray) (hp : st.size ≤ 1000) : Goes ((q53 st)) ((p53 st)) (S.ckS st) := by
  exact s53' st hp st.size 0 (by omega)
theorem k53_ok  : k53.ok Try.prog := by
  intro x hx
  obtain ⟨st, _⟩ := x
  obtain ⟨h1, h2⟩ := a53 st (s53 st (of_dec hx rfl))
  exact ⟨⟨400, (by decide : 0 + 1 + 0 ≤ 400), h1⟩, h2⟩
inductive St54 where
  | h0 (x0 : Int) (x1 : Int) (x2 : List Int)
abbrev Rt54  := Int
noncomputable def V54 (st : ByteArray) (r : Rt54) : PV := PV.int .i64 r
noncomputable def N54 (st : ByteArray) (r : Rt54) : List Blk := []
noncomputable def I54 (st : ByteArray) : St54 → Hd
  | .h0 x0 x1 x2 => ⟨hd Try.f54 0, [PV.int .i64 x0, PV.own (0) (1) (List.length x2),
 PV.int .i64 (↑(ByteArray.size st) : Int), PV.int .i64 x1], [[(0, (true, Blk.cols (List.length x2) [Col.int .u8 fun j => S.at' x2 j]))], []], 1⟩
noncomputable def q54 (st : ByteArray) : St54 → Option (St54 ⊕ Rt54) | .h0 x0 x1 x2 => bif (decide (x1 < (↑(ByteArray.size st) : Int))) then (bif (decide ((0 : Int) ≤ x1 ∧ x1 < (↑(List.length x2) : Int))) then (bif (decide (Int.toNat x1 < List.length x2)) then (bif (lim .i64 (S.at' x2 (Int.toNat x1))) then (bif (lim .i64 (x1 + 1)) then (some (.inl (.h0 (S.orB .i64 (S.shlB .i64 x0 (8 : Int)) (S.at' x2 (Int.toNat x1))) (x1 + 1) (x2)))) else (none)) else (none)) else (none)) else (none)) else (some (.inr (x0)))
noncomputable def p54 (st : ByteArray) : Option (St54 ⊕ Rt54) := some (.inl (.h0 ((0 : Int)) ((0 : Int)) (S.mkl (ByteArray.size st) fun j => keys st j)))
noncomputable def Te54 (test : TT) (Kst : KS) (Kret : KR) (st : ByteArray) : Prop := Kst (hd Try.f54 0) ([PV.int .i64 (0 : Int), PV.own (0) (1) (ByteArray.size st), PV.int .i64 (↑(ByteArray.size st) : Int), PV.int .i64 (0 : Int)]) ([[(0, true, Blk.cols (ByteArray.size st) [Col.int .u8 fun j => keys st j])]]) (1)
theorem te54 (test : TT) (Kst : KS) (Kret : KR) (st : ByteArray) : run test Try.env true noX true 400 ⟨54, [.cd (mkFn Try.f54).body], argT 0 [.str st], [[], []], 0⟩ (proj 0 [3, 7, 8, 9] Kst Kret) =
  Te54 test Kst Kret st := by kernel_rfl
noncomputable def T54_0 (test : TT) (Kst : KS) (Kret : KR) (st : ByteArray) (x0 x1 : Int) (x2 : List Int) : Prop := test (decide (x1 < (↑(ByteArray.size st) : Int))) (test (decide ((0 : Int) ≤ x1 ∧ x1 < (↑(List.length x2) : Int))) (test (decide (Int.toNat x1 < List.length x2)) (test (false) (False) (test (lim .i64 (S.at' x2 (Int.toNat x1))) (test (lim .i64 (x1 + 1)) (Kst (hd Try.f54 0) ([PV.int .i64 (S.orB .i64 (S.shlB .i64 x0 (8 : Int)) (S.at' x2 (Int.toNat x1))), PV.own (0) (1) (List.length x2), PV.int .i64 (↑(ByteArray.size st) : Int), PV.int .i64 (x1 + 1)]) ([[(0, true, Blk.cols (List.length x2) [Col.int .u8 fun j => S.at' x2 j])]]) (1)) (False)) (False))) (False)) (False)) (Kret (PV.int .i64 x0) ([[]]) (1))
theorem t54_0 (test : TT) (Kst : KS) (Kret : KR) (st : ByteArray) (x0 x1 : Int) (x2 : List Int) : run test Try.env true noX true 400 ⟨54, hd Try.f54 0, zipT [3, 7, 8, 9] [PV.int .i64 x0, PV.own (0) (1) (List.length x2),
 PV.int .i64 (↑(ByteArray.size st) : Int), PV.int .i64 x1], [[(0, (true, Blk.cols (List.length x2) [Col.int .u8 fun j => S.at' x2 j]))], []], 1⟩ (proj 0 [3, 7, 8, 9] Kst Kret) =
  T54_0 test Kst Kret st x0 x1 x2 := by kernel_rfl
noncomputable abbrev J54 (st : ByteArray) : Rt54 → Heap := fun r => [newL (0 + 1) ((N54 st) r) ++ []]
attribute [local irreducible] Int.subNatNat in
theorem be54 (st : ByteArray) (Kst : KS) (Kret : KR) (x : St54 ⊕ Rt54) (hS : HS 0 400 ((I54 st)) Kst x) (hR : HR 0 400 ((V54 st)) (J54 st) Kret x) (h : (some (.inl (.h0 ((0 : Int)) ((0 : Int)) (S.mkl (ByteArray.size st) fun j => keys st j))) : Option (St54 ⊕ Rt54)) = some x) : Te54 cond Kst Kret st := by
  unfold Te54
  exact stop_at hS _ h (fun n => bif Nat.beq n 0 then 0 else n) rfl rfl rfl ⟨(rn_int rfl), ⟨(rn_own (use_own rfl) rfl mkl_len), ⟨(rn_int rfl), ⟨(rn_int rfl), trivial⟩⟩⟩⟩ rfl (entl_new (use_own rfl) rfl (Nat.le_of_eq mkl_len) (rcs_int (fun _ hj => col_mkl (fun (t : Int) => t) hj) rcs_nil) entl_nil)
attribute [local irreducible] Int.subNatNat in
theorem b54_0 (st : ByteArray) (Kst : KS) (Kret : KR) (x : St54 ⊕ Rt54) (hS : HS 0 400 ((I54 st)) Kst x) (hR : HR 0 400 ((V54 st)) (J54 st) Kret x) (x0 x1 : Int) (x2 : List Int) (h : q54 st (.h0 x0 x1 x2) = some x) : T54_0 cond Kst Kret st x0 x1 x2 := by
  unfold T54_0
  rw [q54] at h
  exact bif_split h (fun c0 h => bif_split h (fun c1 h => bif_split h (fun c2 h => cond_no rfl (bif_split h (fun c3 h => bif_split h (fun c4 h => stop_at hS _ h (fun n => bif Nat.beq n 0 then 0 else n) rfl rfl rfl ⟨(rn_int rfl), ⟨(rn_own (use_own rfl) rfl rfl), ⟨(rn_int rfl), ⟨(rn_int rfl), trivial⟩⟩⟩⟩ rfl (entl_new (use_own rfl) rfl (Nat.le_of_eq rfl) (rcs_int (fun _ _ => rfl) rcs_nil) entl_nil)) (fun c4 h => no_some h)) (fun c3 h => no_some h))) (fun c2 h => no_some h)) (fun c1 h => no_some h)) (fun c0 h => ret_at hR _ h (fun n => n) rfl rfl rfl (rn_int rfl) rfl entl_nil)
theorem a54 (st : ByteArray) {r : Rt54} (h : Goes ((q54 st)) ((p54 st)) r) : CallR Try.prog 54 [.str st] [[]] 0 ((V54 st) r) ((J54 st) r) 400 ∧ ∃ F, Try.prog.funcs[54]? = some F ∧ F.body.isSome = true ∧ (F.name == "runtime.NumGoroutine") = false := by
  refine dec_calls (f := 54) (lo := 0) (hi := 400) Try.envOk Try.mixed noX_ok ((I54 st)) ((V54 st)) (J54 st) (fn := mkFn Try.f54) (ts := [3, 7, 8, 9]) (n := 400) rfl (by decide) (by simp) (names_of rfl) ?_ ?_ ?_ h
  · intro s; cases s <;> exact ⟨hd_ok _ _, by simp [I54], names_of rfl, Nat.le_of_ble_eq_true rfl⟩
  · intro Kst Kret x hS hR h
    exact Holds.eq (te54 cond Kst Kret st) (be54 st Kst Kret x hS hR h)
  · intro Kst Kret x hS hR s h
    cases s with
    | h0 x0 x1 x2 => exact Holds.eq (t54_0 cond Kst Kret st x0 x1 x2) (b54_0 st Kst Kret x hS hR x0 x1 x2 h)
noncomputable abbrev w54 {α : Type} (g : ByteArray → α) (x : ByteArray × Unit) : α := g x.1
noncomputable def k54  : Con := ⟨54, [.one (.plain (.str))], w54 (fun st => decide (st.size ≤ 6)), w54 (fun st => (V54 st) (S.getS st)), w54 (fun st => (N54 st) (S.getS st)), fun _ _ => .dead⟩
theorem s54' (st : ByteArray) (hp : st.size ≤ 6) : ∀ (k i : Nat), i + k = st.size → Comes (q54 st) (.h0 (S.getN (fun j => keys st j) i) (i : Int) (S.mkl st.size fun j => keys st j)) (S.getS st) := by
  intro k
  induction k with
  | zero =>
    intro i hi
    obtain rfl : st.size = i := by omega
    unfold S.getS
    generalize S.getN _ _ = v at *
    apply Comes.of
    show Goes _ _ _
    (first | rw [q54] | unfold q54)
    repeat' (first | with_reducible refine goes_if (fun h => ?_) (fun h => ?_) <;> (try simp only [SH] at h) | exact goes_none.mpr (by omega))
    all_goals first | (exfalso; omega) | exact goes_inr.mpr rfl
  | succ k ih =>
    intro i hi
    have ih := ih (i + 1) (by omega)
    have hb := getN_b (f := fun j => keys st j) (key_b st) (n := i)
    have hw := p256_6 (n := i) (by omega)
    have hk := key_b st i
    have e : S.getN (fun j => keys st j) (i + 1) = S.getN (fun j => keys st j) i * 256 + keys st i := rfl
    rw [e] at ih
    have ho := or_shl (x := S.getN (fun j => keys st j) i) (by omega) hk
    have ea : S.at' (S.mkl st.size fun j => keys st j) i = keys st i := at_mkl (by omega)
    apply Comes.of
    show Goes _ _ _
    rw [q54]
    simp only [Int.toNat_natCast, ea, mkl_len, ho]
    clear ho ea
    generalize S.getN (fun j => keys st j) i = v at *
    repeat' (first | with_reducible refine goes_if (fun h => ?_) (fun h => ?_) <;> (try simp only [SH] at h) | exact goes_none.mpr (by omega))
    all_goals first | (exfalso; omega) | exact ih
theorem s54 (st : ByteArray) (hp : st.size ≤ 6) : Goes ((q54 st)) ((p54 st)) (S.getS st) := by
  exact s54' st hp st.size 0 (by omega)
theorem k54_ok  : k54.ok Try.prog := by
  intro x hx
  obtain ⟨st, _⟩ := x
  obtain ⟨h1, h2⟩ := a54 st (s54 st (of_dec hx rfl))
  exact ⟨⟨400, (by decide : 0 + 1 + 0 ≤ 400), h1⟩, h2⟩
inductive St55 where
  | h0 (x0 : Int) (x1 : Int)
abbrev Rt55  := Int
noncomputable def V55 (st : ByteArray) (r : Rt55) : PV := PV.int .i64 r
noncomputable def N55 (st : ByteArray) (r : Rt55) : List Blk := []
noncomputable def I55 (st : ByteArray) : St55 → Hd
  | .h0 x0 x1 => ⟨hd Try.f55 0, [PV.str st, PV.int .i64 x0, PV.int .i64 x1], [[], []], 0⟩
noncomputable def q55 (st : ByteArray) : St55 → Option (St55 ⊕ Rt55) | .h0 x0 x1 => bif (decide (x1 < (↑(ByteArray.size st) : Int))) then (bif (lim .i64 (x0 * 256)) then (bif (decide ((0 : Int) ≤ x1 ∧ x1 < (↑(ByteArray.size st) : Int))) then (bif (lim .i64 (keys st (Int.toNat x1))) then (bif (lim .i64 (x0 * 256 + keys st (Int.toNat x1))) then (bif (lim .i64 (x1 + 1)) then (some (.inl (.h0 (x0 * 256 + keys st (Int.toNat x1)) (x1 + 1)))) else (none)) else (none)) else (none)) else (none)) else (none)) else (some (.inr (x0)))
noncomputable def p55 (st : ByteArray) : Option (St55 ⊕ Rt55) := some (.inl (.h0 ((0 : Int)) ((0 : Int))))
noncomputable def Te55 (test : TT) (Kst : KS) (Kret : KR) (st : ByteArray) : Prop := Kst (hd Try.f55 0) ([PV.str st, PV.int .i64 (0 : Int), PV.int .i64 (0 : Int)]) ([[]]) (0)
theorem te55 (test : TT) (Kst : KS) (Kret : KR) (st : ByteArray) : run test Try.env true noX true 400 ⟨55, [.cd (mkFn Try.f55).body], argT 0 [.str st], [[], []], 0⟩ (proj 0 [0, 3, 4] Kst Kret) =
  Te55 test Kst Kret st := by kernel_rfl
noncomputable def T55_0 (test : TT) (Kst : KS) (Kret : KR) (st : ByteArray) (x0 x1 : Int) : Prop := test (decide (x1 < (↑(ByteArray.size st) : Int))) (test (lim .i64 (x0 * 256)) (test (decide ((0 : Int) ≤ x1 ∧ x1 < (↑(ByteArray.size st) : Int))) (test (lim .i64 (keys st (Int.toNat x1))) (test (lim .i64 (x0 * 256 + keys st (Int.toNat x1))) (test (lim .i64 (x1 + 1)) (Kst (hd Try.f55 0) ([PV.str st, PV.int .i64 (x0 * 256 + keys st (Int.toNat x1)), PV.int .i64 (x1 + 1)]) ([[]]) (0)) (False)) (False)) (False)) (False)) (False)) (Kret (PV.int .i64 x0) ([[]]) (0))
theorem t55_0 (test : TT) (Kst : KS) (Kret : KR) (st : ByteArray) (x0 x1 : Int) : run test Try.env true noX true 400 ⟨55, hd Try.f55 0, zipT [0, 3, 4] [PV.str st, PV.int .i64 x0, PV.int .i64 x1], [[], []], 0⟩ (proj 0 [0, 3, 4] Kst Kret) =
  T55_0 test Kst Kret st x0 x1 := by kernel_rfl
noncomputable abbrev J55 (st : ByteArray) : Rt55 → Heap := fun r => [newL (0 + 1) ((N55 st) r) ++ []]
attribute [local irreducible] Int.subNatNat in
theorem be55 (st : ByteArray) (Kst : KS) (Kret : KR) (x : St55 ⊕ Rt55) (hS : HS 0 400 ((I55 st)) Kst x) (hR : HR 0 400 ((V55 st)) (J55 st) Kret x) (h : (some (.inl (.h0 ((0 : Int)) ((0 : Int)))) : Option (St55 ⊕ Rt55)) = some x) : Te55 cond Kst Kret st := by
  unfold Te55
  exact stop_at hS _ h (fun n => n) rfl rfl rfl ⟨(rn_str rfl), ⟨(rn_int rfl), ⟨(rn_int rfl), trivial⟩⟩⟩ rfl entl_nil
attribute [local irreducible] Int.subNatNat in
theorem b55_0 (st : ByteArray) (Kst : KS) (Kret : KR) (x : St55 ⊕ Rt55) (hS : HS 0 400 ((I55 st)) Kst x) (hR : HR 0 400 ((V55 st)) (J55 st) Kret x) (x0 x1 : Int) (h : q55 st (.h0 x0 x1) = some x) : T55_0 cond Kst Kret st x0 x1 := by
  unfold T55_0
  rw [q55] at h
  exact bif_split h (fun c0 h => bif_split h (fun c1 h => bif_split h (fun c2 h => bif_split h (fun c3 h => bif_split h (fun c4 h => bif_split h (fun c5 h => stop_at hS _ h (fun n => n) rfl rfl rfl ⟨(rn_str rfl), ⟨(rn_int rfl), ⟨(rn_int rfl), trivial⟩⟩⟩ rfl entl_nil) (fun c5 h => no_some h)) (fun c4 h => no_some h)) (fun c3 h => no_some h)) (fun c2 h => no_some h)) (fun c1 h => no_some h)) (fun c0 h => ret_at hR _ h (fun n => n) rfl rfl rfl (rn_int rfl) rfl entl_nil)
theorem a55 (st : ByteArray) {r : Rt55} (h : Goes ((q55 st)) ((p55 st)) r) : CallR Try.prog 55 [.str st] [[]] 0 ((V55 st) r) ((J55 st) r) 400 ∧ ∃ F, Try.prog.funcs[55]? = some F ∧ F.body.isSome = true ∧ (F.name == "runtime.NumGoroutine") = false := by
  refine dec_calls (f := 55) (lo := 0) (hi := 400) Try.envOk Try.mixed noX_ok ((I55 st)) ((V55 st)) (J55 st) (fn := mkFn Try.f55) (ts := [0, 3, 4]) (n := 400) rfl (by decide) (by simp) (names_of rfl) ?_ ?_ ?_ h
  · intro s; cases s <;> exact ⟨hd_ok _ _, by simp [I55], names_of rfl, Nat.le_of_ble_eq_true rfl⟩
  · intro Kst Kret x hS hR h
    exact Holds.eq (te55 cond Kst Kret st) (be55 st Kst Kret x hS hR h)
  · intro Kst Kret x hS hR s h
    cases s with
    | h0 x0 x1 => exact Holds.eq (t55_0 cond Kst Kret st x0 x1) (b55_0 st Kst Kret x hS hR x0 x1 h)
noncomputable abbrev w55 {α : Type} (g : ByteArray → α) (x : ByteArray × Unit) : α := g x.1
noncomputable def k55  : Con := ⟨55, [.one (.plain (.str))], w55 (fun st => decide (st.size ≤ 6)), w55 (fun st => (V55 st) (S.getS st)), w55 (fun st => (N55 st) (S.getS st)), fun _ _ => .dead⟩
theorem s55' (st : ByteArray) (hp : st.size ≤ 6) : ∀ (k i : Nat), i + k = st.size → Comes (q55 st) (.h0 (S.getN (fun j => keys st j) i) (i : Int)) (S.getS st) := by
  intro k
  induction k with
  | zero =>
    intro i hi
    obtain rfl : st.size = i := by omega
    unfold S.getS
    generalize S.getN _ _ = v at *
    apply Comes.of
    show Goes _ _ _
    (first | rw [q55] | unfold q55)
    repeat' (first | with_reducible refine goes_if (fun h => ?_) (fun h => ?_) <;> (try simp only [SH] at h) | exact goes_none.mpr (by omega))
    all_goals first | (exfalso; omega) | exact goes_inr.mpr rfl
  | succ k ih =>
    intro i hi
    have ih := ih (i + 1) (by omega)
    have hb := getN_b (f := fun j => keys st j) (key_b st) (n := i)
    have hw := p256_6 (n := i) (by omega)
    have hk := key_b st i
    have e : S.getN (fun j => keys st j) (i + 1) = S.getN (fun j => keys st j) i * 256 + keys st i := rfl
    rw [e] at ih
    skip
    skip
    apply Comes.of
    show Goes _ _ _
    rw [q55]
    simp only [Int.toNat_natCast]
    skip
    generalize S.getN (fun j => keys st j) i = v at *
    repeat' (first | with_reducible refine goes_if (fun h => ?_) (fun h => ?_) <;> (try simp only [SH] at h) | exact goes_none.mpr (by omega))
    all_goals first | (exfalso; omega) | exact ih
theorem s55 (st : ByteArray) (hp : st.size ≤ 6) : Goes ((q55 st)) ((p55 st)) (S.getS st) := by
  exact s55' st hp st.size 0 (by omega)
theorem k55_ok  : k55.ok Try.prog := by
  intro x hx
  obtain ⟨st, _⟩ := x
  obtain ⟨h1, h2⟩ := a55 st (s55 st (of_dec hx rfl))
  exact ⟨⟨400, (by decide : 0 + 1 + 0 ≤ 400), h1⟩, h2⟩
noncomputable def xD (test : Bool → Prop → Prop → Prop) : Ext := consX test [k40, k14, k15, k13, k51, k53, k54, k55]
theorem xD_ok  : ExtOk Try.prog (xD cond) := consX_ok ⟨k40_ok, k14_ok, k15_ok, k13_ok, k51_ok, k53_ok, k54_ok, k55_ok, trivial⟩
theorem size_list (a : ByteArray) : a.size = a.data.toList.length := rfl
theorem eqS_iff  {a b : ByteArray} : S.eqS a b = true ↔ a = b := by
  show (a.toList == b.toList) = true ↔ a = b
  rw [ByteArray.toList_eq a, ByteArray.toList_eq b, beq_iff_eq]
  constructor
  · intro h
    cases a; cases b
    simpa using Array.ext' h
  · rintro rfl; rfl
theorem keys_get  {a : ByteArray} {j : Nat} (h : j < a.data.toList.length) : keys a j = (((a.data.toList[j]'h).toNat : Nat) : Int) := by
  unfold keys
  rw [List.getD_eq_getElem?_getD, List.getElem?_eq_getElem h]
  rfl
theorem keys_ext  {a b : ByteArray} (h : a.size = b.size) (hk : ∀ j, j < a.size → keys a j = keys b j) : a = b := by
  have hl : a.data.toList = b.data.toList := by
    apply List.ext_getElem
    · rw [← size_list, ← size_list, h]
    · intro j h1 h2
      have := hk j (by rw [size_list]; exact h1)
      rw [keys_get h1, keys_get h2] at this
      exact UInt8.toNat_inj.mp (by omega)
  cases a; cases b
  simpa using Array.ext' hl
theorem sub_list (a : ByteArray) (lo hi : Nat) : (a.extract lo hi).data.toList = (a.data.toList.drop lo).take (hi - lo) := by
  simp [ByteArray.data_extract, Array.toList_extract, List.extract_eq_take_drop]
theorem sub_size  {a : ByteArray} {lo hi : Nat} (h : hi ≤ a.size) : (a.extract lo hi).size = hi - lo := by
  rw [size_list, sub_list, List.length_take, List.length_drop, ← size_list]
  omega
theorem keys_sub  {a : ByteArray} {lo hi j : Nat} (h : hi ≤ a.size) (hj : j < hi - lo) : keys (a.extract lo hi) j = keys a (lo + j) := by
  have h1 : j < (a.extract lo hi).data.toList.length := by rw [← size_list, sub_size h]; exact hj
  have h2 : lo + j < a.data.toList.length := by rw [← size_list]; omega
  rw [keys_get h1, keys_get h2]
  congr 2
  simp only [sub_list]
  rw [List.getElem_take, List.getElem_drop]
theorem ofB_size  {f : Nat → Int} {n : Nat} : (S.ofB f n).size = n := by
  rw [size_list]; simp
theorem keys_ofB  {f : Nat → Int} {n j : Nat} (hj : j < n) (h : 0 ≤ f j ∧ f j ≤ 255) : keys (S.ofB f n) j = f j := by
  have h1 : j < (S.ofB f n).data.toList.length := by rw [← size_list, ofB_size]; exact hj
  rw [keys_get h1]
  simp only [List.getElem_map, List.getElem_range]
  rw [UInt8.toNat_ofNat']
  omega
theorem ofB_congr  {f g : Nat → Int} {n : Nat} (h : ∀ j, j < n → f j = g j) : S.ofB f n = S.ofB g n := by
  unfold S.ofB
  congr 2
  exact List.map_congr_left fun j hj => by rw [h j (List.mem_range.mp hj)]
namespace S
def encF (a n c s q : Int) : Nat → Int
  | 0 => a / 1099511627776 % 256
  | 1 => a / 4294967296 % 256
  | 2 => a / 16777216 % 256
  | 3 => a / 65536 % 256
  | 4 => a / 256 % 256
  | 5 => a % 256
  | 6 => n / 256 % 256
  | 7 => n % 256
  | 8 => c / 65536 % 256
  | 9 => c / 256 % 256
  | 10 => c % 256
  | 11 => s % 256
  | 12 => q / 1099511627776 % 256
  | 13 => q / 4294967296 % 256
  | 14 => q / 16777216 % 256
  | 15 => q / 65536 % 256
  | 16 => q / 256 % 256
  | 17 => q % 256
  | _ + 18 => 0
def encG (a n c s q k : Int) : Nat → Int
  | 0 => a / 1099511627776 % 256
  | 1 => a / 4294967296 % 256
  | 2 => a / 16777216 % 256
  | 3 => a / 65536 % 256
  | 4 => a / 256 % 256
  | 5 => a % 256
  | 6 => n / 256 % 256
  | 7 => n % 256
  | 8 => c / 65536 % 256
  | 9 => c / 256 % 256
  | 10 => c % 256
  | 11 => s % 256
  | 12 => q / 1099511627776 % 256
  | 13 => q / 4294967296 % 256
  | 14 => q / 16777216 % 256
  | 15 => q / 65536 % 256
  | 16 => q / 256 % 256
  | 17 => q % 256
  | 18 => k / 256 % 256
  | 19 => k % 256
  | _ + 20 => 0
def encK (a n c s q : Int) : Int := ckS (ofB (fun j => encF a n c s q j) 18)
def encS (a n c s p : Int) : ByteArray × Int := if evE a n c s p = 0 then (ofB (fun j => encG a n c s (p + 1099511627776) (encK a n c s (p + 1099511627776)) j) 20, 0) else (ByteArray.mk #[], evE a n c s p)
end S
theorem wr8  {x : Int} : IntKind.u8.wrap x = x % 256 := by
  show x % 256 = _
  rfl
theorem wsh0  {x : Int} : IntKind.u8.wrap (S.shrB .i64 x 0) = x % 256 := by
  rw [wr8]
  show Int.fdiv x (2 ^ (min (0 : Int).toNat 64)) % 256 = _
  have e : (2 : Int) ^ (min (0 : Int).toNat 64) = 1 := by decide
  rw [e, Int.fdiv_eq_ediv_of_nonneg _ (by decide), Int.ediv_one]
theorem wsh8  {x : Int} : IntKind.u8.wrap (S.shrB .i64 x 8) = x / 256 % 256 := by
  rw [wr8]
  show Int.fdiv x (2 ^ (min (8 : Int).toNat 64)) % 256 = _
  have e : (2 : Int) ^ (min (8 : Int).toNat 64) = 256 := by decide
  rw [e, Int.fdiv_eq_ediv_of_nonneg _ (by decide)]
theorem wsh16  {x : Int} : IntKind.u8.wrap (S.shrB .i64 x 16) = x / 65536 % 256 := by
  rw [wr8]
  show Int.fdiv x (2 ^ (min (16 : Int).toNat 64)) % 256 = _
  have e : (2 : Int) ^ (min (16 : Int).toNat 64) = 65536 := by decide
  rw [e, Int.fdiv_eq_ediv_of_nonneg _ (by decide)]
theorem wsh24  {x : Int} : IntKind.u8.wrap (S.shrB .i64 x 24) = x / 16777216 % 256 := by
  rw [wr8]
  show Int.fdiv x (2 ^ (min (24 : Int).toNat 64)) % 256 = _
  have e : (2 : Int) ^ (min (24 : Int).toNat 64) = 16777216 := by decide
  rw [e, Int.fdiv_eq_ediv_of_nonneg _ (by decide)]
theorem wsh32  {x : Int} : IntKind.u8.wrap (S.shrB .i64 x 32) = x / 4294967296 % 256 := by
  rw [wr8]
  show Int.fdiv x (2 ^ (min (32 : Int).toNat 64)) % 256 = _
  have e : (2 : Int) ^ (min (32 : Int).toNat 64) = 4294967296 := by decide
  rw [e, Int.fdiv_eq_ediv_of_nonneg _ (by decide)]
theorem wsh40  {x : Int} : IntKind.u8.wrap (S.shrB .i64 x 40) = x / 1099511627776 % 256 := by
  rw [wr8]
  show Int.fdiv x (2 ^ (min (40 : Int).toNat 64)) % 256 = _
  have e : (2 : Int) ^ (min (40 : Int).toNat 64) = 1099511627776 := by decide
  rw [e, Int.fdiv_eq_ediv_of_nonneg _ (by decide)]
theorem td256  {x : Int} (h : 0 ≤ x) : Int.tdiv x 256 = x / 256 := Int.tdiv_eq_ediv_of_nonneg h
theorem evB_iff  {a n c s p : Int} : S.evE a n c s p = 0 ↔ (0 ≤ a ∧ a ≤ 1099511627776) ∧ (1 ≤ n ∧ n ≤ 999) ∧ (0 ≤ c ∧ c ≤ 1048576) ∧ (0 ≤ s ∧ s ≤ 99) ∧ -1099511627776 ≤ p ∧ p ≤ 1099511627776 := by
  unfold S.evE
  split
  · rename_i h
    have := of_decide_eq_true h
    exact ⟨fun _ => this, fun _ => rfl⟩
  · rename_i h
    exact ⟨fun h2 => (by cases h2), fun h2 => absurd (decide_eq_true h2) h⟩
theorem ckS_b  {st : ByteArray} : 0 ≤ S.ckS st ∧ S.ckS st < 65521 := by unfold S.ckS; omega
theorem limK1  {st : ByteArray} : lim .i64 (Int.tdiv (S.ckS st) 256) = true := by
  have h := @ckS_b st
  rw [td256 h.1, lim64]
  exact decide_eq_true (by omega)
theorem limK2  {st : ByteArray} : lim .i64 (Int.tdiv (Int.tdiv (S.ckS st) 256) 256) = true := by
  have h := @ckS_b st
  rw [td256 h.1, td256 (by omega), lim64]
  exact decide_eq_true (by omega)
noncomputable abbrev c32_e_0 (ta tn tc ts tp : Int) := S.ckS (S.ofB (fun j => bif Nat.blt j (1) then IntKind.wrap .u8 (S.shrB .i64 ta (40 : Int)) else bif Nat.blt (j - 1) (1) then IntKind.wrap .u8 (S.shrB .i64 ta (32 : Int)) else bif Nat.blt (j - 1 - 1) (1) then IntKind.wrap .u8 (S.shrB .i64 ta (24 : Int)) else bif Nat.blt (j - 1 - 1 - 1) (1) then IntKind.wrap .u8 (S.shrB .i64 ta (16 : Int)) else bif Nat.blt (j - 1 - 1 - 1 - 1) (1) then IntKind.wrap .u8 (S.shrB .i64 ta (8 : Int)) else bif Nat.blt (j - 1 - 1 - 1 - 1 - 1) (1) then IntKind.wrap .u8 (S.shrB .i64 ta (0 : Int)) else bif Nat.blt (j - 1 - 1 - 1 - 1 - 1 - 1) (1) then IntKind.wrap .u8 (S.shrB .i64 tn (8 : Int)) else bif Nat.blt (j - 1 - 1 - 1 - 1 - 1 - 1 - 1) (1) then IntKind.wrap .u8 (S.shrB .i64 tn (0 : Int)) else bif Nat.blt (j - 1 - 1 - 1 - 1 - 1 - 1 - 1 - 1) (1) then IntKind.wrap .u8 (S.shrB .i64 tc (16 : Int)) else bif Nat.blt (j - 1 - 1 - 1 - 1 - 1 - 1 - 1 - 1 - 1) (1) then IntKind.wrap .u8 (S.shrB .i64 tc (8 : Int)) else bif Nat.blt (j - 1 - 1 - 1 - 1 - 1 - 1 - 1 - 1 - 1 - 1) (1) then IntKind.wrap .u8 (S.shrB .i64 tc (0 : Int)) else bif Nat.blt (j - 1 - 1 - 1 - 1 - 1 - 1 - 1 - 1 - 1 - 1 - 1) (1) then IntKind.wrap .u8 (S.shrB .i64 ts (0 : Int)) else bif Nat.blt (j - 1 - 1 - 1 - 1 - 1 - 1 - 1 - 1 - 1 - 1 - 1 - 1) (1) then IntKind.wrap .u8 (S.shrB .i64 (tp + 1099511627776) (40 : Int)) else bif Nat.blt (j - 1 - 1 - nat_lit 1 - nat_lit 1 - 1 - 1 - 1 - 1 - 1 - 1 - 1 - 1 - 1) (1) then IntKind.wrap .u8 (S.shrB .i64 (tp + 1099511627776) (32 : Int)) else bif Nat.blt (j - 1 - 1 - nat_lit 1 - nat_lit 1 - nat_lit 1 - nat_lit 1 - 1 - 1 - 1 - 1 - 1 - 1 - 1 - 1) (1) then IntKind.wrap .u8 (S.shrB .i64 (tp + 1099511627776) (24 : Int)) else bif Nat.blt (j - 1 - nat_lit 1 - nat_lit 1 - nat_lit 1 - nat_lit 1 - nat_lit 1 - nat_lit 1 - nat_lit 1 - 1 - 1 - 1 - 1 - 1 - 1 - 1) (1) then IntKind.wrap .u8 (S.shrB .i64 (tp + 1099511627776) (16 : Int)) else bif Nat.blt (j - 1 - nat_lit 1 - nat_lit 1 - nat_lit 1 - nat_lit 1 - nat_lit 1 - nat_lit 1 - nat_lit 1 - nat_lit 1 - nat_lit 1 - 1 - 1 - 1 - 1 - 1 - 1) (1) then IntKind.wrap .u8 (S.shrB .i64 (tp + 1099511627776) (8 : Int)) else IntKind.wrap .u8 (S.shrB .i64 (tp + 1099511627776) (0 : Int))) (18))
noncomputable abbrev c32_e_1 (ta tn tc ts tp : Int) := S.ckS (S.ofB (fun j => bif Nat.blt j (1) then IntKind.wrap .u8 (S.shrB .i64 ta (40 : Int)) else bif Nat.blt (j - 1) (1) then IntKind.wrap .u8 (S.shrB .i64 ta (32 : Int)) else bif Nat.blt (j - 1 - 1) (1) then IntKind.wrap .u8 (S.shrB .i64 ta (24 : Int)) else bif Nat.blt (j - 1 - 1 - 1) (1) then IntKind.wrap .u8 (S.shrB .i64 ta (16 : Int)) else bif Nat.blt (j - 1 - 1 - 1 - 1) (1) then IntKind.wrap .u8 (S.shrB .i64 ta (8 : Int)) else bif Nat.blt (j - 1 - 1 - 1 - 1 - 1) (1) then IntKind.wrap .u8 (S.shrB .i64 ta (0 : Int)) else bif Nat.blt (j - 1 - 1 - 1 - 1 - 1 - 1) (1) then IntKind.wrap .u8 (S.shrB .i64 tn (8 : Int)) else bif Nat.blt (j - 1 - 1 - 1 - 1 - 1 - 1 - 1) (1) then IntKind.wrap .u8 (S.shrB .i64 tn (0 : Int)) else bif Nat.blt (j - 1 - 1 - 1 - 1 - 1 - 1 - 1 - 1) (1) then IntKind.wrap .u8 (S.shrB .i64 tc (16 : Int)) else bif Nat.blt (j - 1 - 1 - 1 - 1 - 1 - 1 - 1 - 1 - 1) (1) then IntKind.wrap .u8 (S.shrB .i64 tc (8 : Int)) else bif Nat.blt (j - 1 - 1 - 1 - 1 - 1 - 1 - 1 - 1 - 1 - 1) (1) then IntKind.wrap .u8 (S.shrB .i64 tc (0 : Int)) else bif Nat.blt (j - 1 - 1 - 1 - 1 - 1 - 1 - 1 - 1 - 1 - 1 - 1) (1) then IntKind.wrap .u8 (S.shrB .i64 ts (0 : Int)) else bif Nat.blt (j - 1 - 1 - 1 - 1 - 1 - 1 - 1 - 1 - 1 - 1 - 1 - 1) (1) then IntKind.wrap .u8 (S.shrB .i64 (tp + 1099511627776) (40 : Int)) else bif Nat.blt (j - 1 - 1 - 1 - 1 - 1 - 1 - 1 - 1 - 1 - 1 - 1 - 1 - 1) (1) then IntKind.wrap .u8 (S.shrB .i64 (tp + 1099511627776) (32 : Int)) else bif Nat.blt (j - 1 - 1 - nat_lit 1 - 1 - 1 - 1 - 1 - 1 - 1 - 1 - 1 - 1 - 1 - 1) (1) then IntKind.wrap .u8 (S.shrB .i64 (tp + 1099511627776) (24 : Int)) else bif Nat.blt (j - 1 - 1 - nat_lit 1 - nat_lit 1 - nat_lit 1 - 1 - 1 - 1 - 1 - 1 - 1 - 1 - 1 - 1 - 1) (1) then IntKind.wrap .u8 (S.shrB .i64 (tp + 1099511627776) (16 : Int)) else bif Nat.blt (j - 1 - 1 - nat_lit 1 - nat_lit 1 - nat_lit 1 - nat_lit 1 - nat_lit 1 - 1 - 1 - 1 - 1 - 1 - 1 - 1 - 1 - 1) (1) then IntKind.wrap .u8 (S.shrB .i64 (tp + 1099511627776) (8 : Int)) else IntKind.wrap .u8 (S.shrB .i64 (tp + 1099511627776) (0 : Int))) (18))
noncomputable abbrev c32_e_2 (ta tn tc ts tp : Int) := decide (ByteArray.size (S.ofB (fun j => bif Nat.blt j (1) then IntKind.wrap .u8 (S.shrB .i64 ta (40 : Int)) else bif Nat.blt (j - 1) (1) then IntKind.wrap .u8 (S.shrB .i64 ta (32 : Int)) else bif Nat.blt (j - 1 - 1) (1) then IntKind.wrap .u8 (S.shrB .i64 ta (24 : Int)) else bif Nat.blt (j - 1 - 1 - 1) (1) then IntKind.wrap .u8 (S.shrB .i64 ta (16 : Int)) else bif Nat.blt (j - 1 - 1 - 1 - 1) (1) then IntKind.wrap .u8 (S.shrB .i64 ta (8 : Int)) else bif Nat.blt (j - 1 - 1 - 1 - 1 - 1) (1) then IntKind.wrap .u8 (S.shrB .i64 ta (0 : Int)) else bif Nat.blt (j - 1 - 1 - 1 - 1 - 1 - 1) (1) then IntKind.wrap .u8 (S.shrB .i64 tn (8 : Int)) else bif Nat.blt (j - 1 - 1 - 1 - 1 - 1 - 1 - 1) (1) then IntKind.wrap .u8 (S.shrB .i64 tn (0 : Int)) else bif Nat.blt (j - 1 - 1 - 1 - 1 - 1 - 1 - 1 - 1) (1) then IntKind.wrap .u8 (S.shrB .i64 tc (16 : Int)) else bif Nat.blt (j - 1 - 1 - 1 - 1 - 1 - 1 - 1 - 1 - 1) (1) then IntKind.wrap .u8 (S.shrB .i64 tc (8 : Int)) else bif Nat.blt (j - 1 - 1 - 1 - 1 - 1 - 1 - 1 - 1 - 1 - 1) (1) then IntKind.wrap .u8 (S.shrB .i64 tc (0 : Int)) else bif Nat.blt (j - 1 - 1 - 1 - 1 - 1 - 1 - 1 - 1 - 1 - 1 - 1) (1) then IntKind.wrap .u8 (S.shrB .i64 ts (0 : Int)) else bif Nat.blt (j - 1 - 1 - 1 - 1 - 1 - 1 - 1 - 1 - 1 - 1 - 1 - 1) (1) then IntKind.wrap .u8 (S.shrB .i64 (tp + 1099511627776) (40 : Int)) else bif Nat.blt (j - 1 - 1 - 1 - 1 - 1 - 1 - 1 - 1 - 1 - 1 - 1 - 1 - 1) (1) then IntKind.wrap .u8 (S.shrB .i64 (tp + 1099511627776) (32 : Int)) else bif Nat.blt (j - 1 - 1 - 1 - 1 - 1 - 1 - 1 - 1 - 1 - 1 - 1 - 1 - 1 - 1) (1) then IntKind.wrap .u8 (S.shrB .i64 (tp + 1099511627776) (24 : Int)) else bif Nat.blt (j - 1 - 1 - 1 - 1 - 1 - 1 - 1 - 1 - 1 - 1 - 1 - 1 - 1 - 1 - 1) (1) then IntKind.wrap .u8 (S.shrB .i64 (tp + 1099511627776) (16 : Int)) else bif Nat.blt (j - 1 - 1 - 1 - 1 - 1 - 1 - 1 - 1 - 1 - 1 - 1 - 1 - 1 - 1 - 1 - 1) (1) then IntKind.wrap .u8 (S.shrB .i64 (tp + 1099511627776) (8 : Int)) else IntKind.wrap .u8 (S.shrB .i64 (tp + 1099511627776) (0 : Int))) (18)) ≤ 1000)
abbrev St32  := Empty
abbrev Rt32  := ByteArray × Int
noncomputable def V32 (ta tn tc ts tp : Int) (r : Rt32) : PV := PV.tup [PV.str r.1, PV.int .i64 r.2]
noncomputable def N32 (ta tn tc ts tp : Int) (r : Rt32) : List Blk := []
noncomputable def I32 (ta tn tc ts tp : Int) : St32 → Hd := fun s => s.elim
noncomputable def q32 (ta tn tc ts tp : Int) : St32 → Option (St32 ⊕ Rt32) := fun s => s.elim
noncomputable def p32 (ta tn tc ts tp : Int) : Option (St32 ⊕ Rt32) := bif (S.evE ta tn tc ts tp != 0) then (some (.inr (ByteArray.mk #[], S.evE ta tn tc ts tp))) else (bif (lim .i64 (tp + 1099511627776)) then (bif (c32_e_2 ta tn tc ts tp) then (some (.inr (S.ofB (fun j => bif Nat.blt j (1) then IntKind.wrap .u8 (S.shrB .i64 ta (40 : Int)) else bif Nat.blt (j - 1) (1) then IntKind.wrap .u8 (S.shrB .i64 ta (32 : Int)) else bif Nat.blt (j - 1 - 1) (1) then IntKind.wrap .u8 (S.shrB .i64 ta (24 : Int)) else bif Nat.blt (j - 1 - 1 - 1) (1) then IntKind.wrap .u8 (S.shrB .i64 ta (16 : Int)) else bif Nat.blt (j - 1 - 1 - 1 - 1) (1) then IntKind.wrap .u8 (S.shrB .i64 ta (8 : Int)) else bif Nat.blt (j - 1 - 1 - 1 - 1 - 1) (1) then IntKind.wrap .u8 (S.shrB .i64 ta (0 : Int)) else bif Nat.blt (j - 1 - 1 - 1 - 1 - 1 - 1) (1) then IntKind.wrap .u8 (S.shrB .i64 tn (8 : Int)) else bif Nat.blt (j - 1 - 1 - 1 - 1 - 1 - 1 - 1) (1) then IntKind.wrap .u8 (S.shrB .i64 tn (0 : Int)) else bif Nat.blt (j - 1 - 1 - 1 - 1 - 1 - 1 - 1 - 1) (1) then IntKind.wrap .u8 (S.shrB .i64 tc (16 : Int)) else bif Nat.blt (j - 1 - 1 - 1 - 1 - 1 - 1 - 1 - 1 - 1) (1) then IntKind.wrap .u8 (S.shrB .i64 tc (8 : Int)) else bif Nat.blt (j - 1 - 1 - 1 - 1 - 1 - 1 - 1 - 1 - 1 - 1) (1) then IntKind.wrap .u8 (S.shrB .i64 tc (0 : Int)) else bif Nat.blt (j - 1 - 1 - 1 - 1 - 1 - 1 - 1 - 1 - 1 - 1 - 1) (1) then IntKind.wrap .u8 (S.shrB .i64 ts (0 : Int)) else bif Nat.blt (j - 1 - 1 - 1 - 1 - 1 - 1 - 1 - 1 - 1 - 1 - 1 - 1) (1) then IntKind.wrap .u8 (S.shrB .i64 (tp + 1099511627776) (40 : Int)) else bif Nat.blt (j - 1 - 1 - 1 - 1 - 1 - 1 - 1 - 1 - 1 - 1 - 1 - 1 - 1) (1) then IntKind.wrap .u8 (S.shrB .i64 (tp + 1099511627776) (32 : Int)) else bif Nat.blt (j - 1 - 1 - 1 - 1 - 1 - 1 - 1 - 1 - 1 - 1 - 1 - 1 - 1 - 1) (1) then IntKind.wrap .u8 (S.shrB .i64 (tp + 1099511627776) (24 : Int)) else bif Nat.blt (j - 1 - 1 - 1 - 1 - 1 - 1 - 1 - 1 - 1 - 1 - 1 - 1 - 1 - 1 - 1) (1) then IntKind.wrap .u8 (S.shrB .i64 (tp + 1099511627776) (16 : Int)) else bif Nat.blt (j - 1 - 1 - 1 - 1 - 1 - 1 - 1 - 1 - 1 - 1 - 1 - 1 - 1 - 1 - 1 - 1) (1) then IntKind.wrap .u8 (S.shrB .i64 (tp + 1099511627776) (8 : Int)) else bif Nat.blt (j - 1 - 1 - 1 - 1 - 1 - 1 - 1 - 1 - 1 - 1 - 1 - 1 - 1 - 1 - 1 - 1 - 1) (1) then IntKind.wrap .u8 (S.shrB .i64 (tp + 1099511627776) (0 : Int)) else bif Nat.blt (j - 1 - 1 - 1 - 1 - 1 - 1 - 1 - 1 - 1 - 1 - 1 - 1 - 1 - 1 - 1 - 1 - 1 - 1) (1) then IntKind.wrap .u8 (S.shrB .i64 (c32_e_1 ta tn tc ts tp) (8 : Int)) else IntKind.wrap .u8 (S.shrB .i64 (c32_e_1 ta tn tc ts tp) (0 : Int))) (20), (0 : Int)))) else (none)) else (none))
noncomputable def Te32 (test : TT) (Kst : KS) (Kret : KR) (ta tn tc ts tp : Int) : Prop := test (S.evE ta tn tc ts tp != 0) (Kret (PV.tup [PV.str (ByteArray.mk #[]), PV.int .i64 (S.evE ta tn tc ts tp)]) ([[]]) (2)) (test (lim .i64 (tp + 1099511627776)) (test (c32_e_2 ta tn tc ts tp) (Kret (PV.tup [PV.str (S.ofB (fun j => bif Nat.blt j (1) then IntKind.wrap .u8 (S.shrB .i64 ta (40 : Int)) else bif Nat.blt (j - 1) (1) then IntKind.wrap .u8 (S.shrB .i64 ta (32 : Int)) else bif Nat.blt (j - 1 - 1) (1) then IntKind.wrap .u8 (S.shrB .i64 ta (24 : Int)) else bif Nat.blt (j - 1 - 1 - 1) (1) then IntKind.wrap .u8 (S.shrB .i64 ta (16 : Int)) else bif Nat.blt (j - 1 - 1 - 1 - 1) (1) then IntKind.wrap .u8 (S.shrB .i64 ta (8 : Int)) else bif Nat.blt (j - 1 - 1 - 1 - 1 - 1) (1) then IntKind.wrap .u8 (S.shrB .i64 ta (0 : Int)) else bif Nat.blt (j - 1 - 1 - 1 - 1 - 1 - 1) (1) then IntKind.wrap .u8 (S.shrB .i64 tn (8 : Int)) else bif Nat.blt (j - 1 - 1 - 1 - 1 - 1 - 1 - 1) (1) then IntKind.wrap .u8 (S.shrB .i64 tn (0 : Int)) else bif Nat.blt (j - 1 - 1 - 1 - 1 - 1 - 1 - 1 - 1) (1) then IntKind.wrap .u8 (S.shrB .i64 tc (16 : Int)) else bif Nat.blt (j - 1 - 1 - 1 - 1 - 1 - 1 - 1 - 1 - 1) (1) then IntKind.wrap .u8 (S.shrB .i64 tc (8 : Int)) else bif Nat.blt (j - 1 - 1 - 1 - 1 - 1 - 1 - 1 - 1 - 1 - 1) (1) then IntKind.wrap .u8 (S.shrB .i64 tc (0 : Int)) else bif Nat.blt (j - 1 - 1 - 1 - 1 - 1 - 1 - 1 - 1 - 1 - 1 - 1) (1) then IntKind.wrap .u8 (S.shrB .i64 ts (0 : Int)) else bif Nat.blt (j - 1 - 1 - 1 - 1 - 1 - 1 - 1 - 1 - 1 - 1 - 1 - 1) (1) then IntKind.wrap .u8 (S.shrB .i64 (tp + 1099511627776) (40 : Int)) else bif Nat.blt (j - 1 - 1 - 1 - 1 - 1 - 1 - 1 - 1 - 1 - 1 - 1 - 1 - 1) (1) then IntKind.wrap .u8 (S.shrB .i64 (tp + 1099511627776) (32 : Int)) else bif Nat.blt (j - 1 - 1 - 1 - 1 - 1 - 1 - 1 - 1 - 1 - 1 - 1 - 1 - 1 - 1) (1) then IntKind.wrap .u8 (S.shrB .i64 (tp + 1099511627776) (24 : Int)) else bif Nat.blt (j - 1 - 1 - 1 - 1 - 1 - 1 - 1 - 1 - 1 - 1 - 1 - 1 - 1 - 1 - 1) (1) then IntKind.wrap .u8 (S.shrB .i64 (tp + 1099511627776) (16 : Int)) else bif Nat.blt (j - 1 - 1 - 1 - 1 - 1 - 1 - 1 - 1 - 1 - 1 - 1 - 1 - 1 - 1 - 1 - 1) (1) then IntKind.wrap .u8 (S.shrB .i64 (tp + 1099511627776) (8 : Int)) else bif Nat.blt (j - 1 - 1 - 1 - 1 - 1 - 1 - 1 - 1 - 1 - 1 - 1 - 1 - 1 - 1 - 1 - 1 - 1) (1) then IntKind.wrap .u8 (S.shrB .i64 (tp + 1099511627776) (0 : Int)) else bif Nat.blt (j - 1 - 1 - 1 - 1 - 1 - 1 - 1 - 1 - 1 - 1 - 1 - 1 - 1 - 1 - 1 - 1 - 1 - 1) (1) then IntKind.wrap .u8 (S.shrB .i64 (c32_e_0 ta tn tc ts tp) (8 : Int)) else IntKind.wrap .u8 (S.shrB .i64 (c32_e_0 ta tn tc ts tp) (0 : Int))) (20)), PV.int .i64 (0 : Int)]) ([[]]) (49)) (False)) (False))
theorem te32 (Kst : KS) (Kret : KR) (ta tn tc ts tp : Int) : run cond Try.env true (xD cond) false 4000 ⟨32, [.cd (mkFn Try.f32).body], argT 0 [.agg [.int .i64 ta, .int .i64 tn, .int .i64 tc, .int .i64 ts, .int .i64 tp]], [[], []], 0⟩ (proj 0 [] Kst Kret) =
  Te32 cond Kst Kret ta tn tc ts tp := by kernel_rfl
attribute [local irreducible] Int.subNatNat in
theorem be32 (ta tn tc ts tp : Int) (Kst : KS) (Kret : KR) (x : St32 ⊕ Rt32) (hS : HS 0 400 ((I32 ta tn tc ts tp)) Kst x) (hR : HR 0 400 ((V32 ta tn tc ts tp)) (fun r => [newL (0 + 1) ((N32 ta tn tc ts tp) r) ++ []]) Kret x) (h : p32 ta tn tc ts tp = some x) : Te32 cond Kst Kret ta tn tc ts tp := by
  unfold Te32
  unfold p32 at h
  refine bif_split h (fun c0 h => ret_at hR _ h (fun n => n) rfl rfl rfl (rn_tup ⟨(rn_str rfl), (rn_int rfl), trivial⟩) rfl entl_nil) (fun c0 h => bif_split h (fun c1 h => bif_split h (fun c2 h => ret_at hR _ h (fun n => n) rfl rfl rfl (rn_tup ⟨(rn_str rfl), (rn_int rfl), trivial⟩) rfl entl_nil) (fun c2 h => no_some h)) (fun c1 h => no_some h))
theorem a32 (ta tn tc ts tp : Int) {r : Rt32} (h : Goes ((q32 ta tn tc ts tp)) ((p32 ta tn tc ts tp)) r) : CallR Try.prog 32 [.agg [.int .i64 ta, .int .i64 tn, .int .i64 tc, .int .i64 ts, .int .i64 tp]] [[]] 0 ((V32 ta tn tc ts tp) r) ((fun r => [newL (0 + 1) ((N32 ta tn tc ts tp) r) ++ []]) r) 400 ∧ ∃ F, Try.prog.funcs[32]? = some F ∧ F.body.isSome = true ∧ (F.name == "runtime.NumGoroutine") = false := by
  refine dec_free (f := 32) (lo := 0) (hi := 400) Try.envOk Try.mixed xD_ok ((I32 ta tn tc ts tp)) ((V32 ta tn tc ts tp)) (fun r => [newL (0 + 1) ((N32 ta tn tc ts tp) r) ++ []]) (fn := mkFn Try.f32) (n := 4000) rfl (by decide) (by simp) (names_of rfl) ?_ h
  · intro Kst Kret x hS hR h
    exact Holds.eq (te32 Kst Kret ta tn tc ts tp) (be32 ta tn tc ts tp Kst Kret x hS hR h)
noncomputable abbrev w32 {α : Type} (g : Int → Int → Int → Int → Int → α) (x : (Int × Int × Int × Int × Int × Unit) × Unit) : α := g x.1.1 x.1.2.1 x.1.2.2.1 x.1.2.2.2.1 x.1.2.2.2.2.1
noncomputable def k32  : Con := ⟨32, [.agg [.plain (.int .i64), .plain (.int .i64), .plain (.int .i64), .plain (.int .i64), .plain (.int .i64)]], w32 (fun ta tn tc ts tp => decide (True)), w32 (fun ta tn tc ts tp => (V32 ta tn tc ts tp) ((S.encS ta tn tc ts tp).1, (S.encS ta tn tc ts tp).2)), w32 (fun ta tn tc ts tp => (N32 ta tn tc ts tp) ((S.encS ta tn tc ts tp).1, (S.encS ta tn tc ts tp).2)), fun _ _ => .dead⟩
theorem s32 (ta tn tc ts tp : Int) (hp : True) : Goes ((q32 ta tn tc ts tp)) ((p32 ta tn tc ts tp)) (((S.encS ta tn tc ts tp).1, (S.encS ta tn tc ts tp).2)) := by
  show Goes _ _ (S.encS ta tn tc ts tp)
  unfold S.encS
  by_cases h0 : S.evE ta tn tc ts tp = 0
  · rw [if_pos h0]
    obtain ⟨⟨a1, a2⟩, ⟨n1, n2⟩, ⟨c1, c2⟩, ⟨s1, s2⟩, ⟨p1, p2⟩⟩ := evB_iff.mp h0
    have h0' : (S.evE ta tn tc ts tp != 0) = false := by rw [h0]; rfl
    have e18 : ∀ F : Nat → Int, F 0 = S.encF ta tn tc ts (tp + 1099511627776) 0 → F 1 = S.encF ta tn tc ts (tp + 1099511627776) 1 → F 2 = S.encF ta tn tc ts (tp + 1099511627776) 2 → F 3 = S.encF ta tn tc ts (tp + 1099511627776) 3 → F 4 = S.encF ta tn tc ts (tp + 1099511627776) 4 → F 5 = S.encF ta tn tc ts (tp + 1099511627776) 5 → F 6 = S.encF ta tn tc ts (tp + 1099511627776) 6 → F 7 = S.encF ta tn tc ts (tp + 1099511627776) 7 → F 8 = S.encF ta tn tc ts (tp + 1099511627776) 8 → F 9 = S.encF ta tn tc ts (tp + 1099511627776) 9 → F 10 = S.encF ta tn tc ts (tp + 1099511627776) 10 → F 11 = S.encF ta tn tc ts (tp + 1099511627776) 11 → F 12 = S.encF ta tn tc ts (tp + 1099511627776) 12 → F 13 = S.encF ta tn tc ts (tp + 1099511627776) 13 → F 14 = S.encF ta tn tc ts (tp + 1099511627776) 14 → F 15 = S.encF ta tn tc ts (tp + 1099511627776) 15 → F 16 = S.encF ta tn tc ts (tp + 1099511627776) 16 → F 17 = S.encF ta tn tc ts (tp + 1099511627776) 17 → S.ofB F 18 = S.ofB (fun j => S.encF ta tn tc ts (tp + 1099511627776) j) 18 := fun F h0 h1 h2 h3 h4 h5 h6 h7 h8 h9 h10 h11 h12 h13 h14 h15 h16 h17 => ofB_congr fun j hj => by
      have hj' : j = 0 ∨ j = 1 ∨ j = 2 ∨ j = 3 ∨ j = 4 ∨ j = 5 ∨ j = 6 ∨ j = 7 ∨ j = 8 ∨ j = 9 ∨ j = 10 ∨ j = 11 ∨ j = 12 ∨ j = 13 ∨ j = 14 ∨ j = 15 ∨ j = 16 ∨ j = 17 := by omega
      rcases hj' with rfl | rfl | rfl | rfl | rfl | rfl | rfl | rfl | rfl | rfl | rfl | rfl | rfl | rfl | rfl | rfl | rfl | rfl
      · exact h0
      · exact h1
      · exact h2
      · exact h3
      · exact h4
      · exact h5
      · exact h6
      · exact h7
      · exact h8
      · exact h9
      · exact h10
      · exact h11
      · exact h12
      · exact h13
      · exact h14
      · exact h15
      · exact h16
      · exact h17
    have e20 : ∀ F : Nat → Int, F 0 = S.encG ta tn tc ts (tp + 1099511627776) (S.encK ta tn tc ts (tp + 1099511627776)) 0 → F 1 = S.encG ta tn tc ts (tp + 1099511627776) (S.encK ta tn tc ts (tp + 1099511627776)) 1 → F 2 = S.encG ta tn tc ts (tp + 1099511627776) (S.encK ta tn tc ts (tp + 1099511627776)) 2 → F 3 = S.encG ta tn tc ts (tp + 1099511627776) (S.encK ta tn tc ts (tp + 1099511627776)) 3 → F 4 = S.encG ta tn tc ts (tp + 1099511627776) (S.encK ta tn tc ts (tp + 1099511627776)) 4 → F 5 = S.encG ta tn tc ts (tp + 1099511627776) (S.encK ta tn tc ts (tp + 1099511627776)) 5 → F 6 = S.encG ta tn tc ts (tp + 1099511627776) (S.encK ta tn tc ts (tp + 1099511627776)) 6 → F 7 = S.encG ta tn tc ts (tp + 1099511627776) (S.encK ta tn tc ts (tp + 1099511627776)) 7 → F 8 = S.encG ta tn tc ts (tp + 1099511627776) (S.encK ta tn tc ts (tp + 1099511627776)) 8 → F 9 = S.encG ta tn tc ts (tp + 1099511627776) (S.encK ta tn tc ts (tp + 1099511627776)) 9 → F 10 = S.encG ta tn tc ts (tp + 1099511627776) (S.encK ta tn tc ts (tp + 1099511627776)) 10 → F 11 = S.encG ta tn tc ts (tp + 1099511627776) (S.encK ta tn tc ts (tp + 1099511627776)) 11 → F 12 = S.encG ta tn tc ts (tp + 1099511627776) (S.encK ta tn tc ts (tp + 1099511627776)) 12 → F 13 = S.encG ta tn tc ts (tp + 1099511627776) (S.encK ta tn tc ts (tp + 1099511627776)) 13 → F 14 = S.encG ta tn tc ts (tp + 1099511627776) (S.encK ta tn tc ts (tp + 1099511627776)) 14 → F 15 = S.encG ta tn tc ts (tp + 1099511627776) (S.encK ta tn tc ts (tp + 1099511627776)) 15 → F 16 = S.encG ta tn tc ts (tp + 1099511627776) (S.encK ta tn tc ts (tp + 1099511627776)) 16 → F 17 = S.encG ta tn tc ts (tp + 1099511627776) (S.encK ta tn tc ts (tp + 1099511627776)) 17 → F 18 = S.encG ta tn tc ts (tp + 1099511627776) (S.encK ta tn tc ts (tp + 1099511627776)) 18 → F 19 = S.encG ta tn tc ts (tp + 1099511627776) (S.encK ta tn tc ts (tp + 1099511627776)) 19 → S.ofB F 20 = S.ofB (fun j => S.encG ta tn tc ts (tp + 1099511627776) (S.encK ta tn tc ts (tp + 1099511627776)) j) 20 := fun F h0 h1 h2 h3 h4 h5 h6 h7 h8 h9 h10 h11 h12 h13 h14 h15 h16 h17 h18 h19 => ofB_congr fun j hj => by
      have hj' : j = 0 ∨ j = 1 ∨ j = 2 ∨ j = 3 ∨ j = 4 ∨ j = 5 ∨ j = 6 ∨ j = 7 ∨ j = 8 ∨ j = 9 ∨ j = 10 ∨ j = 11 ∨ j = 12 ∨ j = 13 ∨ j = 14 ∨ j = 15 ∨ j = 16 ∨ j = 17 ∨ j = 18 ∨ j = 19 := by omega
      rcases hj' with rfl | rfl | rfl | rfl | rfl | rfl | rfl | rfl | rfl | rfl | rfl | rfl | rfl | rfl | rfl | rfl | rfl | rfl | rfl | rfl
      · exact h0
      · exact h1
      · exact h2
      · exact h3
      · exact h4
      · exact h5
      · exact h6
      · exact h7
      · exact h8
      · exact h9
      · exact h10
      · exact h11
      · exact h12
      · exact h13
      · exact h14
      · exact h15
      · exact h16
      · exact h17
      · exact h18
      · exact h19
    unfold p32
    simp only [-eq_self, c32_e_0, c32_e_1, c32_e_2]
    refine goes_no h0' ?_

    repeat' first
      | with_reducible refine goes_ok limK1 ?_
      | with_reducible refine goes_ok limK2 ?_
      | with_reducible refine goes_if (fun h => ?_) (fun h => ?_) <;> (try simp only [SH, ofB_size] at h)
      | exact goes_none.mpr (by omega)
    rotate_left
    all_goals try (exfalso; omega)
    refine goes_inr.mpr ?_
    refine congrArg (fun x => (x, (0 : Int))) ?_
    refine e20 _ wsh40 wsh32 wsh24 wsh16 wsh8 wsh0 wsh8 wsh0 wsh16 wsh8 wsh0 wsh0 wsh40 wsh32 wsh24 wsh16 wsh8 wsh0 ?_ ?_
    · refine Eq.trans wsh8 ?_
      rw [e18 _ wsh40 wsh32 wsh24 wsh16 wsh8 wsh0 wsh8 wsh0 wsh16 wsh8 wsh0 wsh0 wsh40 wsh32 wsh24 wsh16 wsh8 wsh0]
      rfl
    · refine Eq.trans wsh0 ?_
      rw [e18 _ wsh40 wsh32 wsh24 wsh16 wsh8 wsh0 wsh8 wsh0 wsh16 wsh8 wsh0 wsh0 wsh40 wsh32 wsh24 wsh16 wsh8 wsh0]
      rfl
  · rw [if_neg h0]
    unfold p32
    exact goes_ok (by simpa using h0) (goes_inr.mpr rfl)
theorem k32_ok  : k32.ok Try.prog := by
  intro x hx
  obtain ⟨⟨ta, tn, tc, ts, tp, _⟩, _⟩ := x
  obtain ⟨h1, h2⟩ := a32 ta tn tc ts tp (s32 ta tn tc ts tp (of_dec hx rfl))
  exact ⟨⟨400, (by decide : 0 + 1 + 0 ≤ 400), h1⟩, h2⟩
noncomputable def xE (test : Bool → Prop → Prop → Prop) : Ext := consX test [k40, k14, k15, k13, k51, k53, k54, k55, k32]
theorem xE_ok  : ExtOk Try.prog (xE cond) := consX_ok ⟨k40_ok, k14_ok, k15_ok, k13_ok, k51_ok, k53_ok, k54_ok, k55_ok, k32_ok, trivial⟩
namespace S
def decR (a n c s p : Int) : Int × Int × Int × Int × Int × Int := if evE a n c s p = 0 then (a, n, c, s, p, 0) else (0, 0, 0, 0, 0, evE a n c s p)
def decS (st : ByteArray) : Int × Int × Int × Int × Int × Int :=
  if st.size = 20 then
    (if getS (subS st 18 20) = ckS (subS st 0 18) then decR (getS (subS st 0 6)) (getS (subS st 6 8)) (getS (subS st 8 11)) (getS (subS st 11 12)) (getS (subS st 12 18) - 1099511627776) else (0, 0, 0, 0, 0, 19))
  else (0, 0, 0, 0, 0, 2)
end S
theorem getS_b  {st : ByteArray} (h : st.size ≤ 6) : 0 ≤ S.getS st ∧ S.getS st < 281474976710656 := by
  have h1 := getN_b (f := fun j => keys st j) (key_b st) (n := st.size)
  have h2 := p256_6 h
  unfold S.getS
  omega
theorem getN_congr  {f g : Nat → Int} : ∀ {n : Nat}, (∀ j, j < n → f j = g j) → S.getN f n = S.getN g n
  | 0, _ => rfl
  | n + 1, h => by
    simp only [S.getN]
    rw [getN_congr fun j hj => h j (by omega), h n (by omega)]
theorem getS_sub  {st : ByteArray} {lo hi n : Nat} (h : hi ≤ st.size) (hn : hi - lo = n) : S.getS (S.subS st lo hi) = S.getN (fun j => keys st (lo + j)) n := by
  subst hn
  unfold S.getS
  rw [sub_size h]
  exact getN_congr fun j hj => keys_sub h hj
abbrev St34  := Empty
abbrev Rt34  := Int × Int × Int × Int × Int × Int
noncomputable def V34 (st : ByteArray) (r : Rt34) : PV := PV.tup [PV.agg [PV.int .i64 r.1, PV.int .i64 r.2.1, PV.int .i64 r.2.2.1, PV.int .i64 r.2.2.2.1, PV.int .i64 r.2.2.2.2.1], PV.int .i64 r.2.2.2.2.2]
noncomputable def N34 (st : ByteArray) (r : Rt34) : List Blk := []
noncomputable def I34 (st : ByteArray) : St34 → Hd := fun s => s.elim
noncomputable def q34 (st : ByteArray) : St34 → Option (St34 ⊕ Rt34) := fun s => s.elim
noncomputable def p34 (st : ByteArray) : Option (St34 ⊕ Rt34) := bif ((↑(ByteArray.size st) : Int) != 20) then (some (.inr ((0 : Int), (0 : Int), (0 : Int), (0 : Int), (0 : Int), (2 : Int)))) else (bif (decide ((0 : Int) ≤ Option.getD (Option.some (18 : Int)) (0 : Int) ∧ (18 : Int) ≤ (↑(ByteArray.size st) : Int) ∧ (↑(ByteArray.size st) : Int) ≤ (↑(ByteArray.size st) : Int))) then (bif (decide (ByteArray.size (S.subS st (18) (ByteArray.size st)) ≤ 6)) then (bif (decide ((0 : Int) ≤ Option.getD Option.none (0 : Int) ∧ (0 : Int) ≤ 18 ∧ (18 : Int) ≤ (↑(ByteArray.size st) : Int))) then (bif (decide (ByteArray.size (S.subS st (0) (18)) ≤ 1000)) then (bif (S.getS (S.subS st (18) (ByteArray.size st)) != S.ckS (S.subS st (0) (18))) then (some (.inr ((0 : Int), (0 : Int), (0 : Int), (0 : Int), (0 : Int), (19 : Int)))) else (bif (decide ((0 : Int) ≤ Option.getD Option.none (0 : Int) ∧ (0 : Int) ≤ 6 ∧ (6 : Int) ≤ (↑(ByteArray.size st) : Int))) then (bif (decide (ByteArray.size (S.subS st (0) (6)) ≤ 6)) then (bif (decide ((0 : Int) ≤ Option.getD (Option.some (6 : Int)) (0 : Int) ∧ (6 : Int) ≤ 8 ∧ (8 : Int) ≤ (↑(ByteArray.size st) : Int))) then (bif (decide (ByteArray.size (S.subS st (6) (8)) ≤ 6)) then (bif (decide ((0 : Int) ≤ Option.getD (Option.some (8 : Int)) (0 : Int) ∧ (8 : Int) ≤ 11 ∧ (11 : Int) ≤ (↑(ByteArray.size st) : Int))) then (bif (decide (ByteArray.size (S.subS st (8) (11)) ≤ 6)) then (bif (decide ((0 : Int) ≤ Option.getD (Option.some (11 : Int)) (0 : Int) ∧ (11 : Int) ≤ 12 ∧ (12 : Int) ≤ (↑(ByteArray.size st) : Int))) then (bif (decide (ByteArray.size (S.subS st (11) (12)) ≤ 6)) then (bif (decide ((0 : Int) ≤ Option.getD (Option.some (12 : Int)) (0 : Int) ∧ (12 : Int) ≤ 18 ∧ (18 : Int) ≤ (↑(ByteArray.size st) : Int))) then (bif (decide (ByteArray.size (S.subS st (12) (18)) ≤ 6)) then (bif (lim .i64 (S.getS (S.subS st (12) (18)) - 1099511627776)) then (bif (S.evE (S.getS (S.subS st (0) (6))) (S.getS (S.subS st (6) (8))) (S.getS (S.subS st (8) (11))) (S.getS (S.subS st (11) (12))) (S.getS (S.subS st (12) (18)) - 1099511627776) != 0) then (some (.inr ((0 : Int), (0 : Int), (0 : Int), (0 : Int), (0 : Int), S.evE (S.getS (S.subS st (0) (6))) (S.getS (S.subS st (6) (8))) (S.getS (S.subS st (8) (11))) (S.getS (S.subS st (11) (12))) (S.getS (S.subS st (12) (18)) - 1099511627776)))) else (some (.inr (S.getS (S.subS st (0) (6)), S.getS (S.subS st (6) (8)), S.getS (S.subS st (8) (11)), S.getS (S.subS st (11) (12)), S.getS (S.subS st (12) (18)) - 1099511627776, (0 : Int))))) else (none)) else (none)) else (none)) else (none)) else (none)) else (none)) else (none)) else (none)) else (none)) else (none)) else (none))) else (none)) else (none)) else (none)) else (none))
noncomputable def Te34 (test : TT) (Kst : KS) (Kret : KR) (st : ByteArray) : Prop := test ((↑(ByteArray.size st) : Int) != 20) (Kret (PV.tup [PV.agg [PV.int .i64 (0 : Int), PV.int .i64 (0 : Int), PV.int .i64 (0 : Int), PV.int .i64 (0 : Int), PV.int .i64 (0 : Int)], PV.int .i64 (2 : Int)]) ([[]]) (1)) (test (decide ((0 : Int) ≤ Option.getD (Option.some (18 : Int)) (0 : Int) ∧ (18 : Int) ≤ (↑(ByteArray.size st) : Int) ∧ (↑(ByteArray.size st) : Int) ≤ (↑(ByteArray.size st) : Int))) (test (decide (ByteArray.size (S.subS st (18) (ByteArray.size st)) ≤ 6)) (test (decide ((0 : Int) ≤ Option.getD Option.none (0 : Int) ∧ (0 : Int) ≤ 18 ∧ (18 : Int) ≤ (↑(ByteArray.size st) : Int))) (test (decide (ByteArray.size (S.subS st (0) (18)) ≤ 1000)) (test (S.getS (S.subS st (18) (ByteArray.size st)) != S.ckS (S.subS st (0) (18))) (Kret (PV.tup [PV.agg [PV.int .i64 (0 : Int), PV.int .i64 (0 : Int), PV.int .i64 (0 : Int), PV.int .i64 (0 : Int), PV.int .i64 (0 : Int)], PV.int .i64 (19 : Int)]) ([[]]) (3)) (test (decide ((0 : Int) ≤ Option.getD Option.none (0 : Int) ∧ (0 : Int) ≤ 6 ∧ (6 : Int) ≤ (↑(ByteArray.size st) : Int))) (test (decide (ByteArray.size (S.subS st (0) (6)) ≤ 6)) (test (decide ((0 : Int) ≤ Option.getD (Option.some (6 : Int)) (0 : Int) ∧ (6 : Int) ≤ 8 ∧ (8 : Int) ≤ (↑(ByteArray.size st) : Int))) (test (decide (ByteArray.size (S.subS st (6) (8)) ≤ 6)) (test (decide ((0 : Int) ≤ Option.getD (Option.some (8 : Int)) (0 : Int) ∧ (8 : Int) ≤ 11 ∧ (11 : Int) ≤ (↑(ByteArray.size st) : Int))) (test (decide (ByteArray.size (S.subS st (8) (11)) ≤ 6)) (test (decide ((0 : Int) ≤ Option.getD (Option.some (11 : Int)) (0 : Int) ∧ (11 : Int) ≤ 12 ∧ (12 : Int) ≤ (↑(ByteArray.size st) : Int))) (test (decide (ByteArray.size (S.subS st (11) (12)) ≤ 6)) (test (decide ((0 : Int) ≤ Option.getD (Option.some (12 : Int)) (0 : Int) ∧ (12 : Int) ≤ 18 ∧ (18 : Int) ≤ (↑(ByteArray.size st) : Int))) (test (decide (ByteArray.size (S.subS st (12) (18)) ≤ 6)) (test (lim .i64 (S.getS (S.subS st (12) (18)) - 1099511627776)) (test (true) (test (S.evE (S.getS (S.subS st (0) (6))) (S.getS (S.subS st (6) (8))) (S.getS (S.subS st (8) (11))) (S.getS (S.subS st (11) (12))) (S.getS (S.subS st (12) (18)) - 1099511627776) != 0) (Kret (PV.tup [PV.agg [PV.int .i64 (0 : Int), PV.int .i64 (0 : Int), PV.int .i64 (0 : Int), PV.int .i64 (0 : Int), PV.int .i64 (0 : Int)], PV.int .i64 (S.evE (S.getS (S.subS st (0) (6))) (S.getS (S.subS st (6) (8))) (S.getS (S.subS st (8) (11))) (S.getS (S.subS st (11) (12))) (S.getS (S.subS st (12) (18)) - 1099511627776))]) ([[]]) (10)) (Kret (PV.tup [PV.agg [PV.int .i64 (S.getS (S.subS st (0) (6))), PV.int .i64 (S.getS (S.subS st (6) (8))), PV.int .i64 (S.getS (S.subS st (8) (11))), PV.int .i64 (S.getS (S.subS st (11) (12))), PV.int .i64 (S.getS (S.subS st (12) (18)) - 1099511627776)], PV.int .i64 (0 : Int)]) ([[]]) (10))) (False)) (False)) (False)) (False)) (False)) (False)) (False)) (False)) (False)) (False)) (False)) (False))) (False)) (False)) (False)) (False))
theorem te34 (test : TT) (Kst : KS) (Kret : KR) (st : ByteArray) : run test Try.env true (xE test) true 400 ⟨34, [.cd (mkFn Try.f34).body], argT 0 [.str st], [[], []], 0⟩ (proj 0 [] Kst Kret) =
  Te34 test Kst Kret st := by kernel_rfl
attribute [local irreducible] Int.subNatNat S.getS S.ckS S.evE in
theorem be34 (st : ByteArray) (Kst : KS) (Kret : KR) (x : St34 ⊕ Rt34) (hS : HS 0 400 ((I34 st)) Kst x) (hR : HR 0 400 ((V34 st)) (fun r => [newL (0 + 1) ((N34 st) r) ++ []]) Kret x) (h : p34 st = some x) : Te34 cond Kst Kret st := by
  unfold Te34
  unfold p34 at h
  refine bif_split h (fun c0 h => ?_) (fun c0 h => bif_split h (fun c1 h => bif_split h (fun c2 h => bif_split h (fun c3 h => bif_split h (fun c4 h => bif_split h (fun c5 h => ?_) (fun c5 h => bif_split h (fun c6 h => bif_split h (fun c7 h => bif_split h (fun c8 h => bif_split h (fun c9 h => bif_split h (fun c10 h => bif_split h (fun c11 h => bif_split h (fun c12 h => bif_split h (fun c13 h => bif_split h (fun c14 h => bif_split h (fun c15 h => bif_split h (fun c16 h => cond_yes rfl (bif_split h (fun c17 h => ?_) (fun c17 h => ?_))) (fun c16 h => ?_)) (fun c15 h => ?_)) (fun c14 h => ?_)) (fun c13 h => ?_)) (fun c12 h => ?_)) (fun c11 h => ?_)) (fun c10 h => ?_)) (fun c9 h => ?_)) (fun c8 h => ?_)) (fun c7 h => ?_)) (fun c6 h => ?_))) (fun c4 h => ?_)) (fun c3 h => ?_)) (fun c2 h => ?_)) (fun c1 h => ?_))
  all_goals first
    | exact no_some h
    | exact ret_at hR _ h (fun n => n) rfl rfl rfl (rn_tup ⟨(rn_agg ⟨(rn_int rfl), (rn_int rfl), (rn_int rfl), (rn_int rfl), (rn_int rfl), trivial⟩), (rn_int rfl), trivial⟩) rfl entl_nil
theorem a34 (st : ByteArray) {r : Rt34} (h : Goes ((q34 st)) ((p34 st)) r) : CallR Try.prog 34 [.str st] [[]] 0 ((V34 st) r) ((fun r => [newL (0 + 1) ((N34 st) r) ++ []]) r) 400 ∧ ∃ F, Try.prog.funcs[34]? = some F ∧ F.body.isSome = true ∧ (F.name == "runtime.NumGoroutine") = false := by
  refine dec_calls (f := 34) (lo := 0) (hi := 400) Try.envOk Try.mixed xE_ok ((I34 st)) ((V34 st)) (fun r => [newL (0 + 1) ((N34 st) r) ++ []]) (fn := mkFn Try.f34) (ts := []) (n := 400) rfl (by decide) (by simp) (names_of rfl) ?_ ?_ ?_ h
  · intro s; exact s.elim
  · intro Kst Kret x hS hR h
    exact Holds.eq (te34 cond Kst Kret st) (be34 st Kst Kret x hS hR h)
  · intro Kst Kret x hS hR s h; exact s.elim
noncomputable abbrev w34 {α : Type} (g : ByteArray → α) (x : ByteArray × Unit) : α := g x.1
noncomputable def k34  : Con := ⟨34, [.one (.plain (.str))], w34 (fun st => decide (True)), w34 (fun st => (V34 st) ((S.decS st).1, (S.decS st).2.1, (S.decS st).2.2.1, (S.decS st).2.2.2.1, (S.decS st).2.2.2.2.1, (S.decS st).2.2.2.2.2)), w34 (fun st => (N34 st) ((S.decS st).1, (S.decS st).2.1, (S.decS st).2.2.1, (S.decS st).2.2.2.1, (S.decS st).2.2.2.2.1, (S.decS st).2.2.2.2.2)), fun _ _ => .dead⟩
theorem s34 (st : ByteArray) (hp : True) : Goes ((q34 st)) ((p34 st)) (((S.decS st).1, (S.decS st).2.1, (S.decS st).2.2.1, (S.decS st).2.2.2.1, (S.decS st).2.2.2.2.1, (S.decS st).2.2.2.2.2)) := by
  show Goes _ _ (S.decS st)
  unfold S.decS S.decR
  by_cases h0 : st.size = 20
  · rw [if_pos h0]
    have z1 : (S.subS st 18 20).size = 2 := sub_size (by omega)
    have z2 : (S.subS st 0 18).size = 18 := sub_size (by omega)
    have z3 : (S.subS st 0 6).size = 6 := sub_size (by omega)
    have z4 : (S.subS st 6 8).size = 2 := sub_size (by omega)
    have z5 : (S.subS st 8 11).size = 3 := sub_size (by omega)
    have z6 : (S.subS st 11 12).size = 1 := sub_size (by omega)
    have z7 : (S.subS st 12 18).size = 6 := sub_size (by omega)
    have hb := getS_b (st := S.subS st 12 18) (by omega)
    unfold p34
    simp only [h0, z1, z2, z3, z4, z5, z6, z7]
    generalize S.getS (S.subS st 18 20) = k1 at *
    generalize S.ckS (S.subS st 0 18) = k2 at *
    generalize S.getS (S.subS st 0 6) = a at *
    generalize S.getS (S.subS st 6 8) = n at *
    generalize S.getS (S.subS st 8 11) = c at *
    generalize S.getS (S.subS st 11 12) = s at *
    generalize S.getS (S.subS st 12 18) = q at *
    by_cases hk : k1 = k2
    · rw [if_pos hk]
      generalize S.evE a n c s (q - 1099511627776) = E at *
      by_cases hE : E = 0
      · rw [if_pos hE]
        subst hE
        repeat' (first | with_reducible refine goes_if (fun h => ?_) (fun h => ?_) <;> (try simp only [SH] at h) | exact goes_none.mpr (by omega))
        all_goals first | (exfalso; omega) | exact goes_inr.mpr rfl
      · rw [if_neg hE]
        repeat' (first | with_reducible refine goes_if (fun h => ?_) (fun h => ?_) <;> (try simp only [SH] at h) | exact goes_none.mpr (by omega))
        all_goals first | (exfalso; omega) | exact goes_inr.mpr rfl
    · rw [if_neg hk]
      repeat' (first | with_reducible refine goes_if (fun h => ?_) (fun h => ?_) <;> (try simp only [SH] at h) | exact goes_none.mpr (by omega))
      all_goals first | (exfalso; omega) | exact goes_inr.mpr rfl
  · rw [if_neg h0]
    unfold p34
    exact goes_ok (by rw [bne_iff_ne]; omega) (goes_inr.mpr rfl)
theorem k34_ok  : k34.ok Try.prog := by
  intro x hx
  obtain ⟨st, _⟩ := x
  obtain ⟨h1, h2⟩ := a34 st (s34 st (of_dec hx rfl))
  exact ⟨⟨400, (by decide : 0 + 1 + 0 ≤ 400), h1⟩, h2⟩
abbrev St35  := Empty
abbrev Rt35  := Int × Int × Int × Int × Int × Int
noncomputable def V35 (st : ByteArray) (r : Rt35) : PV := PV.tup [PV.agg [PV.int .i64 r.1, PV.int .i64 r.2.1, PV.int .i64 r.2.2.1, PV.int .i64 r.2.2.2.1, PV.int .i64 r.2.2.2.2.1], PV.int .i64 r.2.2.2.2.2]
noncomputable def N35 (st : ByteArray) (r : Rt35) : List Blk := []
noncomputable def I35 (st : ByteArray) : St35 → Hd := fun s => s.elim
noncomputable def q35 (st : ByteArray) : St35 → Option (St35 ⊕ Rt35) := fun s => s.elim
noncomputable def p35 (st : ByteArray) : Option (St35 ⊕ Rt35) := bif ((↑(ByteArray.size st) : Int) != 20) then (some (.inr ((0 : Int), (0 : Int), (0 : Int), (0 : Int), (0 : Int), (2 : Int)))) else (bif (decide ((0 : Int) ≤ Option.getD (Option.some (18 : Int)) (0 : Int) ∧ (18 : Int) ≤ (↑(ByteArray.size st) : Int) ∧ (↑(ByteArray.size st) : Int) ≤ (↑(ByteArray.size st) : Int))) then (bif (decide (ByteArray.size (S.subS st (18) (ByteArray.size st)) ≤ 6)) then (bif (decide ((0 : Int) ≤ Option.getD Option.none (0 : Int) ∧ (0 : Int) ≤ 18 ∧ (18 : Int) ≤ (↑(ByteArray.size st) : Int))) then (bif (decide (ByteArray.size (S.subS st (0) (18)) ≤ 1000)) then (bif (S.getS (S.subS st (18) (ByteArray.size st)) != S.ckS (S.subS st (0) (18))) then (some (.inr ((0 : Int), (0 : Int), (0 : Int), (0 : Int), (0 : Int), (19 : Int)))) else (bif (decide ((0 : Int) ≤ Option.getD Option.none (0 : Int) ∧ (0 : Int) ≤ 6 ∧ (6 : Int) ≤ (↑(ByteArray.size st) : Int))) then (bif (decide (ByteArray.size (S.subS st (0) (6)) ≤ 6)) then (bif (decide ((0 : Int) ≤ Option.getD (Option.some (6 : Int)) (0 : Int) ∧ (6 : Int) ≤ 8 ∧ (8 : Int) ≤ (↑(ByteArray.size st) : Int))) then (bif (decide (ByteArray.size (S.subS st (6) (8)) ≤ 6)) then (bif (decide ((0 : Int) ≤ Option.getD (Option.some (8 : Int)) (0 : Int) ∧ (8 : Int) ≤ 11 ∧ (11 : Int) ≤ (↑(ByteArray.size st) : Int))) then (bif (decide (ByteArray.size (S.subS st (8) (11)) ≤ 6)) then (bif (decide ((0 : Int) ≤ Option.getD (Option.some (11 : Int)) (0 : Int) ∧ (11 : Int) ≤ 12 ∧ (12 : Int) ≤ (↑(ByteArray.size st) : Int))) then (bif (decide (ByteArray.size (S.subS st (11) (12)) ≤ 6)) then (bif (decide ((0 : Int) ≤ Option.getD (Option.some (12 : Int)) (0 : Int) ∧ (12 : Int) ≤ 18 ∧ (18 : Int) ≤ (↑(ByteArray.size st) : Int))) then (bif (decide (ByteArray.size (S.subS st (12) (18)) ≤ 6)) then (bif (lim .i64 (S.getS (S.subS st (12) (18)) - 1099511627776)) then (bif (S.evE (S.getS (S.subS st (0) (6))) (S.getS (S.subS st (6) (8))) (S.getS (S.subS st (8) (11))) (S.getS (S.subS st (11) (12))) (S.getS (S.subS st (12) (18)) - 1099511627776) != 0) then (some (.inr ((0 : Int), (0 : Int), (0 : Int), (0 : Int), (0 : Int), S.evE (S.getS (S.subS st (0) (6))) (S.getS (S.subS st (6) (8))) (S.getS (S.subS st (8) (11))) (S.getS (S.subS st (11) (12))) (S.getS (S.subS st (12) (18)) - 1099511627776)))) else (some (.inr (S.getS (S.subS st (0) (6)), S.getS (S.subS st (6) (8)), S.getS (S.subS st (8) (11)), S.getS (S.subS st (11) (12)), S.getS (S.subS st (12) (18)) - 1099511627776, (0 : Int))))) else (none)) else (none)) else (none)) else (none)) else (none)) else (none)) else (none)) else (none)) else (none)) else (none)) else (none))) else (none)) else (none)) else (none)) else (none))
noncomputable def Te35 (test : TT) (Kst : KS) (Kret : KR) (st : ByteArray) : Prop := test ((↑(ByteArray.size st) : Int) != 20) (Kret (PV.tup [PV.agg [PV.int .i64 (0 : Int), PV.int .i64 (0 : Int), PV.int .i64 (0 : Int), PV.int .i64 (0 : Int), PV.int .i64 (0 : Int)], PV.int .i64 (2 : Int)]) ([[]]) (1)) (test (decide ((0 : Int) ≤ Option.getD (Option.some (18 : Int)) (0 : Int) ∧ (18 : Int) ≤ (↑(ByteArray.size st) : Int) ∧ (↑(ByteArray.size st) : Int) ≤ (↑(ByteArray.size st) : Int))) (test (decide (ByteArray.size (S.subS st (18) (ByteArray.size st)) ≤ 6)) (test (decide ((0 : Int) ≤ Option.getD Option.none (0 : Int) ∧ (0 : Int) ≤ 18 ∧ (18 : Int) ≤ (↑(ByteArray.size st) : Int))) (test (decide (ByteArray.size (S.subS st (0) (18)) ≤ 1000)) (test (S.getS (S.subS st (18) (ByteArray.size st)) != S.ckS (S.subS st (0) (18))) (Kret (PV.tup [PV.agg [PV.int .i64 (0 : Int), PV.int .i64 (0 : Int), PV.int .i64 (0 : Int), PV.int .i64 (0 : Int), PV.int .i64 (0 : Int)], PV.int .i64 (19 : Int)]) ([[]]) (3)) (test (decide ((0 : Int) ≤ Option.getD Option.none (0 : Int) ∧ (0 : Int) ≤ 6 ∧ (6 : Int) ≤ (↑(ByteArray.size st) : Int))) (test (decide (ByteArray.size (S.subS st (0) (6)) ≤ 6)) (test (decide ((0 : Int) ≤ Option.getD (Option.some (6 : Int)) (0 : Int) ∧ (6 : Int) ≤ 8 ∧ (8 : Int) ≤ (↑(ByteArray.size st) : Int))) (test (decide (ByteArray.size (S.subS st (6) (8)) ≤ 6)) (test (decide ((0 : Int) ≤ Option.getD (Option.some (8 : Int)) (0 : Int) ∧ (8 : Int) ≤ 11 ∧ (11 : Int) ≤ (↑(ByteArray.size st) : Int))) (test (decide (ByteArray.size (S.subS st (8) (11)) ≤ 6)) (test (decide ((0 : Int) ≤ Option.getD (Option.some (11 : Int)) (0 : Int) ∧ (11 : Int) ≤ 12 ∧ (12 : Int) ≤ (↑(ByteArray.size st) : Int))) (test (decide (ByteArray.size (S.subS st (11) (12)) ≤ 6)) (test (decide ((0 : Int) ≤ Option.getD (Option.some (12 : Int)) (0 : Int) ∧ (12 : Int) ≤ 18 ∧ (18 : Int) ≤ (↑(ByteArray.size st) : Int))) (test (decide (ByteArray.size (S.subS st (12) (18)) ≤ 6)) (test (lim .i64 (S.getS (S.subS st (12) (18)) - 1099511627776)) (test (true) (test (S.evE (S.getS (S.subS st (0) (6))) (S.getS (S.subS st (6) (8))) (S.getS (S.subS st (8) (11))) (S.getS (S.subS st (11) (12))) (S.getS (S.subS st (12) (18)) - 1099511627776) != 0) (Kret (PV.tup [PV.agg [PV.int .i64 (0 : Int), PV.int .i64 (0 : Int), PV.int .i64 (0 : Int), PV.int .i64 (0 : Int), PV.int .i64 (0 : Int)], PV.int .i64 (S.evE (S.getS (S.subS st (0) (6))) (S.getS (S.subS st (6) (8))) (S.getS (S.subS st (8) (11))) (S.getS (S.subS st (11) (12))) (S.getS (S.subS st (12) (18)) - 1099511627776))]) ([[]]) (10)) (Kret (PV.tup [PV.agg [PV.int .i64 (S.getS (S.subS st (0) (6))), PV.int .i64 (S.getS (S.subS st (6) (8))), PV.int .i64 (S.getS (S.subS st (8) (11))), PV.int .i64 (S.getS (S.subS st (11) (12))), PV.int .i64 (S.getS (S.subS st (12) (18)) - 1099511627776)], PV.int .i64 (0 : Int)]) ([[]]) (10))) (False)) (False)) (False)) (False)) (False)) (False)) (False)) (False)) (False)) (False)) (False)) (False))) (False)) (False)) (False)) (False))
theorem te35 (test : TT) (Kst : KS) (Kret : KR) (st : ByteArray) : run test Try.env true (xE test) true 400 ⟨35, [.cd (mkFn Try.f35).body], argT 0 [.str st], [[], []], 0⟩ (proj 0 [] Kst Kret) =
  Te35 test Kst Kret st := by kernel_rfl
attribute [local irreducible] Int.subNatNat S.getS S.ckS S.evE in
theorem be35 (st : ByteArray) (Kst : KS) (Kret : KR) (x : St35 ⊕ Rt35) (hS : HS 0 400 ((I35 st)) Kst x) (hR : HR 0 400 ((V35 st)) (fun r => [newL (0 + 1) ((N35 st) r) ++ []]) Kret x) (h : p35 st = some x) : Te35 cond Kst Kret st := by
  unfold Te35
  unfold p35 at h
  refine bif_split h (fun c0 h => ?_) (fun c0 h => bif_split h (fun c1 h => bif_split h (fun c2 h => bif_split h (fun c3 h => bif_split h (fun c4 h => bif_split h (fun c5 h => ?_) (fun c5 h => bif_split h (fun c6 h => bif_split h (fun c7 h => bif_split h (fun c8 h => bif_split h (fun c9 h => bif_split h (fun c10 h => bif_split h (fun c11 h => bif_split h (fun c12 h => bif_split h (fun c13 h => bif_split h (fun c14 h => bif_split h (fun c15 h => bif_split h (fun c16 h => cond_yes rfl (bif_split h (fun c17 h => ?_) (fun c17 h => ?_))) (fun c16 h => ?_)) (fun c15 h => ?_)) (fun c14 h => ?_)) (fun c13 h => ?_)) (fun c12 h => ?_)) (fun c11 h => ?_)) (fun c10 h => ?_)) (fun c9 h => ?_)) (fun c8 h => ?_)) (fun c7 h => ?_)) (fun c6 h => ?_))) (fun c4 h => ?_)) (fun c3 h => ?_)) (fun c2 h => ?_)) (fun c1 h => ?_))
  all_goals first
    | exact no_some h
    | exact ret_at hR _ h (fun n => n) rfl rfl rfl (rn_tup ⟨(rn_agg ⟨(rn_int rfl), (rn_int rfl), (rn_int rfl), (rn_int rfl), (rn_int rfl), trivial⟩), (rn_int rfl), trivial⟩) rfl entl_nil
theorem a35 (st : ByteArray) {r : Rt35} (h : Goes ((q35 st)) ((p35 st)) r) : CallR Try.prog 35 [.str st] [[]] 0 ((V35 st) r) ((fun r => [newL (0 + 1) ((N35 st) r) ++ []]) r) 400 ∧ ∃ F, Try.prog.funcs[35]? = some F ∧ F.body.isSome = true ∧ (F.name == "runtime.NumGoroutine") = false := by
  refine dec_calls (f := 35) (lo := 0) (hi := 400) Try.envOk Try.mixed xE_ok ((I35 st)) ((V35 st)) (fun r => [newL (0 + 1) ((N35 st) r) ++ []]) (fn := mkFn Try.f35) (ts := []) (n := 400) rfl (by decide) (by simp) (names_of rfl) ?_ ?_ ?_ h
  · intro s; exact s.elim
  · intro Kst Kret x hS hR h
    exact Holds.eq (te35 cond Kst Kret st) (be35 st Kst Kret x hS hR h)
  · intro Kst Kret x hS hR s h; exact s.elim
noncomputable abbrev w35 {α : Type} (g : ByteArray → α) (x : ByteArray × Unit) : α := g x.1
noncomputable def k35  : Con := ⟨35, [.one (.plain (.str))], w35 (fun st => decide (True)), w35 (fun st => (V35 st) ((S.decS st).1, (S.decS st).2.1, (S.decS st).2.2.1, (S.decS st).2.2.2.1, (S.decS st).2.2.2.2.1, (S.decS st).2.2.2.2.2)), w35 (fun st => (N35 st) ((S.decS st).1, (S.decS st).2.1, (S.decS st).2.2.1, (S.decS st).2.2.2.1, (S.decS st).2.2.2.2.1, (S.decS st).2.2.2.2.2)), fun _ _ => .dead⟩
theorem s35 (st : ByteArray) (hp : True) : Goes ((q35 st)) ((p35 st)) (((S.decS st).1, (S.decS st).2.1, (S.decS st).2.2.1, (S.decS st).2.2.2.1, (S.decS st).2.2.2.2.1, (S.decS st).2.2.2.2.2)) := by
  show Goes _ _ (S.decS st)
  unfold S.decS S.decR
  by_cases h0 : st.size = 20
  · rw [if_pos h0]
    have z1 : (S.subS st 18 20).size = 2 := sub_size (by omega)
    have z2 : (S.subS st 0 18).size = 18 := sub_size (by omega)
    have z3 : (S.subS st 0 6).size = 6 := sub_size (by omega)
    have z4 : (S.subS st 6 8).size = 2 := sub_size (by omega)
    have z5 : (S.subS st 8 11).size = 3 := sub_size (by omega)
    have z6 : (S.subS st 11 12).size = 1 := sub_size (by omega)
    have z7 : (S.subS st 12 18).size = 6 := sub_size (by omega)
    have hb := getS_b (st := S.subS st 12 18) (by omega)
    unfold p35
    simp only [h0, z1, z2, z3, z4, z5, z6, z7]
    generalize S.getS (S.subS st 18 20) = k1 at *
    generalize S.ckS (S.subS st 0 18) = k2 at *
    generalize S.getS (S.subS st 0 6) = a at *
    generalize S.getS (S.subS st 6 8) = n at *
    generalize S.getS (S.subS st 8 11) = c at *
    generalize S.getS (S.subS st 11 12) = s at *
    generalize S.getS (S.subS st 12 18) = q at *
    by_cases hk : k1 = k2
    · rw [if_pos hk]
      generalize S.evE a n c s (q - 1099511627776) = E at *
      by_cases hE : E = 0
      · rw [if_pos hE]
        subst hE
        repeat' (first | with_reducible refine goes_if (fun h => ?_) (fun h => ?_) <;> (try simp only [SH] at h) | exact goes_none.mpr (by omega))
        all_goals first | (exfalso; omega) | exact goes_inr.mpr rfl
      · rw [if_neg hE]
        repeat' (first | with_reducible refine goes_if (fun h => ?_) (fun h => ?_) <;> (try simp only [SH] at h) | exact goes_none.mpr (by omega))
        all_goals first | (exfalso; omega) | exact goes_inr.mpr rfl
    · rw [if_neg hk]
      repeat' (first | with_reducible refine goes_if (fun h => ?_) (fun h => ?_) <;> (try simp only [SH] at h) | exact goes_none.mpr (by omega))
      all_goals first | (exfalso; omega) | exact goes_inr.mpr rfl
  · rw [if_neg h0]
    unfold p35
    exact goes_ok (by rw [bne_iff_ne]; omega) (goes_inr.mpr rfl)
theorem k35_ok  : k35.ok Try.prog := by
  intro x hx
  obtain ⟨st, _⟩ := x
  obtain ⟨h1, h2⟩ := a35 st (s35 st (of_dec hx rfl))
  exact ⟨⟨400, (by decide : 0 + 1 + 0 ≤ 400), h1⟩, h2⟩
theorem encG_b  {a n c s q k : Int} : ∀ j, 0 ≤ S.encG a n c s q k j ∧ S.encG a n c s q k j ≤ 255 := fun j => by
  by_cases h : j < 20
  · have hj' : j = 0 ∨ j = 1 ∨ j = 2 ∨ j = 3 ∨ j = 4 ∨ j = 5 ∨ j = 6 ∨ j = 7 ∨ j = 8 ∨ j = 9 ∨ j = 10 ∨ j = 11 ∨ j = 12 ∨ j = 13 ∨ j = 14 ∨ j = 15 ∨ j = 16 ∨ j = 17 ∨ j = 18 ∨ j = 19 := by omega
    rcases hj' with rfl | rfl | rfl | rfl | rfl | rfl | rfl | rfl | rfl | rfl | rfl | rfl | rfl | rfl | rfl | rfl | rfl | rfl | rfl | rfl
    all_goals
      simp only [S.encG]
      omega
  · obtain ⟨m, rfl⟩ : ∃ m, j = m + 20 := ⟨j - 20, by omega⟩
    exact ⟨Int.le_refl _, by show (0 : Int) ≤ 255; decide⟩
theorem enc_dec  {st : ByteArray} (h : (S.decS st).2.2.2.2.2 = 0) : S.encS (S.decS st).1 (S.decS st).2.1 (S.decS st).2.2.1 (S.decS st).2.2.2.1 (S.decS st).2.2.2.2.1 = (st, 0) := by
  unfold S.decS at h ⊢
  by_cases h20 : st.size = 20
  · rw [if_pos h20] at h ⊢
    by_cases hk : S.getS (S.subS st 18 20) = S.ckS (S.subS st 0 18)
    · rw [if_pos hk] at h ⊢
      have eA := getS_sub (st := st) (lo := 0) (hi := 6) (n := 6) (by omega) rfl
      have eN := getS_sub (st := st) (lo := 6) (hi := 8) (n := 2) (by omega) rfl
      have eC := getS_sub (st := st) (lo := 8) (hi := 11) (n := 3) (by omega) rfl
      have eS := getS_sub (st := st) (lo := 11) (hi := 12) (n := 1) (by omega) rfl
      have eQ := getS_sub (st := st) (lo := 12) (hi := 18) (n := 6) (by omega) rfl
      have eK := getS_sub (st := st) (lo := 18) (hi := 20) (n := 2) (by omega) rfl
      simp only [S.getN, Nat.add_zero, Nat.reduceAdd, Nat.zero_add] at eA eN eC eS eQ eK
      generalize S.getS (S.subS st 0 6) = a at *
      generalize S.getS (S.subS st 6 8) = n at *
      generalize S.getS (S.subS st 8 11) = c at *
      generalize S.getS (S.subS st 11 12) = s at *
      generalize S.getS (S.subS st 12 18) = q at *
      unfold S.decR at h ⊢
      by_cases hE : S.evE a n c s (q - 1099511627776) = 0
      · rw [if_pos hE] at h ⊢
        dsimp only
        unfold S.encS
        rw [if_pos hE, show q - 1099511627776 + 1099511627776 = q by omega]
        have kb := key_b st
        have k0 := kb 0
        have k1 := kb 1
        have k2 := kb 2
        have k3 := kb 3
        have k4 := kb 4
        have k5 := kb 5
        have k6 := kb 6
        have k7 := kb 7
        have k8 := kb 8
        have k9 := kb 9
        have k10 := kb 10
        have k11 := kb 11
        have k12 := kb 12
        have k13 := kb 13
        have k14 := kb 14
        have k15 := kb 15
        have k16 := kb 16
        have k17 := kb 17
        have k18 := kb 18
        have k19 := kb 19
        have e18 : S.subS st 0 18 = S.ofB (fun j => S.encF a n c s q j) 18 := by
          have key : ∀ j, j < 18 → keys st j = S.encF a n c s q j := fun j hj => by
            have hj' : j = 0 ∨ j = 1 ∨ j = 2 ∨ j = 3 ∨ j = 4 ∨ j = 5 ∨ j = 6 ∨ j = 7 ∨ j = 8 ∨ j = 9 ∨ j = 10 ∨ j = 11 ∨ j = 12 ∨ j = 13 ∨ j = 14 ∨ j = 15 ∨ j = 16 ∨ j = 17 := by omega
            rcases hj' with rfl | rfl | rfl | rfl | rfl | rfl | rfl | rfl | rfl | rfl | rfl | rfl | rfl | rfl | rfl | rfl | rfl | rfl
            all_goals
              simp only [S.encF]
              omega
          refine keys_ext (by rw [sub_size (by omega), ofB_size]) fun j hj => ?_
          rw [sub_size (by omega)] at hj
          rw [keys_sub (by omega) (by omega), Nat.zero_add, key j (by omega)]
          have := kb j
          rw [key j (by omega)] at this
          exact (keys_ofB (f := fun j => S.encF a n c s q j) (by omega) this).symm
        have hK : S.encK a n c s q = S.getS (S.subS st 18 20) := by rw [hk, e18]; rfl
        rw [hK]
        generalize S.getS (S.subS st 18 20) = K at *
        congr 1
        have key : ∀ j, j < 20 → keys st j = S.encG a n c s q K j := fun j hj => by
          have hj' : j = 0 ∨ j = 1 ∨ j = 2 ∨ j = 3 ∨ j = 4 ∨ j = 5 ∨ j = 6 ∨ j = 7 ∨ j = 8 ∨ j = 9 ∨ j = 10 ∨ j = 11 ∨ j = 12 ∨ j = 13 ∨ j = 14 ∨ j = 15 ∨ j = 16 ∨ j = 17 ∨ j = 18 ∨ j = 19 := by omega
          rcases hj' with rfl | rfl | rfl | rfl | rfl | rfl | rfl | rfl | rfl | rfl | rfl | rfl | rfl | rfl | rfl | rfl | rfl | rfl | rfl | rfl
          all_goals
            simp only [S.encG]
            omega
        refine (keys_ext (by rw [ofB_size, h20]) fun j hj => ?_).symm
        rw [h20] at hj
        rw [key j hj]
        exact (keys_ofB (f := fun j => S.encG a n c s q K j) hj (encG_b j)).symm
      · rw [if_neg hE] at h
        exact absurd h hE
    · rw [if_neg hk] at h
      cases h
  · rw [if_neg h20] at h
    cases h
noncomputable def xG (test : Bool → Prop → Prop → Prop) : Ext := consX test [k12, k14, k15, k32, k34, k35]
theorem xG_ok  : ExtOk Try.prog (xG cond) := consX_ok ⟨k12_ok, k14_ok, k15_ok, k32_ok, k34_ok, k35_ok, trivial⟩
noncomputable abbrev c9_e_0 (st : ByteArray) := (S.decS st).1 == (S.decS st).1 && ((S.decS st).2.1 == (S.decS st).2.1 && ((S.decS st).2.2.1 == (S.decS st).2.2.1 && ((S.decS st).2.2.2.1 == (S.decS st).2.2.2.1 && ((S.decS st).2.2.2.2.1 == (S.decS st).2.2.2.2.1 && true))))
abbrev St9  := Empty
abbrev Rt9  := Bool
noncomputable def V9 (st : ByteArray) (r : Rt9) : PV := PV.bool r
noncomputable def N9 (st : ByteArray) (r : Rt9) : List Blk := []
noncomputable def I9 (st : ByteArray) : St9 → Hd := fun s => s.elim
noncomputable def q9 (st : ByteArray) : St9 → Option (St9 ⊕ Rt9) := fun s => s.elim
noncomputable def p9 (st : ByteArray) : Option (St9 ⊕ Rt9) := bif (decide ((↑(ByteArray.size st) : Int) > 40)) then (some (.inr (true))) else (bif (!(c9_e_0 st)) then (bif (c9_e_0 st) then (bif ((S.decS st).2.2.2.2.2 == (S.decS st).2.2.2.2.2) then (some (.inr (true))) else (some (.inr (false)))) else (some (.inr (false)))) else (bif ((S.decS st).2.2.2.2.2 != (S.decS st).2.2.2.2.2) then (bif (c9_e_0 st) then (bif ((S.decS st).2.2.2.2.2 == (S.decS st).2.2.2.2.2) then (some (.inr (true))) else (some (.inr (false)))) else (some (.inr (false)))) else (bif ((S.decS st).2.2.2.2.2 != 0) then (bif (c9_e_0 st) then (bif ((S.decS st).2.2.2.2.2 == (S.decS st).2.2.2.2.2) then (some (.inr (true))) else (some (.inr (false)))) else (some (.inr (false)))) else (bif (Prod.snd (S.encS ((S.decS st).1) ((S.decS st).2.1) ((S.decS st).2.2.1) ((S.decS st).2.2.2.1) ((S.decS st).2.2.2.2.1)) == 0) then (bif (S.eqS (Prod.fst (S.encS ((S.decS st).1) ((S.decS st).2.1) ((S.decS st).2.2.1) ((S.decS st).2.2.2.1) ((S.decS st).2.2.2.2.1))) st) then (some (.inr (true))) else (some (.inr (false)))) else (some (.inr (false)))))))
noncomputable def Te9 (test : TT) (Kst : KS) (Kret : KR) (st : ByteArray) : Prop := test (true) (test (true) (test (decide ((↑(ByteArray.size st) : Int) > 40)) (test (true) (test (true) (Kret (PV.tf true) ([[]]) (2)) (Kret (PV.tf false) ([[]]) (2))) (False)) (test (true) (test (true) (test (!(c9_e_0 st)) (test (c9_e_0 st) (test ((S.decS st).2.2.2.2.2 == (S.decS st).2.2.2.2.2) (Kret (PV.tf true) ([[]]) (5)) (Kret (PV.tf false) ([[]]) (5))) (Kret (PV.tf false) ([[]]) (5))) (test ((S.decS st).2.2.2.2.2 != (S.decS st).2.2.2.2.2) (test (c9_e_0 st) (test ((S.decS st).2.2.2.2.2 == (S.decS st).2.2.2.2.2) (Kret (PV.tf true) ([[]]) (5)) (Kret (PV.tf false) ([[]]) (5))) (Kret (PV.tf false) ([[]]) (5))) (test ((S.decS st).2.2.2.2.2 != 0) (test (c9_e_0 st) (test ((S.decS st).2.2.2.2.2 == (S.decS st).2.2.2.2.2) (Kret (PV.tf true) ([[]]) (5)) (Kret (PV.tf false) ([[]]) (5))) (Kret (PV.tf false) ([[]]) (5))) (test (true) (test (Prod.snd (S.encS ((S.decS st).1) ((S.decS st).2.1) ((S.decS st).2.2.1) ((S.decS st).2.2.2.1) ((S.decS st).2.2.2.2.1)) == 0) (test (S.eqS (Prod.fst (S.encS ((S.decS st).1) ((S.decS st).2.1) ((S.decS st).2.2.1) ((S.decS st).2.2.2.1) ((S.decS st).2.2.2.2.1))) st) (Kret (PV.tf true) ([[]]) (6)) (Kret (PV.tf false) ([[]]) (6))) (Kret (PV.tf false) ([[]]) (6))) (False))))) (False)) (False))) (test (true) (test (true) (Kret (PV.tf true) ([[]]) (2)) (Kret (PV.tf false) ([[]]) (2))) (False))) (False)
theorem te9 (test : TT) (Kst : KS) (Kret : KR) (st : ByteArray) : run test Try.env true (xG test) true 400 ⟨9, [.cd (mkFn Try.f9).body], argT 0 [.str st], [[], []], 0⟩ (proj 0 [] Kst Kret) =
  Te9 test Kst Kret st := by kernel_rfl
attribute [local irreducible] Int.subNatNat S.getS S.ckS S.evE S.encS S.decS in
theorem be9 (st : ByteArray) (Kst : KS) (Kret : KR) (x : St9 ⊕ Rt9) (hS : HS 0 400 ((I9 st)) Kst x) (hR : HR 0 400 ((V9 st)) (fun r => [newL (0 + 1) ((N9 st) r) ++ []]) Kret x) (h : p9 st = some x) : Te9 cond Kst Kret st := by
  unfold Te9
  unfold p9 at h
  exact cond_yes rfl (cond_yes rfl (bif_split h (fun c0 h => cond_yes rfl (cond_yes rfl (ret_at hR _ h (fun n => n) rfl rfl rfl (rn_bool_tf rfl) rfl entl_nil))) (fun c0 h => cond_yes rfl (cond_yes rfl (bif_split h (fun c1 h => bif_split h (fun c2 h => bif_split h (fun c3 h => ret_at hR _ h (fun n => n) rfl rfl rfl (rn_bool_tf rfl) rfl entl_nil) (fun c3 h => ret_at hR _ h (fun n => n) rfl rfl rfl (rn_bool_tf rfl) rfl entl_nil)) (fun c2 h => ret_at hR _ h (fun n => n) rfl rfl rfl (rn_bool_tf rfl) rfl entl_nil)) (fun c1 h => bif_split h (fun c2 h => bif_split h (fun c3 h => bif_split h (fun c4 h => ret_at hR _ h (fun n => n) rfl rfl rfl (rn_bool_tf rfl) rfl entl_nil) (fun c4 h => ret_at hR _ h (fun n => n) rfl rfl rfl (rn_bool_tf rfl) rfl entl_nil)) (fun c3 h => ret_at hR _ h (fun n => n) rfl rfl rfl (rn_bool_tf rfl) rfl entl_nil)) (fun c2 h => bif_split h (fun c3 h => bif_split h (fun c4 h => bif_split h (fun c5 h => ret_at hR _ h (fun n => n) rfl rfl rfl (rn_bool_tf rfl) rfl entl_nil) (fun c5 h => ret_at hR _ h (fun n => n) rfl rfl rfl (rn_bool_tf rfl) rfl entl_nil)) (fun c4 h => ret_at hR _ h (fun n => n) rfl rfl rfl (rn_bool_tf rfl) rfl entl_nil)) (fun c3 h => cond_yes rfl (bif_split h (fun c4 h => bif_split h (fun c5 h => ret_at hR _ h (fun n => n) rfl rfl rfl (rn_bool_tf rfl) rfl entl_nil) (fun c5 h => ret_at hR _ h (fun n => n) rfl rfl rfl (rn_bool_tf rfl) rfl entl_nil)) (fun c4 h => ret_at hR _ h (fun n => n) rfl rfl rfl (rn_bool_tf rfl) rfl entl_nil))))))))))
theorem a9 (st : ByteArray) {r : Rt9} (h : Goes ((q9 st)) ((p9 st)) r) : CallR Try.prog 9 [.str st] [[]] 0 ((V9 st) r) ((fun r => [newL (0 + 1) ((N9 st) r) ++ []]) r) 400 ∧ ∃ F, Try.prog.funcs[9]? = some F ∧ F.body.isSome = true ∧ (F.name == "runtime.NumGoroutine") = false := by
  refine dec_calls (f := 9) (lo := 0) (hi := 400) Try.envOk Try.mixed xG_ok ((I9 st)) ((V9 st)) (fun r => [newL (0 + 1) ((N9 st) r) ++ []]) (fn := mkFn Try.f9) (ts := []) (n := 400) rfl (by decide) (by simp) (names_of rfl) ?_ ?_ ?_ h
  · intro s; exact s.elim
  · intro Kst Kret x hS hR h
    exact Holds.eq (te9 cond Kst Kret st) (be9 st Kst Kret x hS hR h)
  · intro Kst Kret x hS hR s h; exact s.elim
noncomputable abbrev w9 {α : Type} (g : ByteArray → α) (x : ByteArray × Unit) : α := g x.1
noncomputable def k9  : Con := ⟨9, [.one (.plain (.str))], w9 (fun st => decide (True)), w9 (fun st => (V9 st) (true)), w9 (fun st => (N9 st) (true)), fun _ _ => .dead⟩
theorem s9 (st : ByteArray) (hp : True) : Goes ((q9 st)) ((p9 st)) (true) := by
  by_cases h4 : (st.size : Int) > 40
  · unfold p9
    exact goes_ok (decide_eq_true h4) (goes_inr.mpr rfl)
  have hf := @enc_dec st
  have hE : S.eqS st st = true := eqS_iff.mpr rfl
  unfold p9
  simp only [-eq_self, c9_e_0]
  have hx : ((S.decS st).1 == (S.decS st).1 && ((S.decS st).2.1 == (S.decS st).2.1 && ((S.decS st).2.2.1 == (S.decS st).2.2.1 && ((S.decS st).2.2.2.1 == (S.decS st).2.2.2.1 && ((S.decS st).2.2.2.2.1 == (S.decS st).2.2.2.2.1 && true))))) = true := by simp
  refine goes_no (decide_eq_false h4) ?_
  by_cases hc : (S.decS st).2.2.2.2.2 = 0
  · have hf := hf hc
    simp only [hf, hE]
    generalize S.decS st = A at *
    refine goes_no (by rw [hx]; rfl) ?_
    refine goes_no (bne_self_eq_false _) ?_
    refine goes_no (by rw [hc]; rfl) ?_
    refine goes_ok rfl ?_
    refine goes_ok rfl ?_
    exact goes_inr.mpr rfl
  · generalize S.decS st = A at *
    refine goes_no (by rw [hx]; rfl) ?_
    refine goes_no (bne_self_eq_false _) ?_
    refine goes_ok (by simpa using hc) ?_
    refine goes_ok hx ?_
    refine goes_ok (beq_self_eq_true _) ?_
    exact goes_inr.mpr rfl
theorem k9_ok  : k9.ok Try.prog := by
  intro x hx
  obtain ⟨st, _⟩ := x
  obtain ⟨h1, h2⟩ := a9 st (s9 st (of_dec hx rfl))
  exact ⟨⟨400, (by decide : 0 + 1 + 0 ≤ 400), h1⟩, h2⟩
theorem pre9  {x : SsI k9.ss} (hx : ssFits k9.ss x) : k9.pre (ssj k9.ss x) = true := decide_eq_true trivial
end Go.Ev
