/-
  The parts that the statement needs, 1 of 1.
-/
import Derived.Test.YtjgllldbpmmodaaEnv
import Derived.Test.YtjgllldbpmmodaaEvY
import Derived.Test.YtjgllldbpmmodaaKit
namespace Go.Ev
open Go.Proofs
set_option linter.unusedVariables false
set_option linter.unusedSimpArgs false
set_option maxRecDepth 100000
theorem SH : type_of% (And.intro @lim64 (And.intro @imp_false (And.intro @decide_eq_true_eq (And.intro @decide_eq_false_iff_not (And.intro @Int.toNat_natCast (And.intro @toNat_pred (And.intro @toNat_succ (And.intro @Option.getD_some.{0} (And.intro @Option.getD_none.{0} (And.intro @Bool.not_eq_true' (And.intro @Bool.not_eq_false' (And.intro @Bool.and_eq_true (And.intro @Bool.or_eq_true (And.intro @Bool.and_eq_false_iff (And.intro @Bool.or_eq_false_iff (And.intro @bne_iff_ne.{0} (And.intro @beq_iff_eq.{0} (And.intro @bne_eq_false_iff_eq.{0} (And.intro @beq_eq_false_iff_ne.{0} (And.intro @ne_eq.{1} (And.intro @not_and (And.intro @Int.not_le (And.intro @Int.not_lt (And.intro @ge_iff_le.{0} (And.intro @gt_iff_lt.{0} (And.intro @Nat.not_lt (And.intro @Nat.not_le (And.intro @Bool.not_eq_true (And.intro @Bool.not_eq_false (And.intro @Bool.true_eq_false (And.intro @Bool.false_eq_true (And.intro @not_false_eq_true @not_true_eq_false)))))))))))))))))))))))))))))))) :=
  (And.intro @lim64 (And.intro @imp_false (And.intro @decide_eq_true_eq (And.intro @decide_eq_false_iff_not (And.intro @Int.toNat_natCast (And.intro @toNat_pred (And.intro @toNat_succ (And.intro @Option.getD_some.{0} (And.intro @Option.getD_none.{0} (And.intro @Bool.not_eq_true' (And.intro @Bool.not_eq_false' (And.intro @Bool.and_eq_true (And.intro @Bool.or_eq_true (And.intro @Bool.and_eq_false_iff (And.intro @Bool.or_eq_false_iff (And.intro @bne_iff_ne.{0} (And.intro @beq_iff_eq.{0} (And.intro @bne_eq_false_iff_eq.{0} (And.intro @beq_eq_false_iff_ne.{0} (And.intro @ne_eq.{1} (And.intro @not_and (And.intro @Int.not_le (And.intro @Int.not_lt (And.intro @ge_iff_le.{0} (And.intro @gt_iff_lt.{0} (And.intro @Nat.not_lt (And.intro @Nat.not_le (And.intro @Bool.not_eq_true (And.intro @Bool.not_eq_false (And.intro @Bool.true_eq_false (And.intro @Bool.false_eq_true (And.intro @not_false_eq_true @not_true_eq_false))))))))))))))))))))))))))))))))
abbrev FS (t : Nat → Int) (a : Nat) : Nat → Int := fun j => t (j + a)
abbrev CB (m : Nat) (t : Nat → Int) : Blk := .cols m [.int .i64 t]
abbrev CI (L : List Int) : Blk := .cols L.length [.int .i64 fun j => S.at' L j]
abbrev HB (P : Program) (f : Nat) : Prop := ∃ F, P.funcs[f]? = some F ∧ F.body.isSome = true ∧ (F.name == "runtime.NumGoroutine") = false
abbrev TT := Bool → Prop → Prop → Prop
abbrev NI := Nat → Int
namespace S
def any (p : Nat → Bool) (n : Nat) : Bool := (List.range n).any p
end S
namespace S
def sumN (t : Nat → Int) : Nat → Int
  | 0 => 0
  | n + 1 => sumN t n + t n
end S
namespace S
def evB (a n c s p : Int) : Bool := decide ((0 ≤ a ∧ a ≤ 1099511627776) ∧ (1 ≤ n ∧ n ≤ 999) ∧ (0 ≤ c ∧ c ≤ 1048576) ∧ (0 ≤ s ∧ s ≤ 99) ∧ -1099511627776 ≤ p ∧ p ≤ 1099511627776)
def evE (a n c s p : Int) : Int := if evB a n c s p = true then 0 else 6
def cmpN (a b : Int) : Int := if a < b then -1 else if a > b then 1 else 0
def or0 (a b : Int) : Int := if a = 0 then b else a
def ecmp (a n c s p a' n' c' s' p' : Int) : Int := or0 (cmpN a a') (or0 (cmpN s s') (or0 (cmpN n n') (or0 (cmpN c c') (cmpN p p'))))
end S
abbrev St40  := Empty
abbrev Rt40  := Int
noncomputable def V40 (u v : Int) (r : Rt40) : PV := PV.int .i64 r
noncomputable def N40 (u v : Int) (r : Rt40) : List Blk := []
noncomputable def I40 (u v : Int) : St40 → Hd := fun s => s.elim
noncomputable def q40 (u v : Int) : St40 → Option (St40 ⊕ Rt40) := fun s => s.elim
noncomputable def p40 (u v : Int) : Option (St40 ⊕ Rt40) := bif (u != u) then (bif (v != v) then (some (.inr ((0 : Int)))) else (some (.inr ((-1 : Int))))) else (bif (v != v) then (some (.inr ((1 : Int)))) else (bif (decide (u < v)) then (some (.inr ((-1 : Int)))) else (bif (decide (u > v)) then (some (.inr ((1 : Int)))) else (some (.inr ((0 : Int)))))))
def Te40 (test : TT) (Kst : KS) (Kret : KR) (u v : Int) : Prop := test (u != u) (test (v != v) (Kret (PV.int .i64 (0 : Int)) ([[]]) (0)) (Kret (PV.int .i64 (-1 : Int)) ([[]]) (0))) (test (v != v) (Kret (PV.int .i64 (1 : Int)) ([[]]) (0)) (test (decide (u < v)) (Kret (PV.int .i64 (-1 : Int)) ([[]]) (0)) (test (decide (u > v)) (Kret (PV.int .i64 (1 : Int)) ([[]]) (0)) (Kret (PV.int .i64 (0 : Int)) ([[]]) (0)))))
theorem te40 (test : TT) (Kst : KS) (Kret : KR) (u v : Int) : run test Try.env true noX true 400 ⟨47, [.cd (mkFn Try.f47).body], argT 0 [.int .i64 u, .int .i64 v], [[], []], 0⟩ (proj 0 [] Kst Kret) =
  Te40 test Kst Kret u v := by kernel_rfl
attribute [local irreducible] Int.subNatNat in
theorem be40 (u v : Int) (Kst : KS) (Kret : KR) (x : St40 ⊕ Rt40) (hS : HS 0 400 ((I40 u v)) Kst x) (hR : HR 0 400 ((V40 u v)) (fun r => [newL (0 + 1) ((N40 u v) r) ++ []]) Kret x) (h : p40 u v = some x) : Te40 cond Kst Kret u v := by
  unfold Te40
  unfold p40 at h
  refine bif_split h (fun c0 h => bif_split h (fun c1 h => ?_) (fun c1 h => ?_)) (fun c0 h => bif_split h (fun c1 h => ?_) (fun c1 h => bif_split h (fun c2 h => ?_) (fun c2 h => bif_split h (fun c3 h => ?_) (fun c3 h => ?_))))
  all_goals first
    | exact ret_at hR _ h (fun n => n) rfl rfl rfl (rn_int rfl) rfl entl_nil
theorem a40 (u v : Int) {r : Rt40} (h : Goes ((q40 u v)) ((p40 u v)) r) : CallR Try.prog 47 [.int .i64 u, .int .i64 v] [[]] 0 ((V40 u v) r) ((fun r => [newL (0 + 1) ((N40 u v) r) ++ []]) r) 400 ∧ ∃ F, Try.prog.funcs[47]? = some F ∧ F.body.isSome = true ∧ (F.name == "runtime.NumGoroutine") = false := by
  refine dec_calls (sy := true) (f := 47) (lo := 0) (hi := 400) (H := [[]]) (args := [.int .i64 u, .int .i64 v]) Try.envOk Try.mixed noX_ok ((I40 u v)) ((V40 u v)) (fun r => [newL (0 + 1) ((N40 u v) r) ++ []]) (fn := mkFn Try.f47) (ts := []) (n := 400) rfl (by decide) (by simp) (names_of rfl) ?_ ?_ ?_ h
  · intro s; exact s.elim
  · intro Kst Kret x hS hR h
    exact Holds.eq (te40 cond Kst Kret u v) (be40 u v Kst Kret x hS hR h)
  · intro Kst Kret x hS hR s h; exact s.elim
noncomputable abbrev w40 {α : Type} (g : Int → Int → α) (x : Int × Int × Unit) : α := g x.1 x.2.1
noncomputable def k40  : Con := ⟨47, [.one (.plain (.int .i64)), .one (.plain (.int .i64))], w40 (fun u v => decide (True)), w40 (fun u v => (V40 u v) (S.cmpN u v)), w40 (fun u v => (N40 u v) (S.cmpN u v)), fun _ _ => .dead⟩
theorem s40 (u v : Int) (hp : True) : Goes ((q40 u v)) ((p40 u v)) (S.cmpN u v) := by
  unfold S.cmpN
  show Goes _ _ _
  unfold p40
  repeat' (first | with_reducible refine goes_if (fun h => ?_) (fun h => ?_) <;> (try simp only [SH] at h) | exact goes_none.mpr (by omega))
  all_goals first
    | (exfalso; omega)
    | (refine goes_inr.mpr ?_; (repeat' split) <;> first | rfl | (exfalso; omega))
theorem k40_ok  : k40.ok Try.prog := by
  intro x hx
  obtain ⟨u, v, _⟩ := x
  obtain ⟨h1, h2⟩ := a40 u v (s40 u v (of_dec hx rfl))
  exact ⟨⟨400, (by decide : 0 + 1 + 0 ≤ 400), h1⟩, h2⟩
abbrev St14  := Empty
abbrev Rt14  := Int
noncomputable def V14 (ta tn tc ts tp : Int) (r : Rt14) : PV := PV.int .i64 r
noncomputable def N14 (ta tn tc ts tp : Int) (r : Rt14) : List Blk := []
noncomputable def I14 (ta tn tc ts tp : Int) : St14 → Hd := fun s => s.elim
noncomputable def q14 (ta tn tc ts tp : Int) : St14 → Option (St14 ⊕ Rt14) := fun s => s.elim
noncomputable def p14 (ta tn tc ts tp : Int) : Option (St14 ⊕ Rt14) := bif (decide (ta ≥ 0)) then (bif (decide (ta ≤ 1099511627776)) then (bif (decide (tn ≥ 1)) then (bif (decide (tn ≤ 999)) then (bif (decide (tc ≥ 0)) then (bif (decide (tc ≤ 1048576)) then (bif (decide (ts ≥ 0)) then (bif (decide (ts ≤ 99)) then (bif (decide (tp ≥ -1099511627776)) then (bif (decide (tp ≤ 1099511627776)) then (some (.inr ((0 : Int)))) else (some (.inr ((6 : Int))))) else (some (.inr ((6 : Int))))) else (some (.inr ((6 : Int))))) else (some (.inr ((6 : Int))))) else (some (.inr ((6 : Int))))) else (some (.inr ((6 : Int))))) else (some (.inr ((6 : Int))))) else (some (.inr ((6 : Int))))) else (some (.inr ((6 : Int))))) else (some (.inr ((6 : Int))))
def Te14 (test : TT) (Kst : KS) (Kret : KR) (ta tn tc ts tp : Int) : Prop := test (decide (ta ≥ 0)) (test (decide (ta ≤ 1099511627776)) (test (decide (tn ≥ 1)) (test (decide (tn ≤ 999)) (test (decide (tc ≥ 0)) (test (decide (tc ≤ 1048576)) (test (decide (ts ≥ 0)) (test (decide (ts ≤ 99)) (test (decide (tp ≥ -1099511627776)) (test (decide (tp ≤ 1099511627776)) (Kret (PV.int .i64 (0 : Int)) ([[]]) (1)) (Kret (PV.int .i64 (6 : Int)) ([[]]) (1))) (Kret (PV.int .i64 (6 : Int)) ([[]]) (1))) (Kret (PV.int .i64 (6 : Int)) ([[]]) (1))) (Kret (PV.int .i64 (6 : Int)) ([[]]) (1))) (Kret (PV.int .i64 (6 : Int)) ([[]]) (1))) (Kret (PV.int .i64 (6 : Int)) ([[]]) (1))) (Kret (PV.int .i64 (6 : Int)) ([[]]) (1))) (Kret (PV.int .i64 (6 : Int)) ([[]]) (1))) (Kret (PV.int .i64 (6 : Int)) ([[]]) (1))) (Kret (PV.int .i64 (6 : Int)) ([[]]) (1))
theorem te14 (test : TT) (Kst : KS) (Kret : KR) (ta tn tc ts tp : Int) : run test Try.env true noX true 400 ⟨36, [.cd (mkFn Try.f36).body], argT 0 [.agg [.int .i64 ta, .int .i64 tn, .int .i64 tc, .int .i64 ts, .int .i64 tp]], [[], []], 0⟩ (proj 0 [] Kst Kret) =
  Te14 test Kst Kret ta tn tc ts tp := by kernel_rfl
attribute [local irreducible] Int.subNatNat in
theorem be14 (ta tn tc ts tp : Int) (Kst : KS) (Kret : KR) (x : St14 ⊕ Rt14) (hS : HS 0 400 ((I14 ta tn tc ts tp)) Kst x) (hR : HR 0 400 ((V14 ta tn tc ts tp)) (fun r => [newL (0 + 1) ((N14 ta tn tc ts tp) r) ++ []]) Kret x) (h : p14 ta tn tc ts tp = some x) : Te14 cond Kst Kret ta tn tc ts tp := by
  unfold Te14
  unfold p14 at h
  refine bif_split h (fun c0 h => bif_split h (fun c1 h => bif_split h (fun c2 h => bif_split h (fun c3 h => bif_split h (fun c4 h => bif_split h (fun c5 h => bif_split h (fun c6 h => bif_split h (fun c7 h => bif_split h (fun c8 h => bif_split h (fun c9 h => ?_) (fun c9 h => ?_)) (fun c8 h => ?_)) (fun c7 h => ?_)) (fun c6 h => ?_)) (fun c5 h => ?_)) (fun c4 h => ?_)) (fun c3 h => ?_)) (fun c2 h => ?_)) (fun c1 h => ?_)) (fun c0 h => ?_)
  all_goals first
    | exact ret_at hR _ h (fun n => n) rfl rfl rfl (rn_int rfl) rfl entl_nil
theorem a14 (ta tn tc ts tp : Int) {r : Rt14} (h : Goes ((q14 ta tn tc ts tp)) ((p14 ta tn tc ts tp)) r) : CallR Try.prog 36 [.agg [.int .i64 ta, .int .i64 tn, .int .i64 tc, .int .i64 ts, .int .i64 tp]] [[]] 0 ((V14 ta tn tc ts tp) r) ((fun r => [newL (0 + 1) ((N14 ta tn tc ts tp) r) ++ []]) r) 400 ∧ ∃ F, Try.prog.funcs[36]? = some F ∧ F.body.isSome = true ∧ (F.name == "runtime.NumGoroutine") = false := by
  refine dec_calls (sy := true) (f := 36) (lo := 0) (hi := 400) (H := [[]]) (args := [.agg [.int .i64 ta, .int .i64 tn, .int .i64 tc, .int .i64 ts, .int .i64 tp]]) Try.envOk Try.mixed noX_ok ((I14 ta tn tc ts tp)) ((V14 ta tn tc ts tp)) (fun r => [newL (0 + 1) ((N14 ta tn tc ts tp) r) ++ []]) (fn := mkFn Try.f36) (ts := []) (n := 400) rfl (by decide) (by simp) (names_of rfl) ?_ ?_ ?_ h
  · intro s; exact s.elim
  · intro Kst Kret x hS hR h
    exact Holds.eq (te14 cond Kst Kret ta tn tc ts tp) (be14 ta tn tc ts tp Kst Kret x hS hR h)
  · intro Kst Kret x hS hR s h; exact s.elim
noncomputable abbrev w14 {α : Type} (g : Int → Int → Int → Int → Int → α) (x : (Int × Int × Int × Int × Int × Unit) × Unit) : α := g x.1.1 x.1.2.1 x.1.2.2.1 x.1.2.2.2.1 x.1.2.2.2.2.1
noncomputable def k14  : Con := ⟨36, [.agg [.plain (.int .i64), .plain (.int .i64), .plain (.int .i64), .plain (.int .i64), .plain (.int .i64)]], w14 (fun ta tn tc ts tp => decide (True)), w14 (fun ta tn tc ts tp => (V14 ta tn tc ts tp) (S.evE ta tn tc ts tp)), w14 (fun ta tn tc ts tp => (N14 ta tn tc ts tp) (S.evE ta tn tc ts tp)), fun _ _ => .dead⟩
theorem s14 (ta tn tc ts tp : Int) (hp : True) : Goes ((q14 ta tn tc ts tp)) ((p14 ta tn tc ts tp)) (S.evE ta tn tc ts tp) := by
  unfold S.evE S.evB
  simp only [decide_eq_true_eq]
  show Goes _ _ _
  unfold p14
  repeat' (first | with_reducible refine goes_if (fun h => ?_) (fun h => ?_) <;> (try simp only [SH] at h) | exact goes_none.mpr (by omega))
  all_goals first
    | (exfalso; omega)
    | (rw [if_pos (by omega)]; exact goes_inr.mpr rfl)
    | (rw [if_neg (by omega)]; exact goes_inr.mpr rfl)
theorem k14_ok  : k14.ok Try.prog := by
  intro x hx
  obtain ⟨⟨ta, tn, tc, ts, tp, _⟩, _⟩ := x
  obtain ⟨h1, h2⟩ := a14 ta tn tc ts tp (s14 ta tn tc ts tp (of_dec hx rfl))
  exact ⟨⟨400, (by decide : 0 + 1 + 0 ≤ 400), h1⟩, h2⟩
abbrev St15  := Empty
abbrev Rt15  := Int
noncomputable def V15 (ta tn tc ts tp : Int) (r : Rt15) : PV := PV.int .i64 r
noncomputable def N15 (ta tn tc ts tp : Int) (r : Rt15) : List Blk := []
noncomputable def I15 (ta tn tc ts tp : Int) : St15 → Hd := fun s => s.elim
noncomputable def q15 (ta tn tc ts tp : Int) : St15 → Option (St15 ⊕ Rt15) := fun s => s.elim
noncomputable def p15 (ta tn tc ts tp : Int) : Option (St15 ⊕ Rt15) := bif (decide (ta ≥ 0)) then (bif (decide (ta ≤ 1099511627776)) then (bif (decide (tn ≥ 1)) then (bif (decide (tn ≤ 999)) then (bif (decide (tc ≥ 0)) then (bif (decide (tc ≤ 1048576)) then (bif (decide (ts ≥ 0)) then (bif (decide (ts ≤ 99)) then (bif (decide (tp ≥ -1099511627776)) then (bif (decide (tp ≤ 1099511627776)) then (some (.inr ((0 : Int)))) else (some (.inr ((6 : Int))))) else (some (.inr ((6 : Int))))) else (some (.inr ((6 : Int))))) else (some (.inr ((6 : Int))))) else (some (.inr ((6 : Int))))) else (some (.inr ((6 : Int))))) else (some (.inr ((6 : Int))))) else (some (.inr ((6 : Int))))) else (some (.inr ((6 : Int))))) else (some (.inr ((6 : Int))))
def Te15 (test : TT) (Kst : KS) (Kret : KR) (ta tn tc ts tp : Int) : Prop := test (decide (ta ≥ 0)) (test (decide (ta ≤ 1099511627776)) (test (decide (tn ≥ 1)) (test (decide (tn ≤ 999)) (test (decide (tc ≥ 0)) (test (decide (tc ≤ 1048576)) (test (decide (ts ≥ 0)) (test (decide (ts ≤ 99)) (test (decide (tp ≥ -1099511627776)) (test (decide (tp ≤ 1099511627776)) (Kret (PV.int .i64 (0 : Int)) ([[]]) (1)) (Kret (PV.int .i64 (6 : Int)) ([[]]) (1))) (Kret (PV.int .i64 (6 : Int)) ([[]]) (1))) (Kret (PV.int .i64 (6 : Int)) ([[]]) (1))) (Kret (PV.int .i64 (6 : Int)) ([[]]) (1))) (Kret (PV.int .i64 (6 : Int)) ([[]]) (1))) (Kret (PV.int .i64 (6 : Int)) ([[]]) (1))) (Kret (PV.int .i64 (6 : Int)) ([[]]) (1))) (Kret (PV.int .i64 (6 : Int)) ([[]]) (1))) (Kret (PV.int .i64 (6 : Int)) ([[]]) (1))) (Kret (PV.int .i64 (6 : Int)) ([[]]) (1))
theorem te15 (test : TT) (Kst : KS) (Kret : KR) (ta tn tc ts tp : Int) : run test Try.env true noX true 400 ⟨17, [.cd (mkFn Try.f17).body], argT 0 [.agg [.int .i64 ta, .int .i64 tn, .int .i64 tc, .int .i64 ts, .int .i64 tp]], [[], []], 0⟩ (proj 0 [] Kst Kret) =
  Te15 test Kst Kret ta tn tc ts tp := by kernel_rfl
attribute [local irreducible] Int.subNatNat in
theorem be15 (ta tn tc ts tp : Int) (Kst : KS) (Kret : KR) (x : St15 ⊕ Rt15) (hS : HS 0 400 ((I15 ta tn tc ts tp)) Kst x) (hR : HR 0 400 ((V15 ta tn tc ts tp)) (fun r => [newL (0 + 1) ((N15 ta tn tc ts tp) r) ++ []]) Kret x) (h : p15 ta tn tc ts tp = some x) : Te15 cond Kst Kret ta tn tc ts tp := by
  unfold Te15
  unfold p15 at h
  refine bif_split h (fun c0 h => bif_split h (fun c1 h => bif_split h (fun c2 h => bif_split h (fun c3 h => bif_split h (fun c4 h => bif_split h (fun c5 h => bif_split h (fun c6 h => bif_split h (fun c7 h => bif_split h (fun c8 h => bif_split h (fun c9 h => ?_) (fun c9 h => ?_)) (fun c8 h => ?_)) (fun c7 h => ?_)) (fun c6 h => ?_)) (fun c5 h => ?_)) (fun c4 h => ?_)) (fun c3 h => ?_)) (fun c2 h => ?_)) (fun c1 h => ?_)) (fun c0 h => ?_)
  all_goals first
    | exact ret_at hR _ h (fun n => n) rfl rfl rfl (rn_int rfl) rfl entl_nil
theorem a15 (ta tn tc ts tp : Int) {r : Rt15} (h : Goes ((q15 ta tn tc ts tp)) ((p15 ta tn tc ts tp)) r) : CallR Try.prog 17 [.agg [.int .i64 ta, .int .i64 tn, .int .i64 tc, .int .i64 ts, .int .i64 tp]] [[]] 0 ((V15 ta tn tc ts tp) r) ((fun r => [newL (0 + 1) ((N15 ta tn tc ts tp) r) ++ []]) r) 400 ∧ ∃ F, Try.prog.funcs[17]? = some F ∧ F.body.isSome = true ∧ (F.name == "runtime.NumGoroutine") = false := by
  refine dec_calls (sy := true) (f := 17) (lo := 0) (hi := 400) (H := [[]]) (args := [.agg [.int .i64 ta, .int .i64 tn, .int .i64 tc, .int .i64 ts, .int .i64 tp]]) Try.envOk Try.mixed noX_ok ((I15 ta tn tc ts tp)) ((V15 ta tn tc ts tp)) (fun r => [newL (0 + 1) ((N15 ta tn tc ts tp) r) ++ []]) (fn := mkFn Try.f17) (ts := []) (n := 400) rfl (by decide) (by simp) (names_of rfl) ?_ ?_ ?_ h
  · intro s; exact s.elim
  · intro Kst Kret x hS hR h
    exact Holds.eq (te15 cond Kst Kret ta tn tc ts tp) (be15 ta tn tc ts tp Kst Kret x hS hR h)
  · intro Kst Kret x hS hR s h; exact s.elim
noncomputable abbrev w15 {α : Type} (g : Int → Int → Int → Int → Int → α) (x : (Int × Int × Int × Int × Int × Unit) × Unit) : α := g x.1.1 x.1.2.1 x.1.2.2.1 x.1.2.2.2.1 x.1.2.2.2.2.1
noncomputable def k15  : Con := ⟨17, [.agg [.plain (.int .i64), .plain (.int .i64), .plain (.int .i64), .plain (.int .i64), .plain (.int .i64)]], w15 (fun ta tn tc ts tp => decide (True)), w15 (fun ta tn tc ts tp => (V15 ta tn tc ts tp) (S.evE ta tn tc ts tp)), w15 (fun ta tn tc ts tp => (N15 ta tn tc ts tp) (S.evE ta tn tc ts tp)), fun _ _ => .dead⟩
theorem s15 (ta tn tc ts tp : Int) (hp : True) : Goes ((q15 ta tn tc ts tp)) ((p15 ta tn tc ts tp)) (S.evE ta tn tc ts tp) := by
  unfold S.evE S.evB
  simp only [decide_eq_true_eq]
  show Goes _ _ _
  unfold p15
  repeat' (first | with_reducible refine goes_if (fun h => ?_) (fun h => ?_) <;> (try simp only [SH] at h) | exact goes_none.mpr (by omega))
  all_goals first
    | (exfalso; omega)
    | (rw [if_pos (by omega)]; exact goes_inr.mpr rfl)
    | (rw [if_neg (by omega)]; exact goes_inr.mpr rfl)
theorem k15_ok  : k15.ok Try.prog := by
  intro x hx
  obtain ⟨⟨ta, tn, tc, ts, tp, _⟩, _⟩ := x
  obtain ⟨h1, h2⟩ := a15 ta tn tc ts tp (s15 ta tn tc ts tp (of_dec hx rfl))
  exact ⟨⟨400, (by decide : 0 + 1 + 0 ≤ 400), h1⟩, h2⟩
noncomputable def xA0 (test : Bool → Prop → Prop → Prop) : Ext := consX test [k40, k14, k15]
theorem xA0_ok  : ExtOk Try.prog (xA0 cond) := consX_ok ⟨k40_ok, k14_ok, k15_ok, trivial⟩
section
variable {P : Program} {E : Env} (ok : EnvOk P E) (hm : P.follows .mixedOrders = true) {X : Ext} (hX : ExtOk P X)
include ok hm hX
theorem dec_free  {sy : Bool} {lo hi : Nat} {R : Type} {q : Empty → Option (Empty ⊕ R)} {p : Option (Empty ⊕ R)} {r : R} (I : Empty → Hd) (V : R → PV) (H1 : R → Heap) {f : FuncId} {fn : FnI} {args : List PV} {H : Heap} {n : Nat} (hf : nthFn E.fs f = some fn) (hl : lo ≤ hi) (hne : H ≠ []) (hN : Names H lo)
    (entry : ∀ Kst Kret x, HS lo hi I Kst x → HR lo hi V H1 Kret x → p = some x → Holds (run cond E sy X false n ⟨f, [.cd fn.body], argT 0 args, [] :: H, lo⟩ (proj lo [] Kst Kret)))
    (h : Goes q p r) : CallR P f args H lo (V r) (H1 r) hi ∧ ∃ F, P.funcs[f]? = some F ∧ F.body.isSome = true ∧ (F.name == "runtime.NumGoroutine") = false := by
  cases hp : p with
  | none => rw [hp] at h; exact h.elim
  | some x =>
    rw [hp] at h
    cases x with
    | inl s => exact s.elim
    | inr r' =>
      cases h
      exact calls_free ok hm hX hf hl hne hN (entry (fun _ _ _ _ => False) _ (.inr _) (fun s => s.elim) (fun r hr v' H' fr' h => by cases hr; exact h) hp)
end
theorem cmpN_k (a b : Int) : (a < b ∧ S.cmpN a b = -1) ∨ (a = b ∧ S.cmpN a b = 0) ∨ (a > b ∧ S.cmpN a b = 1) := by
  unfold S.cmpN
  rcases Int.lt_trichotomy a b with h | h | h
  · left; exact ⟨h, if_pos h⟩
  · right; left; exact ⟨h, by rw [if_neg (by omega), if_neg (by omega)]⟩
  · right; right; exact ⟨h, by rw [if_neg (by omega), if_pos h]⟩
theorem or0_0  {x : Int} : S.or0 0 x = x := rfl
abbrev St13  := Empty
abbrev Rt13  := Int
noncomputable def V13 (ta tn tc ts tp ua un uc us up : Int) (r : Rt13) : PV := PV.int .i64 r
noncomputable def N13 (ta tn tc ts tp ua un uc us up : Int) (r : Rt13) : List Blk := []
noncomputable def I13 (ta tn tc ts tp ua un uc us up : Int) : St13 → Hd := fun s => s.elim
noncomputable def q13 (ta tn tc ts tp ua un uc us up : Int) : St13 → Option (St13 ⊕ Rt13) := fun s => s.elim
noncomputable def p13 (ta tn tc ts tp ua un uc us up : Int) : Option (St13 ⊕ Rt13) := bif (S.cmpN ta ua != 0) then (some (.inr (S.cmpN ta ua))) else (bif (S.cmpN ts us != 0) then (some (.inr (S.cmpN ts us))) else (bif (S.cmpN tn un != 0) then (some (.inr (S.cmpN tn un))) else (bif (S.cmpN tc uc != 0) then (some (.inr (S.cmpN tc uc))) else (bif (S.cmpN tp up != 0) then (some (.inr (S.cmpN tp up))) else (some (.inr ((0 : Int))))))))
def Te13 (test : TT) (Kst : KS) (Kret : KR) (ta tn tc ts tp ua un uc us up : Int) : Prop := test (true) (test (true) (test (true) (test (true) (test (true) (test (true) (test (true) (test (S.cmpN ta ua != 0) (Kret (PV.int .i64 (S.cmpN ta ua)) ([[]]) (8)) (test (true) (test (true) (test (true) (test (S.cmpN ts us != 0) (Kret (PV.int .i64 (S.cmpN ts us)) ([[]]) (8)) (test (true) (test (true) (test (true) (test (S.cmpN tn un != 0) (Kret (PV.int .i64 (S.cmpN tn un)) ([[]]) (8)) (test (true) (test (true) (test (true) (test (S.cmpN tc uc != 0) (Kret (PV.int .i64 (S.cmpN tc uc)) ([[]]) (8)) (test (true) (test (true) (test (true) (test (S.cmpN tp up != 0) (Kret (PV.int .i64 (S.cmpN tp up)) ([[]]) (8)) (test (true) (test (false) (test (false) (False) (False)) (Kret (PV.int .i64 (0 : Int)) ([[]]) (8))) (False))) (False)) (Kret (PV.int .i64 (0 : Int)) ([[]]) (8))) (False))) (False)) (Kret (PV.int .i64 (0 : Int)) ([[]]) (8))) (False))) (False)) (Kret (PV.int .i64 (0 : Int)) ([[]]) (8))) (False))) (False)) (Kret (PV.int .i64 (0 : Int)) ([[]]) (8))) (False))) (False)) (Kret (PV.int .i64 (0 : Int)) ([[]]) (8))) (False)) (False)) (False)) (False)) (False)
theorem te13 (test : TT) (Kst : KS) (Kret : KR) (ta tn tc ts tp ua un uc us up : Int) : run test Try.env true (xA0 test) true 400 ⟨27, [.cd (mkFn Try.f27).body], argT 0 [.agg [.int .i64 ta, .int .i64 tn, .int .i64 tc, .int .i64 ts, .int .i64 tp], .agg [.int .i64 ua, .int .i64 un, .int .i64 uc, .int .i64 us, .int .i64 up]], [[], []], 0⟩ (proj 0 [] Kst Kret) =
  Te13 test Kst Kret ta tn tc ts tp ua un uc us up := by kernel_rfl
attribute [local irreducible] Int.subNatNat in
theorem be13 (ta tn tc ts tp ua un uc us up : Int) (Kst : KS) (Kret : KR) (x : St13 ⊕ Rt13) (hS : HS 0 400 ((I13 ta tn tc ts tp ua un uc us up)) Kst x) (hR : HR 0 400 ((V13 ta tn tc ts tp ua un uc us up)) (fun r => [newL (0 + 1) ((N13 ta tn tc ts tp ua un uc us up) r) ++ []]) Kret x) (h : p13 ta tn tc ts tp ua un uc us up = some x) : Te13 cond Kst Kret ta tn tc ts tp ua un uc us up := by
  unfold Te13
  unfold p13 at h
  exact cond_yes rfl (cond_yes rfl (cond_yes rfl (cond_yes rfl (cond_yes rfl (cond_yes rfl (cond_yes rfl (bif_split h (fun c0 h => ret_at hR _ h (fun n => n) rfl rfl rfl (rn_int rfl) rfl entl_nil) (fun c0 h => cond_yes rfl (cond_yes rfl (cond_yes rfl (bif_split h (fun c1 h => ret_at hR _ h (fun n => n) rfl rfl rfl (rn_int rfl) rfl entl_nil) (fun c1 h => cond_yes rfl (cond_yes rfl (cond_yes rfl (bif_split h (fun c2 h => ret_at hR _ h (fun n => n) rfl rfl rfl (rn_int rfl) rfl entl_nil) (fun c2 h => cond_yes rfl (cond_yes rfl (cond_yes rfl (bif_split h (fun c3 h => ret_at hR _ h (fun n => n) rfl rfl rfl (rn_int rfl) rfl entl_nil) (fun c3 h => cond_yes rfl (cond_yes rfl (cond_yes rfl (bif_split h (fun c4 h => ret_at hR _ h (fun n => n) rfl rfl rfl (rn_int rfl) rfl entl_nil) (fun c4 h => cond_yes rfl (cond_no rfl (ret_at hR _ h (fun n => n) rfl rfl rfl (rn_int rfl) rfl entl_nil))))))))))))))))))))))))))
theorem a13 (ta tn tc ts tp ua un uc us up : Int) {r : Rt13} (h : Goes ((q13 ta tn tc ts tp ua un uc us up)) ((p13 ta tn tc ts tp ua un uc us up)) r) : CallR Try.prog 27 [.agg [.int .i64 ta, .int .i64 tn, .int .i64 tc, .int .i64 ts, .int .i64 tp], .agg [.int .i64 ua, .int .i64 un, .int .i64 uc, .int .i64 us, .int .i64 up]] [[]] 0 ((V13 ta tn tc ts tp ua un uc us up) r) ((fun r => [newL (0 + 1) ((N13 ta tn tc ts tp ua un uc us up) r) ++ []]) r) 400 ∧ ∃ F, Try.prog.funcs[27]? = some F ∧ F.body.isSome = true ∧ (F.name == "runtime.NumGoroutine") = false := by
  refine dec_calls (sy := true) (f := 27) (lo := 0) (hi := 400) (H := [[]]) (args := [.agg [.int .i64 ta, .int .i64 tn, .int .i64 tc, .int .i64 ts, .int .i64 tp], .agg [.int .i64 ua, .int .i64 un, .int .i64 uc, .int .i64 us, .int .i64 up]]) Try.envOk Try.mixed xA0_ok ((I13 ta tn tc ts tp ua un uc us up)) ((V13 ta tn tc ts tp ua un uc us up)) (fun r => [newL (0 + 1) ((N13 ta tn tc ts tp ua un uc us up) r) ++ []]) (fn := mkFn Try.f27) (ts := []) (n := 400) rfl (by decide) (by simp) (names_of rfl) ?_ ?_ ?_ h
  · intro s; exact s.elim
  · intro Kst Kret x hS hR h
    exact Holds.eq (te13 cond Kst Kret ta tn tc ts tp ua un uc us up) (be13 ta tn tc ts tp ua un uc us up Kst Kret x hS hR h)
  · intro Kst Kret x hS hR s h; exact s.elim
noncomputable abbrev w13 {α : Type} (g : Int → Int → Int → Int → Int → Int → Int → Int → Int → Int → α) (x : (Int × Int × Int × Int × Int × Unit) × (Int × Int × Int × Int × Int × Unit) × Unit) : α := g x.1.1 x.1.2.1 x.1.2.2.1 x.1.2.2.2.1 x.1.2.2.2.2.1 x.2.1.1 x.2.1.2.1 x.2.1.2.2.1 x.2.1.2.2.2.1 x.2.1.2.2.2.2.1
noncomputable def k13  : Con := ⟨27, [.agg [.plain (.int .i64), .plain (.int .i64), .plain (.int .i64), .plain (.int .i64), .plain (.int .i64)], .agg [.plain (.int .i64), .plain (.int .i64), .plain (.int .i64), .plain (.int .i64), .plain (.int .i64)]], w13 (fun ta tn tc ts tp ua un uc us up => decide (True)), w13 (fun ta tn tc ts tp ua un uc us up => (V13 ta tn tc ts tp ua un uc us up) (S.ecmp ta tn tc ts tp ua un uc us up)), w13 (fun ta tn tc ts tp ua un uc us up => (N13 ta tn tc ts tp ua un uc us up) (S.ecmp ta tn tc ts tp ua un uc us up)), fun _ _ => .dead⟩
theorem s13 (ta tn tc ts tp ua un uc us up : Int) (hp : True) : Goes ((q13 ta tn tc ts tp ua un uc us up)) ((p13 ta tn tc ts tp ua un uc us up)) (S.ecmp ta tn tc ts tp ua un uc us up) := by
  unfold S.ecmp
  unfold p13
  rcases cmpN_k ta ua with ⟨h0, e⟩ | ⟨h0, e⟩ | ⟨h0, e⟩
  · rw [e]; exact goes_ok rfl (goes_inr.mpr rfl)
  rotate_left
  · rw [e]; exact goes_ok rfl (goes_inr.mpr rfl)
  rw [e]
  refine goes_no rfl ?_
  rw [or0_0]
  rcases cmpN_k ts us with ⟨h1, e⟩ | ⟨h1, e⟩ | ⟨h1, e⟩
  · rw [e]; exact goes_ok rfl (goes_inr.mpr rfl)
  rotate_left
  · rw [e]; exact goes_ok rfl (goes_inr.mpr rfl)
  rw [e]
  refine goes_no rfl ?_
  rw [or0_0]
  rcases cmpN_k tn un with ⟨h2, e⟩ | ⟨h2, e⟩ | ⟨h2, e⟩
  · rw [e]; exact goes_ok rfl (goes_inr.mpr rfl)
  rotate_left
  · rw [e]; exact goes_ok rfl (goes_inr.mpr rfl)
  rw [e]
  refine goes_no rfl ?_
  rw [or0_0]
  rcases cmpN_k tc uc with ⟨h3, e⟩ | ⟨h3, e⟩ | ⟨h3, e⟩
  · rw [e]; exact goes_ok rfl (goes_inr.mpr rfl)
  rotate_left
  · rw [e]; exact goes_ok rfl (goes_inr.mpr rfl)
  rw [e]
  refine goes_no rfl ?_
  rw [or0_0]
  rcases cmpN_k tp up with ⟨h4, e⟩ | ⟨h4, e⟩ | ⟨h4, e⟩
  · rw [e]; exact goes_ok rfl (goes_inr.mpr rfl)
  rotate_left
  · rw [e]; exact goes_ok rfl (goes_inr.mpr rfl)
  rw [e]
  refine goes_no rfl ?_
  exact goes_inr.mpr rfl
theorem k13_ok  : k13.ok Try.prog := by
  intro x hx
  obtain ⟨⟨ta, tn, tc, ts, tp, _⟩, ⟨ua, un, uc, us, up, _⟩, _⟩ := x
  obtain ⟨h1, h2⟩ := a13 ta tn tc ts tp ua un uc us up (s13 ta tn tc ts tp ua un uc us up (of_dec hx rfl))
  exact ⟨⟨400, (by decide : 0 + 1 + 0 ≤ 400), h1⟩, h2⟩
noncomputable def k12  : Con := ⟨7, [], fun _ => true, fun _ => .bool true, fun _ => [], fun _ _ => .dead⟩
theorem te12 (Kst : KS) (Kret : KR) : run cond Try.env true noX false 4000 ⟨7, [.cd (mkFn Try.f7).body], [], [[], []], 0⟩ (proj 0 [] Kst Kret) = Kret (.tf true) [[]] 75 := by kernel_rfl
theorem k12_ok  : k12.ok Try.prog := awake_ok (fn := mkFn Try.f7) (hi := 76) (n := 4000) Try.envOk Try.mixed noX_ok rfl (by decide) (by decide : Nat.ble 75 76 = true) te12
section
variable {a n c s p a' n' c' s' p' a2 n2 c2 s2 p2 : Int}
end
namespace S
def getN (f : Nat → Int) : Nat → Int
  | 0 => 0
  | n + 1 => getN f n * 256 + f n
def getS (st : ByteArray) : Int := getN (fun j => keys st j) st.size
def ckN (f : Nat → Int) (n : Nat) : Int := sumN (fun j => ((j : Int) + 1) * f j) n
def ckS (st : ByteArray) : Int := ckN (fun j => keys st j) st.size % 65521
end S
theorem key_b (st : ByteArray) (j : Nat) : 0 ≤ keys st j ∧ keys st j ≤ 255 := by
  unfold keys
  have := (st.data.toList.getD j 0).toNat_lt
  omega
theorem ckN_b  {f : Nat → Int} (h : ∀ j, 0 ≤ f j ∧ f j ≤ 255) : ∀ {n : Nat}, n ≤ 1000 → 0 ≤ S.ckN f n ∧ S.ckN f n ≤ 256000 * n
  | 0, _ => ⟨Int.le_refl _, Int.le_refl _⟩
  | n + 1, hn => by
    have ih := ckN_b h (n := n) (by omega)
    have h0 := h n
    have e : S.ckN f (n + 1) = S.ckN f n + ((n : Int) + 1) * f n := rfl
    have m0 : 0 ≤ ((n : Int) + 1) * f n := Int.mul_nonneg (by omega) h0.1
    have m1 : ((n : Int) + 1) * f n ≤ 1000 * f n := Int.mul_le_mul_of_nonneg_right (by omega) h0.1
    rw [e]
    omega
def p256  : Nat → Int
  | 0 => 1
  | n + 1 => 256 * p256 n
theorem getN_b  {f : Nat → Int} (h : ∀ j, 0 ≤ f j ∧ f j ≤ 255) : ∀ {n : Nat}, 0 ≤ S.getN f n ∧ S.getN f n < p256 n
  | 0 => ⟨Int.le_refl _, by show (0 : Int) < 1; decide⟩
  | n + 1 => by
    have ih := getN_b h (n := n)
    have h0 := h n
    simp only [S.getN, p256]
    omega
theorem p256_6  {n : Nat} (h : n ≤ 6) : p256 n ≤ 281474976710656 := by
  have : n = 0 ∨ n = 1 ∨ n = 2 ∨ n = 3 ∨ n = 4 ∨ n = 5 ∨ n = 6 := by omega
  rcases this with rfl | rfl | rfl | rfl | rfl | rfl | rfl <;> decide
theorem or_shl  {x c : Int} (h : 0 ≤ x ∧ x < 281474976710656) (hc : 0 ≤ c ∧ c ≤ 255) : S.orB .i64 (S.shlB .i64 x 8) c = x * 256 + c := by
  obtain ⟨n, rfl⟩ := Int.eq_ofNat_of_zero_le h.1
  obtain ⟨m, rfl⟩ := Int.eq_ofNat_of_zero_le hc.1
  have e0 : S.shlB .i64 (n : Int) 8 = ((n * 256 : Nat) : Int) := by
    show IntKind.wrap .i64 ((n : Int) * 2 ^ (min (8 : Int).toNat 64)) = _
    have : (2 : Int) ^ (min (8 : Int).toNat 64) = 256 := by decide
    rw [this, IntKind.wrap_i64]; omega
  rw [e0]
  show IntKind.wrap .i64 (((BitVec.ofInt 64 ((n * 256 : Nat) : Int) ||| BitVec.ofInt 64 (m : Int)).toNat : Nat) : Int) = _
  have e1 : (BitVec.ofInt 64 ((n * 256 : Nat) : Int)).toNat = n * 256 := by rw [BitVec.toNat_ofInt]; omega
  have e2 : (BitVec.ofInt 64 (m : Int)).toNat = m := by rw [BitVec.toNat_ofInt]; omega
  rw [BitVec.toNat_or, e1, e2]
  have e3 : n * 256 ||| m = n * 256 + m := by
    have := Nat.shiftLeft_add_eq_or_of_lt (a := n) (i := 8) (b := m) (by omega)
    rw [Nat.shiftLeft_eq] at this
    exact this.symm
  rw [e3, IntKind.wrap_i64]; omega
inductive St51 where
  | h0 (x0 : Int) (x1 : Int) (x2 : List Int)
abbrev Rt51  := Int
noncomputable def V51 (st : ByteArray) (r : Rt51) : PV := PV.int .i64 r
noncomputable def N51 (st : ByteArray) (r : Rt51) : List Blk := []
noncomputable def I51 (st : ByteArray) : St51 → Hd
  | .h0 x0 x1 x2 => ⟨hd Try.f38 0, [PV.int .i64 x0, PV.own (0) (1) (List.length x2),
 PV.int .i64 (↑(ByteArray.size st) : Int), PV.int .i64 x1], [[(0, (true, Blk.cols (List.length x2) [Col.int .u8 fun j => S.at' x2 j]))], []], 1⟩
noncomputable def q51 (st : ByteArray) : St51 → Option (St51 ⊕ Rt51) | .h0 x0 x1 x2 => bif (decide (x1 < (↑(ByteArray.size st) : Int))) then (bif (decide ((0 : Int) ≤ x1 ∧ x1 < (↑(List.length x2) : Int))) then (bif (decide (Int.toNat x1 < List.length x2)) then (bif (lim .i64 (x1 + 1)) then (bif (lim .i64 (S.at' x2 (Int.toNat x1))) then (bif (lim .i64 ((x1 + 1) * S.at' x2 (Int.toNat x1))) then (bif (lim .i64 (x0 + (x1 + 1) * S.at' x2 (Int.toNat x1))) then (some (.inl (.h0 (x0 + (x1 + 1) * S.at' x2 (Int.toNat x1)) (x1 + 1) (x2)))) else (none)) else (none)) else (none)) else (none)) else (none)) else (none)) else (some (.inr (Int.tmod x0 (65521 : Int))))
noncomputable def p51 (st : ByteArray) : Option (St51 ⊕ Rt51) := some (.inl (.h0 ((0 : Int)) ((0 : Int)) (S.mkl (ByteArray.size st) fun j => keys st j)))
def Te51 (test : TT) (Kst : KS) (Kret : KR) (st : ByteArray) : Prop := Kst (hd Try.f38 0) ([PV.int .i64 (0 : Int), PV.own (0) (1) (ByteArray.size st), PV.int .i64 (↑(ByteArray.size st) : Int), PV.int .i64 (0 : Int)]) ([[(0, true, Blk.cols (ByteArray.size st) [Col.int .u8 fun j => keys st j])]]) (1)
theorem te51 (test : TT) (Kst : KS) (Kret : KR) (st : ByteArray) : run test Try.env true noX true 400 ⟨38, [.cd (mkFn Try.f38).body], argT 0 [.str st], [[], []], 0⟩ (proj 0 [3, 7, 8, 9] Kst Kret) =
  Te51 test Kst Kret st := by kernel_rfl
def T51_0 (test : TT) (Kst : KS) (Kret : KR) (st : ByteArray) (x0 x1 : Int) (x2 : List Int) : Prop := test (decide (x1 < (↑(ByteArray.size st) : Int))) (test (decide ((0 : Int) ≤ x1 ∧ x1 < (↑(List.length x2) : Int))) (test (decide (Int.toNat x1 < List.length x2)) (test (lim .i64 (x1 + 1)) (test (lim .i64 (S.at' x2 (Int.toNat x1))) (test (lim .i64 ((x1 + 1) * S.at' x2 (Int.toNat x1))) (test (lim .i64 (x0 + (x1 + 1) * S.at' x2 (Int.toNat x1))) (test (lim .i64 (x1 + 1)) (Kst (hd Try.f38 0) ([PV.int .i64 (x0 + (x1 + 1) * S.at' x2 (Int.toNat x1)), PV.own (0) (1) (List.length x2), PV.int .i64 (↑(ByteArray.size st) : Int), PV.int .i64 (x1 + 1)]) ([[(0, true, Blk.cols (List.length x2) [Col.int .u8 fun j => S.at' x2 j])]]) (1)) (False)) (False)) (False)) (False)) (False)) (False)) (False)) (test (false) (False) (Kret (PV.int .i64 (Int.tmod x0 (65521 : Int))) ([[]]) (1)))
theorem t51_0 (test : TT) (Kst : KS) (Kret : KR) (st : ByteArray) (x0 x1 : Int) (x2 : List Int) : run test Try.env true noX true 400 ⟨38, hd Try.f38 0, zipT [3, 7, 8, 9] [PV.int .i64 x0, PV.own (0) (1) (List.length x2),
 PV.int .i64 (↑(ByteArray.size st) : Int), PV.int .i64 x1], [[(0, (true, Blk.cols (List.length x2) [Col.int .u8 fun j => S.at' x2 j]))], []], 1⟩ (proj 0 [3, 7, 8, 9] Kst Kret) =
  T51_0 test Kst Kret st x0 x1 x2 := by kernel_rfl
noncomputable abbrev J51 (st : ByteArray) : Rt51 → Heap := fun r => [newL (0 + 1) ((N51 st) r) ++ []]
attribute [local irreducible] Int.subNatNat in
theorem be51 (st : ByteArray) (Kst : KS) (Kret : KR) (x : St51 ⊕ Rt51) (hS : HS 0 400 ((I51 st)) Kst x) (hR : HR 0 400 ((V51 st)) (J51 st) Kret x) (h : (some (.inl (.h0 ((0 : Int)) ((0 : Int)) (S.mkl (ByteArray.size st) fun j => keys st j))) : Option (St51 ⊕ Rt51)) = some x) : Te51 cond Kst Kret st := by
  unfold Te51
  exact stop_at hS _ h (fun n => bif Nat.beq n 0 then 0 else n) rfl rfl rfl ⟨(rn_int rfl), ⟨(rn_own (use_own rfl) rfl mkl_len), ⟨(rn_int rfl), ⟨(rn_int rfl), trivial⟩⟩⟩⟩ rfl (entl_new (use_own rfl) rfl (Nat.le_of_eq mkl_len) (rcs_int (fun _ hj => col_mkl (fun (t : Int) => t) hj) rcs_nil) entl_nil)
attribute [local irreducible] Int.subNatNat in
theorem b51_0 (st : ByteArray) (Kst : KS) (Kret : KR) (x : St51 ⊕ Rt51) (hS : HS 0 400 ((I51 st)) Kst x) (hR : HR 0 400 ((V51 st)) (J51 st) Kret x) (x0 x1 : Int) (x2 : List Int) (h : q51 st (.h0 x0 x1 x2) = some x) : T51_0 cond Kst Kret st x0 x1 x2 := by
  unfold T51_0
  rw [q51] at h
  exact bif_split h (fun c0 h => bif_split h (fun c1 h => bif_split h (fun c2 h => bif_split h (fun c3 h => bif_split h (fun c4 h => bif_split h (fun c5 h => bif_split h (fun c6 h => cond_yes c3 (stop_at hS _ h (fun n => bif Nat.beq n 0 then 0 else n) rfl rfl rfl ⟨(rn_int rfl), ⟨(rn_own (use_own rfl) rfl rfl), ⟨(rn_int rfl), ⟨(rn_int rfl), trivial⟩⟩⟩⟩ rfl (entl_new (use_own rfl) rfl (Nat.le_of_eq rfl) (rcs_int (fun _ _ => rfl) rcs_nil) entl_nil))) (fun c6 h => no_some h)) (fun c5 h => no_some h)) (fun c4 h => no_some h)) (fun c3 h => no_some h)) (fun c2 h => no_some h)) (fun c1 h => no_some h)) (fun c0 h => cond_no rfl (ret_at hR _ h (fun n => n) rfl rfl rfl (rn_int rfl) rfl entl_nil))
theorem a51 (st : ByteArray) {r : Rt51} (h : Goes ((q51 st)) ((p51 st)) r) : CallR Try.prog 38 [.str st] [[]] 0 ((V51 st) r) ((J51 st) r) 400 ∧ ∃ F, Try.prog.funcs[38]? = some F ∧ F.body.isSome = true ∧ (F.name == "runtime.NumGoroutine") = false := by
  refine dec_calls (sy := true) (f := 38) (lo := 0) (hi := 400) (H := [[]]) (args := [.str st]) Try.envOk Try.mixed noX_ok ((I51 st)) ((V51 st)) (J51 st) (fn := mkFn Try.f38) (ts := [3, 7, 8, 9]) (n := 400) rfl (by decide) (by simp) (names_of rfl) ?_ ?_ ?_ h
  · intro s; cases s <;> exact ⟨hd_ok _ _, by simp [I51], names_of rfl, Nat.le_of_ble_eq_true rfl⟩
  · intro Kst Kret x hS hR h
    exact Holds.eq (te51 cond Kst Kret st) (be51 st Kst Kret x hS hR h)
  · intro Kst Kret x hS hR s h
    cases s with
    | h0 x0 x1 x2 => exact Holds.eq (t51_0 cond Kst Kret st x0 x1 x2) (b51_0 st Kst Kret x hS hR x0 x1 x2 h)
noncomputable abbrev w51 {α : Type} (g : ByteArray → α) (x : ByteArray × Unit) : α := g x.1
noncomputable def k51  : Con := ⟨38, [.one (.plain (.str))], w51 (fun st => decide (st.size ≤ 1000)), w51 (fun st => (V51 st) (S.ckS st)), w51 (fun st => (N51 st) (S.ckS st)), fun _ _ => .dead⟩
theorem s51' (st : ByteArray) (hp : st.size ≤ 1000) : ∀ (k i : Nat), i + k = st.size → Comes (q51 st) (.h0 (S.ckN (fun j => keys st j) i) (i : Int) (S.mkl st.size fun j => keys st j)) (S.ckS st) := by
  intro k
  induction k with
  | zero =>
    intro i hi
    obtain rfl : st.size = i := by omega
    have hb := ckN_b (f := fun j => keys st j) (key_b st) hp
    unfold S.ckS
    rw [← Int.tmod_eq_emod_of_nonneg hb.1]
    generalize S.ckN _ _ = v at *
    apply Comes.of
    show Goes _ _ _
    (first | rw [q51] | unfold q51)
    repeat' (first | with_reducible refine goes_if (fun h => ?_) (fun h => ?_) <;> (try simp only [SH] at h) | exact goes_none.mpr (by omega))
    all_goals first | (exfalso; omega) | exact goes_inr.mpr rfl
  | succ k ih =>
    intro i hi
    have ih := ih (i + 1) (by omega)
    have hb := ckN_b (f := fun j => keys st j) (key_b st) (n := i) (by omega)
    have hb2 := ckN_b (f := fun j => keys st j) (key_b st) (n := i + 1) (by omega)
    have hk := key_b st i
    have e : S.ckN (fun j => keys st j) (i + 1) = S.ckN (fun j => keys st j) i + ((i : Int) + 1) * keys st i := rfl
    rw [e] at ih hb2
    have m0 : 0 ≤ ((i : Int) + 1) * keys st i := Int.mul_nonneg (by omega) hk.1
    generalize S.ckN (fun j => keys st j) i = v at *
    have ea : S.at' (S.mkl st.size fun j => keys st j) i = keys st i := at_mkl (by omega)
    apply Comes.of
    show Goes _ _ _
    rw [q51]
    simp only [Int.toNat_natCast, ea, mkl_len]
    generalize ((i : Int) + 1) * keys st i = w at *
    repeat' (first | with_reducible refine goes_if (fun h => ?_) (fun h => ?_) <;> (try simp only [SH] at h) | exact goes_none.mpr (by omega))
    all_goals first | (exfalso; omega) | exact ih
theorem s51 (st : ByteArray) (hp : st.size ≤ 1000) : Goes ((q51 st)) ((p51 st)) (S.ckS st) := by
  exact s51' st hp st.size 0 (by omega)
theorem k51_ok  : k51.ok Try.prog := by
  intro x hx
  obtain ⟨st, _⟩ := x
  obtain ⟨h1, h2⟩ := a51 st (s51 st (of_dec hx rfl))
  exact ⟨⟨400, (by decide : 0 + 1 + 0 ≤ 400), h1⟩, h2⟩
inductive St54 where
  | h0 (x0 : Int) (x1 : Int) (x2 : List Int)
abbrev Rt54  := Int
noncomputable def V54 (st : ByteArray) (r : Rt54) : PV := PV.int .i64 r
noncomputable def N54 (st : ByteArray) (r : Rt54) : List Blk := []
noncomputable def I54 (st : ByteArray) : St54 → Hd
  | .h0 x0 x1 x2 => ⟨hd Try.f39 0, [PV.int .i64 x0, PV.own (0) (1) (List.length x2),
 PV.int .i64 (↑(ByteArray.size st) : Int), PV.int .i64 x1], [[(0, (true, Blk.cols (List.length x2) [Col.int .u8 fun j => S.at' x2 j]))], []], 1⟩
noncomputable def q54 (st : ByteArray) : St54 → Option (St54 ⊕ Rt54) | .h0 x0 x1 x2 => bif (decide (x1 < (↑(ByteArray.size st) : Int))) then (bif (decide ((0 : Int) ≤ x1 ∧ x1 < (↑(List.length x2) : Int))) then (bif (decide (Int.toNat x1 < List.length x2)) then (bif (lim .i64 (S.at' x2 (Int.toNat x1))) then (bif (lim .i64 (x1 + 1)) then (some (.inl (.h0 (S.orB .i64 (S.shlB .i64 x0 (8 : Int)) (S.at' x2 (Int.toNat x1))) (x1 + 1) (x2)))) else (none)) else (none)) else (none)) else (none)) else (some (.inr (x0)))
noncomputable def p54 (st : ByteArray) : Option (St54 ⊕ Rt54) := some (.inl (.h0 ((0 : Int)) ((0 : Int)) (S.mkl (ByteArray.size st) fun j => keys st j)))
def Te54 (test : TT) (Kst : KS) (Kret : KR) (st : ByteArray) : Prop := Kst (hd Try.f39 0) ([PV.int .i64 (0 : Int), PV.own (0) (1) (ByteArray.size st), PV.int .i64 (↑(ByteArray.size st) : Int), PV.int .i64 (0 : Int)]) ([[(0, true, Blk.cols (ByteArray.size st) [Col.int .u8 fun j => keys st j])]]) (1)
theorem te54 (test : TT) (Kst : KS) (Kret : KR) (st : ByteArray) : run test Try.env true noX true 400 ⟨39, [.cd (mkFn Try.f39).body], argT 0 [.str st], [[], []], 0⟩ (proj 0 [3, 7, 8, 9] Kst Kret) =
  Te54 test Kst Kret st := by kernel_rfl
def T54_0 (test : TT) (Kst : KS) (Kret : KR) (st : ByteArray) (x0 x1 : Int) (x2 : List Int) : Prop := test (decide (x1 < (↑(ByteArray.size st) : Int))) (test (decide ((0 : Int) ≤ x1 ∧ x1 < (↑(List.length x2) : Int))) (test (decide (Int.toNat x1 < List.length x2)) (test (false) (False) (test (lim .i64 (S.at' x2 (Int.toNat x1))) (test (lim .i64 (x1 + 1)) (Kst (hd Try.f39 0) ([PV.int .i64 (S.orB .i64 (S.shlB .i64 x0 (8 : Int)) (S.at' x2 (Int.toNat x1))), PV.own (0) (1) (List.length x2), PV.int .i64 (↑(ByteArray.size st) : Int), PV.int .i64 (x1 + 1)]) ([[(0, true, Blk.cols (List.length x2) [Col.int .u8 fun j => S.at' x2 j])]]) (1)) (False)) (False))) (False)) (False)) (Kret (PV.int .i64 x0) ([[]]) (1))
theorem t54_0 (test : TT) (Kst : KS) (Kret : KR) (st : ByteArray) (x0 x1 : Int) (x2 : List Int) : run test Try.env true noX true 400 ⟨39, hd Try.f39 0, zipT [3, 7, 8, 9] [PV.int .i64 x0, PV.own (0) (1) (List.length x2),
 PV.int .i64 (↑(ByteArray.size st) : Int), PV.int .i64 x1], [[(0, (true, Blk.cols (List.length x2) [Col.int .u8 fun j => S.at' x2 j]))], []], 1⟩ (proj 0 [3, 7, 8, 9] Kst Kret) =
  T54_0 test Kst Kret st x0 x1 x2 := by kernel_rfl
noncomputable abbrev J54 (st : ByteArray) : Rt54 → Heap := fun r => [newL (0 + 1) ((N54 st) r) ++ []]
attribute [local irreducible] Int.subNatNat in
theorem be54 (st : ByteArray) (Kst : KS) (Kret : KR) (x : St54 ⊕ Rt54) (hS : HS 0 400 ((I54 st)) Kst x) (hR : HR 0 400 ((V54 st)) (J54 st) Kret x) (h : (some (.inl (.h0 ((0 : Int)) ((0 : Int)) (S.mkl (ByteArray.size st) fun j => keys st j))) : Option (St54 ⊕ Rt54)) = some x) : Te54 cond Kst Kret st := by
  unfold Te54
  exact stop_at hS _ h (fun n => bif Nat.beq n 0 then 0 else n) rfl rfl rfl ⟨(rn_int rfl), ⟨(rn_own (use_own rfl) rfl mkl_len), ⟨(rn_int rfl), ⟨(rn_int rfl), trivial⟩⟩⟩⟩ rfl (entl_new (use_own rfl) rfl (Nat.le_of_eq mkl_len) (rcs_int (fun _ hj => col_mkl (fun (t : Int) => t) hj) rcs_nil) entl_nil)
attribute [local irreducible] Int.subNatNat in
theorem b54_0 (st : ByteArray) (Kst : KS) (Kret : KR) (x : St54 ⊕ Rt54) (hS : HS 0 400 ((I54 st)) Kst x) (hR : HR 0 400 ((V54 st)) (J54 st) Kret x) (x0 x1 : Int) (x2 : List Int) (h : q54 st (.h0 x0 x1 x2) = some x) : T54_0 cond Kst Kret st x0 x1 x2 := by
  unfold T54_0
  rw [q54] at h
  exact bif_split h (fun c0 h => bif_split h (fun c1 h => bif_split h (fun c2 h => cond_no rfl (bif_split h (fun c3 h => bif_split h (fun c4 h => stop_at hS _ h (fun n => bif Nat.beq n 0 then 0 else n) rfl rfl rfl ⟨(rn_int rfl), ⟨(rn_own (use_own rfl) rfl rfl), ⟨(rn_int rfl), ⟨(rn_int rfl), trivial⟩⟩⟩⟩ rfl (entl_new (use_own rfl) rfl (Nat.le_of_eq rfl) (rcs_int (fun _ _ => rfl) rcs_nil) entl_nil)) (fun c4 h => no_some h)) (fun c3 h => no_some h))) (fun c2 h => no_some h)) (fun c1 h => no_some h)) (fun c0 h => ret_at hR _ h (fun n => n) rfl rfl rfl (rn_int rfl) rfl entl_nil)
theorem a54 (st : ByteArray) {r : Rt54} (h : Goes ((q54 st)) ((p54 st)) r) : CallR Try.prog 39 [.str st] [[]] 0 ((V54 st) r) ((J54 st) r) 400 ∧ ∃ F, Try.prog.funcs[39]? = some F ∧ F.body.isSome = true ∧ (F.name == "runtime.NumGoroutine") = false := by
  refine dec_calls (sy := true) (f := 39) (lo := 0) (hi := 400) (H := [[]]) (args := [.str st]) Try.envOk Try.mixed noX_ok ((I54 st)) ((V54 st)) (J54 st) (fn := mkFn Try.f39) (ts := [3, 7, 8, 9]) (n := 400) rfl (by decide) (by simp) (names_of rfl) ?_ ?_ ?_ h
  · intro s; cases s <;> exact ⟨hd_ok _ _, by simp [I54], names_of rfl, Nat.le_of_ble_eq_true rfl⟩
  · intro Kst Kret x hS hR h
    exact Holds.eq (te54 cond Kst Kret st) (be54 st Kst Kret x hS hR h)
  · intro Kst Kret x hS hR s h
    cases s with
    | h0 x0 x1 x2 => exact Holds.eq (t54_0 cond Kst Kret st x0 x1 x2) (b54_0 st Kst Kret x hS hR x0 x1 x2 h)
noncomputable abbrev w54 {α : Type} (g : ByteArray → α) (x : ByteArray × Unit) : α := g x.1
noncomputable def k54  : Con := ⟨39, [.one (.plain (.str))], w54 (fun st => decide (st.size ≤ 6)), w54 (fun st => (V54 st) (S.getS st)), w54 (fun st => (N54 st) (S.getS st)), fun _ _ => .dead⟩
theorem s54' (st : ByteArray) (hp : st.size ≤ 6) : ∀ (k i : Nat), i + k = st.size → Comes (q54 st) (.h0 (S.getN (fun j => keys st j) i) (i : Int) (S.mkl st.size fun j => keys st j)) (S.getS st) := by
  intro k
  induction k with
  | zero =>
    intro i hi
    obtain rfl : st.size = i := by omega
    unfold S.getS
    generalize S.getN _ _ = v at *
    apply Comes.of
    show Goes _ _ _
    (first | rw [q54] | unfold q54)
    repeat' (first | with_reducible refine goes_if (fun h => ?_) (fun h => ?_) <;> (try simp only [SH] at h) | exact goes_none.mpr (by omega))
    all_goals first | (exfalso; omega) | exact goes_inr.mpr rfl
  | succ k ih =>
    intro i hi
    have ih := ih (i + 1) (by omega)
    have hb := getN_b (f := fun j => keys st j) (key_b st) (n := i)
    have hw := p256_6 (n := i) (by omega)
    have hk := key_b st i
    have e : S.getN (fun j => keys st j) (i + 1) = S.getN (fun j => keys st j) i * 256 + keys st i := rfl
    rw [e] at ih
    have ho := or_shl (x := S.getN (fun j => keys st j) i) (by omega) hk
    have ea : S.at' (S.mkl st.size fun j => keys st j) i = keys st i := at_mkl (by omega)
    apply Comes.of
    show Goes _ _ _
    rw [q54]
    simp only [Int.toNat_natCast, ea, mkl_len, ho]
    clear ho ea
    generalize S.getN (fun j => keys st j) i = v at *
    repeat' (first | with_reducible refine goes_if (fun h => ?_) (fun h => ?_) <;> (try simp only [SH] at h) | exact goes_none.mpr (by omega))
    all_goals first | (exfalso; omega) | exact ih
theorem s54 (st : ByteArray) (hp : st.size ≤ 6) : Goes ((q54 st)) ((p54 st)) (S.getS st) := by
  exact s54' st hp st.size 0 (by omega)
theorem k54_ok  : k54.ok Try.prog := by
  intro x hx
  obtain ⟨st, _⟩ := x
  obtain ⟨h1, h2⟩ := a54 st (s54 st (of_dec hx rfl))
  exact ⟨⟨400, (by decide : 0 + 1 + 0 ≤ 400), h1⟩, h2⟩
noncomputable def xD (test : Bool → Prop → Prop → Prop) : Ext := consX test [k40, k14, k15, k13, k51, k54]
theorem xD_ok  : ExtOk Try.prog (xD cond) := consX_ok ⟨k40_ok, k14_ok, k15_ok, k13_ok, k51_ok, k54_ok, trivial⟩
theorem size_list (a : ByteArray) : a.size = a.data.toList.length := rfl
theorem keys_get  {a : ByteArray} {j : Nat} (h : j < a.data.toList.length) : keys a j = (((a.data.toList[j]'h).toNat : Nat) : Int) := by
  unfold keys
  rw [List.getD_eq_getElem?_getD, List.getElem?_eq_getElem h]
  rfl
theorem keys_ext  {a b : ByteArray} (h : a.size = b.size) (hk : ∀ j, j < a.size → keys a j = keys b j) : a = b := by
  have hl : a.data.toList = b.data.toList := by
    apply List.ext_getElem
    · rw [← size_list, ← size_list, h]
    · intro j h1 h2
      have := hk j (by rw [size_list]; exact h1)
      rw [keys_get h1, keys_get h2] at this
      exact UInt8.toNat_inj.mp (by omega)
  cases a; cases b
  simpa using Array.ext' hl
theorem sub_list (a : ByteArray) (lo hi : Nat) : (a.extract lo hi).data.toList = (a.data.toList.drop lo).take (hi - lo) := by
  simp [ByteArray.data_extract, Array.toList_extract, List.extract_eq_take_drop]
theorem sub_size  {a : ByteArray} {lo hi : Nat} (h : hi ≤ a.size) : (a.extract lo hi).size = hi - lo := by
  rw [size_list, sub_list, List.length_take, List.length_drop, ← size_list]
  omega
theorem keys_sub  {a : ByteArray} {lo hi j : Nat} (h : hi ≤ a.size) (hj : j < hi - lo) : keys (a.extract lo hi) j = keys a (lo + j) := by
  have h1 : j < (a.extract lo hi).data.toList.length := by rw [← size_list, sub_size h]; exact hj
  have h2 : lo + j < a.data.toList.length := by rw [← size_list]; omega
  rw [keys_get h1, keys_get h2]
  congr 2
  simp only [sub_list]
  rw [List.getElem_take, List.getElem_drop]
theorem ofB_size  {f : Nat → Int} {n : Nat} : (S.ofB f n).size = n := by
  rw [size_list]; simp
theorem keys_ofB  {f : Nat → Int} {n j : Nat} (hj : j < n) (h : 0 ≤ f j ∧ f j ≤ 255) : keys (S.ofB f n) j = f j := by
  have h1 : j < (S.ofB f n).data.toList.length := by rw [← size_list, ofB_size]; exact hj
  rw [keys_get h1]
  simp only [List.getElem_map, List.getElem_range]
  rw [UInt8.toNat_ofNat']
  omega
theorem ofB_congr  {f g : Nat → Int} {n : Nat} (h : ∀ j, j < n → f j = g j) : S.ofB f n = S.ofB g n := by
  unfold S.ofB
  congr 2
  exact List.map_congr_left fun j hj => by rw [h j (List.mem_range.mp hj)]
namespace S
def encF (a n c s q : Int) : Nat → Int
  | 0 => a / 1099511627776 % 256
  | 1 => a / 4294967296 % 256
  | 2 => a / 16777216 % 256
  | 3 => a / 65536 % 256
  | 4 => a / 256 % 256
  | 5 => a % 256
  | 6 => n / 256 % 256
  | 7 => n % 256
  | 8 => c / 65536 % 256
  | 9 => c / 256 % 256
  | 10 => c % 256
  | 11 => s % 256
  | 12 => q / 1099511627776 % 256
  | 13 => q / 4294967296 % 256
  | 14 => q / 16777216 % 256
  | 15 => q / 65536 % 256
  | 16 => q / 256 % 256
  | 17 => q % 256
  | _ + 18 => 0
def encG (a n c s q k : Int) : Nat → Int
  | 0 => a / 1099511627776 % 256
  | 1 => a / 4294967296 % 256
  | 2 => a / 16777216 % 256
  | 3 => a / 65536 % 256
  | 4 => a / 256 % 256
  | 5 => a % 256
  | 6 => n / 256 % 256
  | 7 => n % 256
  | 8 => c / 65536 % 256
  | 9 => c / 256 % 256
  | 10 => c % 256
  | 11 => s % 256
  | 12 => q / 1099511627776 % 256
  | 13 => q / 4294967296 % 256
  | 14 => q / 16777216 % 256
  | 15 => q / 65536 % 256
  | 16 => q / 256 % 256
  | 17 => q % 256
  | 18 => k / 256 % 256
  | 19 => k % 256
  | _ + 20 => 0
def encK (a n c s q : Int) : Int := ckS (ofB (fun j => encF a n c s q j) 18)
def encS (a n c s p : Int) : ByteArray × Int := if evE a n c s p = 0 then (ofB (fun j => encG a n c s (p + 1099511627776) (encK a n c s (p + 1099511627776)) j) 20, 0) else (ByteArray.mk #[], evE a n c s p)
end S
theorem wr8  {x : Int} : IntKind.u8.wrap x = x % 256 := by
  show x % 256 = _
  rfl
theorem wsh0  {x : Int} : IntKind.u8.wrap (S.shrB .i64 x 0) = x % 256 := by
  rw [wr8]
  show Int.fdiv x (2 ^ (min (0 : Int).toNat 64)) % 256 = _
  have e : (2 : Int) ^ (min (0 : Int).toNat 64) = 1 := by decide
  rw [e, Int.fdiv_eq_ediv_of_nonneg _ (by decide), Int.ediv_one]
theorem wsh8  {x : Int} : IntKind.u8.wrap (S.shrB .i64 x 8) = x / 256 % 256 := by
  rw [wr8]
  show Int.fdiv x (2 ^ (min (8 : Int).toNat 64)) % 256 = _
  have e : (2 : Int) ^ (min (8 : Int).toNat 64) = 256 := by decide
  rw [e, Int.fdiv_eq_ediv_of_nonneg _ (by decide)]
theorem wsh16  {x : Int} : IntKind.u8.wrap (S.shrB .i64 x 16) = x / 65536 % 256 := by
  rw [wr8]
  show Int.fdiv x (2 ^ (min (16 : Int).toNat 64)) % 256 = _
  have e : (2 : Int) ^ (min (16 : Int).toNat 64) = 65536 := by decide
  rw [e, Int.fdiv_eq_ediv_of_nonneg _ (by decide)]
theorem wsh24  {x : Int} : IntKind.u8.wrap (S.shrB .i64 x 24) = x / 16777216 % 256 := by
  rw [wr8]
  show Int.fdiv x (2 ^ (min (24 : Int).toNat 64)) % 256 = _
  have e : (2 : Int) ^ (min (24 : Int).toNat 64) = 16777216 := by decide
  rw [e, Int.fdiv_eq_ediv_of_nonneg _ (by decide)]
theorem wsh32  {x : Int} : IntKind.u8.wrap (S.shrB .i64 x 32) = x / 4294967296 % 256 := by
  rw [wr8]
  show Int.fdiv x (2 ^ (min (32 : Int).toNat 64)) % 256 = _
  have e : (2 : Int) ^ (min (32 : Int).toNat 64) = 4294967296 := by decide
  rw [e, Int.fdiv_eq_ediv_of_nonneg _ (by decide)]
theorem wsh40  {x : Int} : IntKind.u8.wrap (S.shrB .i64 x 40) = x / 1099511627776 % 256 := by
  rw [wr8]
  show Int.fdiv x (2 ^ (min (40 : Int).toNat 64)) % 256 = _
  have e : (2 : Int) ^ (min (40 : Int).toNat 64) = 1099511627776 := by decide
  rw [e, Int.fdiv_eq_ediv_of_nonneg _ (by decide)]
theorem td256  {x : Int} (h : 0 ≤ x) : Int.tdiv x 256 = x / 256 := Int.tdiv_eq_ediv_of_nonneg h
theorem evB_iff  {a n c s p : Int} : S.evE a n c s p = 0 ↔ (0 ≤ a ∧ a ≤ 1099511627776) ∧ (1 ≤ n ∧ n ≤ 999) ∧ (0 ≤ c ∧ c ≤ 1048576) ∧ (0 ≤ s ∧ s ≤ 99) ∧ -1099511627776 ≤ p ∧ p ≤ 1099511627776 := by
  unfold S.evE
  split
  · rename_i h
    have := of_decide_eq_true h
    exact ⟨fun _ => this, fun _ => rfl⟩
  · rename_i h
    exact ⟨fun h2 => (by cases h2), fun h2 => absurd (decide_eq_true h2) h⟩
theorem ckS_b  {st : ByteArray} : 0 ≤ S.ckS st ∧ S.ckS st < 65521 := by unfold S.ckS; omega
theorem limK1  {st : ByteArray} : lim .i64 (Int.tdiv (S.ckS st) 256) = true := by
  have h := @ckS_b st
  rw [td256 h.1, lim64]
  exact decide_eq_true (by omega)
theorem limK2  {st : ByteArray} : lim .i64 (Int.tdiv (Int.tdiv (S.ckS st) 256) 256) = true := by
  have h := @ckS_b st
  rw [td256 h.1, td256 (by omega), lim64]
  exact decide_eq_true (by omega)
noncomputable abbrev c32_e_0 (ta tn tc ts tp : Int) := S.ckS (S.ofB (fun j => bif Nat.blt j (1) then IntKind.wrap .u8 (S.shrB .i64 ta (40 : Int)) else bif Nat.blt (j - 1) (1) then IntKind.wrap .u8 (S.shrB .i64 ta (32 : Int)) else bif Nat.blt (j - 1 - 1) (1) then IntKind.wrap .u8 (S.shrB .i64 ta (24 : Int)) else bif Nat.blt (j - 1 - 1 - 1) (1) then IntKind.wrap .u8 (S.shrB .i64 ta (16 : Int)) else bif Nat.blt (j - 1 - 1 - 1 - 1) (1) then IntKind.wrap .u8 (S.shrB .i64 ta (8 : Int)) else bif Nat.blt (j - 1 - 1 - 1 - 1 - 1) (1) then IntKind.wrap .u8 (S.shrB .i64 ta (0 : Int)) else bif Nat.blt (j - 1 - 1 - 1 - 1 - 1 - 1) (1) then IntKind.wrap .u8 (S.shrB .i64 tn (8 : Int)) else bif Nat.blt (j - 1 - 1 - 1 - 1 - 1 - 1 - 1) (1) then IntKind.wrap .u8 (S.shrB .i64 tn (0 : Int)) else bif Nat.blt (j - 1 - 1 - 1 - 1 - 1 - 1 - 1 - 1) (1) then IntKind.wrap .u8 (S.shrB .i64 tc (16 : Int)) else bif Nat.blt (j - 1 - 1 - 1 - 1 - 1 - 1 - 1 - 1 - 1) (1) then IntKind.wrap .u8 (S.shrB .i64 tc (8 : Int)) else bif Nat.blt (j - 1 - 1 - 1 - 1 - 1 - 1 - 1 - 1 - 1 - 1) (1) then IntKind.wrap .u8 (S.shrB .i64 tc (0 : Int)) else bif Nat.blt (j - 1 - 1 - 1 - 1 - 1 - 1 - 1 - 1 - 1 - 1 - 1) (1) then IntKind.wrap .u8 (S.shrB .i64 ts (0 : Int)) else bif Nat.blt (j - 1 - 1 - 1 - 1 - 1 - 1 - 1 - 1 - 1 - 1 - 1 - 1) (1) then IntKind.wrap .u8 (S.shrB .i64 (tp + 1099511627776) (40 : Int)) else bif Nat.blt (j - 1 - 1 - nat_lit 1 - nat_lit 1 - 1 - 1 - 1 - 1 - 1 - 1 - 1 - 1 - 1) (1) then IntKind.wrap .u8 (S.shrB .i64 (tp + 1099511627776) (32 : Int)) else bif Nat.blt (j - 1 - 1 - nat_lit 1 - nat_lit 1 - nat_lit 1 - nat_lit 1 - 1 - 1 - 1 - 1 - 1 - 1 - 1 - 1) (1) then IntKind.wrap .u8 (S.shrB .i64 (tp + 1099511627776) (24 : Int)) else bif Nat.blt (j - 1 - nat_lit 1 - nat_lit 1 - nat_lit 1 - nat_lit 1 - nat_lit 1 - nat_lit 1 - nat_lit 1 - 1 - 1 - 1 - 1 - 1 - 1 - 1) (1) then IntKind.wrap .u8 (S.shrB .i64 (tp + 1099511627776) (16 : Int)) else bif Nat.blt (j - 1 - nat_lit 1 - nat_lit 1 - nat_lit 1 - nat_lit 1 - nat_lit 1 - nat_lit 1 - nat_lit 1 - nat_lit 1 - nat_lit 1 - 1 - 1 - 1 - 1 - 1 - 1) (1) then IntKind.wrap .u8 (S.shrB .i64 (tp + 1099511627776) (8 : Int)) else IntKind.wrap .u8 (S.shrB .i64 (tp + 1099511627776) (0 : Int))) (18))
noncomputable abbrev c32_e_1 (ta tn tc ts tp : Int) := S.ckS (S.ofB (fun j => bif Nat.blt j (1) then IntKind.wrap .u8 (S.shrB .i64 ta (40 : Int)) else bif Nat.blt (j - 1) (1) then IntKind.wrap .u8 (S.shrB .i64 ta (32 : Int)) else bif Nat.blt (j - 1 - 1) (1) then IntKind.wrap .u8 (S.shrB .i64 ta (24 : Int)) else bif Nat.blt (j - 1 - 1 - 1) (1) then IntKind.wrap .u8 (S.shrB .i64 ta (16 : Int)) else bif Nat.blt (j - 1 - 1 - 1 - 1) (1) then IntKind.wrap .u8 (S.shrB .i64 ta (8 : Int)) else bif Nat.blt (j - 1 - 1 - 1 - 1 - 1) (1) then IntKind.wrap .u8 (S.shrB .i64 ta (0 : Int)) else bif Nat.blt (j - 1 - 1 - 1 - 1 - 1 - 1) (1) then IntKind.wrap .u8 (S.shrB .i64 tn (8 : Int)) else bif Nat.blt (j - 1 - 1 - 1 - 1 - 1 - 1 - 1) (1) then IntKind.wrap .u8 (S.shrB .i64 tn (0 : Int)) else bif Nat.blt (j - 1 - 1 - 1 - 1 - 1 - 1 - 1 - 1) (1) then IntKind.wrap .u8 (S.shrB .i64 tc (16 : Int)) else bif Nat.blt (j - 1 - 1 - 1 - 1 - 1 - 1 - 1 - 1 - 1) (1) then IntKind.wrap .u8 (S.shrB .i64 tc (8 : Int)) else bif Nat.blt (j - 1 - 1 - 1 - 1 - 1 - 1 - 1 - 1 - 1 - 1) (1) then IntKind.wrap .u8 (S.shrB .i64 tc (0 : Int)) else bif Nat.blt (j - 1 - 1 - 1 - 1 - 1 - 1 - 1 - 1 - 1 - 1 - 1) (1) then IntKind.wrap .u8 (S.shrB .i64 ts (0 : Int)) else bif Nat.blt (j - 1 - 1 - 1 - 1 - 1 - 1 - 1 - 1 - 1 - 1 - 1 - 1) (1) then IntKind.wrap .u8 (S.shrB .i64 (tp + 1099511627776) (40 : Int)) else bif Nat.blt (j - 1 - 1 - 1 - 1 - 1 - 1 - 1 - 1 - 1 - 1 - 1 - 1 - 1) (1) then IntKind.wrap .u8 (S.shrB .i64 (tp + 1099511627776) (32 : Int)) else bif Nat.blt (j - 1 - 1 - nat_lit 1 - 1 - 1 - 1 - 1 - 1 - 1 - 1 - 1 - 1 - 1 - 1) (1) then IntKind.wrap .u8 (S.shrB .i64 (tp + 1099511627776) (24 : Int)) else bif Nat.blt (j - 1 - 1 - nat_lit 1 - nat_lit 1 - nat_lit 1 - 1 - 1 - 1 - 1 - 1 - 1 - 1 - 1 - 1 - 1) (1) then IntKind.wrap .u8 (S.shrB .i64 (tp + 1099511627776) (16 : Int)) else bif Nat.blt (j - 1 - 1 - nat_lit 1 - nat_lit 1 - nat_lit 1 - nat_lit 1 - nat_lit 1 - 1 - 1 - 1 - 1 - 1 - 1 - 1 - 1 - 1) (1) then IntKind.wrap .u8 (S.shrB .i64 (tp + 1099511627776) (8 : Int)) else IntKind.wrap .u8 (S.shrB .i64 (tp + 1099511627776) (0 : Int))) (18))
noncomputable abbrev c32_e_2 (ta tn tc ts tp : Int) := decide (ByteArray.size (S.ofB (fun j => bif Nat.blt j (1) then IntKind.wrap .u8 (S.shrB .i64 ta (40 : Int)) else bif Nat.blt (j - 1) (1) then IntKind.wrap .u8 (S.shrB .i64 ta (32 : Int)) else bif Nat.blt (j - 1 - 1) (1) then IntKind.wrap .u8 (S.shrB .i64 ta (24 : Int)) else bif Nat.blt (j - 1 - 1 - 1) (1) then IntKind.wrap .u8 (S.shrB .i64 ta (16 : Int)) else bif Nat.blt (j - 1 - 1 - 1 - 1) (1) then IntKind.wrap .u8 (S.shrB .i64 ta (8 : Int)) else bif Nat.blt (j - 1 - 1 - 1 - 1 - 1) (1) then IntKind.wrap .u8 (S.shrB .i64 ta (0 : Int)) else bif Nat.blt (j - 1 - 1 - 1 - 1 - 1 - 1) (1) then IntKind.wrap .u8 (S.shrB .i64 tn (8 : Int)) else bif Nat.blt (j - 1 - 1 - 1 - 1 - 1 - 1 - 1) (1) then IntKind.wrap .u8 (S.shrB .i64 tn (0 : Int)) else bif Nat.blt (j - 1 - 1 - 1 - 1 - 1 - 1 - 1 - 1) (1) then IntKind.wrap .u8 (S.shrB .i64 tc (16 : Int)) else bif Nat.blt (j - 1 - 1 - 1 - 1 - 1 - 1 - 1 - 1 - 1) (1) then IntKind.wrap .u8 (S.shrB .i64 tc (8 : Int)) else bif Nat.blt (j - 1 - 1 - 1 - 1 - 1 - 1 - 1 - 1 - 1 - 1) (1) then IntKind.wrap .u8 (S.shrB .i64 tc (0 : Int)) else bif Nat.blt (j - 1 - 1 - 1 - 1 - 1 - 1 - 1 - 1 - 1 - 1 - 1) (1) then IntKind.wrap .u8 (S.shrB .i64 ts (0 : Int)) else bif Nat.blt (j - 1 - 1 - 1 - 1 - 1 - 1 - 1 - 1 - 1 - 1 - 1 - 1) (1) then IntKind.wrap .u8 (S.shrB .i64 (tp + 1099511627776) (40 : Int)) else bif Nat.blt (j - 1 - 1 - 1 - 1 - 1 - 1 - 1 - 1 - 1 - 1 - 1 - 1 - 1) (1) then IntKind.wrap .u8 (S.shrB .i64 (tp + 1099511627776) (32 : Int)) else bif Nat.blt (j - 1 - 1 - 1 - 1 - 1 - 1 - 1 - 1 - 1 - 1 - 1 - 1 - 1 - 1) (1) then IntKind.wrap .u8 (S.shrB .i64 (tp + 1099511627776) (24 : Int)) else bif Nat.blt (j - 1 - 1 - 1 - 1 - 1 - 1 - 1 - 1 - 1 - 1 - 1 - 1 - 1 - 1 - 1) (1) then IntKind.wrap .u8 (S.shrB .i64 (tp + 1099511627776) (16 : Int)) else bif Nat.blt (j - 1 - 1 - 1 - 1 - 1 - 1 - 1 - 1 - 1 - 1 - 1 - 1 - 1 - 1 - 1 - 1) (1) then IntKind.wrap .u8 (S.shrB .i64 (tp + 1099511627776) (8 : Int)) else IntKind.wrap .u8 (S.shrB .i64 (tp + 1099511627776) (0 : Int))) (18)) ≤ 1000)
abbrev St32  := Empty
abbrev Rt32  := ByteArray × Int
noncomputable def V32 (ta tn tc ts tp : Int) (r : Rt32) : PV := PV.tup [PV.str r.1, PV.int .i64 r.2]
noncomputable def N32 (ta tn tc ts tp : Int) (r : Rt32) : List Blk := []
noncomputable def I32 (ta tn tc ts tp : Int) : St32 → Hd := fun s => s.elim
noncomputable def q32 (ta tn tc ts tp : Int) : St32 → Option (St32 ⊕ Rt32) := fun s => s.elim
noncomputable def p32 (ta tn tc ts tp : Int) : Option (St32 ⊕ Rt32) := bif (S.evE ta tn tc ts tp != 0) then (some (.inr (ByteArray.mk #[], S.evE ta tn tc ts tp))) else (bif (lim .i64 (tp + 1099511627776)) then (bif (c32_e_2 ta tn tc ts tp) then (some (.inr (S.ofB (fun j => bif Nat.blt j (1) then IntKind.wrap .u8 (S.shrB .i64 ta (40 : Int)) else bif Nat.blt (j - 1) (1) then IntKind.wrap .u8 (S.shrB .i64 ta (32 : Int)) else bif Nat.blt (j - 1 - 1) (1) then IntKind.wrap .u8 (S.shrB .i64 ta (24 : Int)) else bif Nat.blt (j - 1 - 1 - 1) (1) then IntKind.wrap .u8 (S.shrB .i64 ta (16 : Int)) else bif Nat.blt (j - 1 - 1 - 1 - 1) (1) then IntKind.wrap .u8 (S.shrB .i64 ta (8 : Int)) else bif Nat.blt (j - 1 - 1 - 1 - 1 - 1) (1) then IntKind.wrap .u8 (S.shrB .i64 ta (0 : Int)) else bif Nat.blt (j - 1 - 1 - 1 - 1 - 1 - 1) (1) then IntKind.wrap .u8 (S.shrB .i64 tn (8 : Int)) else bif Nat.blt (j - 1 - 1 - 1 - 1 - 1 - 1 - 1) (1) then IntKind.wrap .u8 (S.shrB .i64 tn (0 : Int)) else bif Nat.blt (j - 1 - 1 - 1 - 1 - 1 - 1 - 1 - 1) (1) then IntKind.wrap .u8 (S.shrB .i64 tc (16 : Int)) else bif Nat.blt (j - 1 - 1 - 1 - 1 - 1 - 1 - 1 - 1 - 1) (1) then IntKind.wrap .u8 (S.shrB .i64 tc (8 : Int)) else bif Nat.blt (j - 1 - 1 - 1 - 1 - 1 - 1 - 1 - 1 - 1 - 1) (1) then IntKind.wrap .u8 (S.shrB .i64 tc (0 : Int)) else bif Nat.blt (j - 1 - 1 - 1 - 1 - 1 - 1 - 1 - 1 - 1 - 1 - 1) (1) then IntKind.wrap .u8 (S.shrB .i64 ts (0 : Int)) else bif Nat.blt (j - 1 - 1 - 1 - 1 - 1 - 1 - 1 - 1 - 1 - 1 - 1 - 1) (1) then IntKind.wrap .u8 (S.shrB .i64 (tp + 1099511627776) (40 : Int)) else bif Nat.blt (j - 1 - 1 - 1 - 1 - 1 - 1 - 1 - 1 - 1 - 1 - 1 - 1 - 1) (1) then IntKind.wrap .u8 (S.shrB .i64 (tp + 1099511627776) (32 : Int)) else bif Nat.blt (j - 1 - 1 - 1 - 1 - 1 - 1 - 1 - 1 - 1 - 1 - 1 - 1 - 1 - 1) (1) then IntKind.wrap .u8 (S.shrB .i64 (tp + 1099511627776) (24 : Int)) else bif Nat.blt (j - 1 - 1 - 1 - 1 - 1 - 1 - 1 - 1 - 1 - 1 - 1 - 1 - 1 - 1 - 1) (1) then IntKind.wrap .u8 (S.shrB .i64 (tp + 1099511627776) (16 : Int)) else bif Nat.blt (j - 1 - 1 - 1 - 1 - 1 - 1 - 1 - 1 - 1 - 1 - 1 - 1 - 1 - 1 - 1 - 1) (1) then IntKind.wrap .u8 (S.shrB .i64 (tp + 1099511627776) (8 : Int)) else bif Nat.blt (j - 1 - 1 - 1 - 1 - 1 - 1 - 1 - 1 - 1 - 1 - 1 - 1 - 1 - 1 - 1 - 1 - 1) (1) then IntKind.wrap .u8 (S.shrB .i64 (tp + 1099511627776) (0 : Int)) else bif Nat.blt (j - 1 - 1 - 1 - 1 - 1 - 1 - 1 - 1 - 1 - 1 - 1 - 1 - 1 - 1 - 1 - 1 - 1 - 1) (1) then IntKind.wrap .u8 (S.shrB .i64 (c32_e_1 ta tn tc ts tp) (8 : Int)) else IntKind.wrap .u8 (S.shrB .i64 (c32_e_1 ta tn tc ts tp) (0 : Int))) (20), (0 : Int)))) else (none)) else (none))
def Te32 (test : TT) (Kst : KS) (Kret : KR) (ta tn tc ts tp : Int) : Prop := test (S.evE ta tn tc ts tp != 0) (Kret (PV.tup [PV.str (ByteArray.mk #[]), PV.int .i64 (S.evE ta tn tc ts tp)]) ([[]]) (2)) (test (lim .i64 (tp + 1099511627776)) (test (c32_e_2 ta tn tc ts tp) (Kret (PV.tup [PV.str (S.ofB (fun j => bif Nat.blt j (1) then IntKind.wrap .u8 (S.shrB .i64 ta (40 : Int)) else bif Nat.blt (j - 1) (1) then IntKind.wrap .u8 (S.shrB .i64 ta (32 : Int)) else bif Nat.blt (j - 1 - 1) (1) then IntKind.wrap .u8 (S.shrB .i64 ta (24 : Int)) else bif Nat.blt (j - 1 - 1 - 1) (1) then IntKind.wrap .u8 (S.shrB .i64 ta (16 : Int)) else bif Nat.blt (j - 1 - 1 - 1 - 1) (1) then IntKind.wrap .u8 (S.shrB .i64 ta (8 : Int)) else bif Nat.blt (j - 1 - 1 - 1 - 1 - 1) (1) then IntKind.wrap .u8 (S.shrB .i64 ta (0 : Int)) else bif Nat.blt (j - 1 - 1 - 1 - 1 - 1 - 1) (1) then IntKind.wrap .u8 (S.shrB .i64 tn (8 : Int)) else bif Nat.blt (j - 1 - 1 - 1 - 1 - 1 - 1 - 1) (1) then IntKind.wrap .u8 (S.shrB .i64 tn (0 : Int)) else bif Nat.blt (j - 1 - 1 - 1 - 1 - 1 - 1 - 1 - 1) (1) then IntKind.wrap .u8 (S.shrB .i64 tc (16 : Int)) else bif Nat.blt (j - 1 - 1 - 1 - 1 - 1 - 1 - 1 - 1 - 1) (1) then IntKind.wrap .u8 (S.shrB .i64 tc (8 : Int)) else bif Nat.blt (j - 1 - 1 - 1 - 1 - 1 - 1 - 1 - 1 - 1 - 1) (1) then IntKind.wrap .u8 (S.shrB .i64 tc (0 : Int)) else bif Nat.blt (j - 1 - 1 - 1 - 1 - 1 - 1 - 1 - 1 - 1 - 1 - 1) (1) then IntKind.wrap .u8 (S.shrB .i64 ts (0 : Int)) else bif Nat.blt (j - 1 - 1 - 1 - 1 - 1 - 1 - 1 - 1 - 1 - 1 - 1 - 1) (1) then IntKind.wrap .u8 (S.shrB .i64 (tp + 1099511627776) (40 : Int)) else bif Nat.blt (j - 1 - 1 - 1 - 1 - 1 - 1 - 1 - 1 - 1 - 1 - 1 - 1 - 1) (1) then IntKind.wrap .u8 (S.shrB .i64 (tp + 1099511627776) (32 : Int)) else bif Nat.blt (j - 1 - 1 - 1 - 1 - 1 - 1 - 1 - 1 - 1 - 1 - 1 - 1 - 1 - 1) (1) then IntKind.wrap .u8 (S.shrB .i64 (tp + 1099511627776) (24 : Int)) else bif Nat.blt (j - 1 - 1 - 1 - 1 - 1 - 1 - 1 - 1 - 1 - 1 - 1 - 1 - 1 - 1 - 1) (1) then IntKind.wrap .u8 (S.shrB .i64 (tp + 1099511627776) (16 : Int)) else bif Nat.blt (j - 1 - 1 - 1 - 1 - 1 - 1 - 1 - 1 - 1 - 1 - 1 - 1 - 1 - 1 - 1 - 1) (1) then IntKind.wrap .u8 (S.shrB .i64 (tp + 1099511627776) (8 : Int)) else bif Nat.blt (j - 1 - 1 - 1 - 1 - 1 - 1 - 1 - 1 - 1 - 1 - 1 - 1 - 1 - 1 - 1 - 1 - 1) (1) then IntKind.wrap .u8 (S.shrB .i64 (tp + 1099511627776) (0 : Int)) else bif Nat.blt (j - 1 - 1 - 1 - 1 - 1 - 1 - 1 - 1 - 1 - 1 - 1 - 1 - 1 - 1 - 1 - 1 - 1 - 1) (1) then IntKind.wrap .u8 (S.shrB .i64 (c32_e_0 ta tn tc ts tp) (8 : Int)) else IntKind.wrap .u8 (S.shrB .i64 (c32_e_0 ta tn tc ts tp) (0 : Int))) (20)), PV.int .i64 (0 : Int)]) ([[]]) (49)) (False)) (False))
theorem te32 (Kst : KS) (Kret : KR) (ta tn tc ts tp : Int) : run cond Try.env true (xD cond) false 4000 ⟨18, [.cd (mkFn Try.f18).body], argT 0 [.agg [.int .i64 ta, .int .i64 tn, .int .i64 tc, .int .i64 ts, .int .i64 tp]], [[], []], 0⟩ (proj 0 [] Kst Kret) =
  Te32 cond Kst Kret ta tn tc ts tp := by kernel_rfl
attribute [local irreducible] Int.subNatNat in
theorem be32 (ta tn tc ts tp : Int) (Kst : KS) (Kret : KR) (x : St32 ⊕ Rt32) (hS : HS 0 400 ((I32 ta tn tc ts tp)) Kst x) (hR : HR 0 400 ((V32 ta tn tc ts tp)) (fun r => [newL (0 + 1) ((N32 ta tn tc ts tp) r) ++ []]) Kret x) (h : p32 ta tn tc ts tp = some x) : Te32 cond Kst Kret ta tn tc ts tp := by
  unfold Te32
  unfold p32 at h
  exact bif_split h (fun c0 h => ret_at hR _ h (fun n => n) rfl rfl rfl (rn_tup ⟨(rn_str rfl), (rn_int rfl), trivial⟩) rfl entl_nil) (fun c0 h => bif_split h (fun c1 h => bif_split h (fun c2 h => ret_at hR _ h (fun n => n) rfl rfl rfl (rn_tup ⟨(rn_str rfl), (rn_int rfl), trivial⟩) rfl entl_nil) (fun c2 h => no_some h)) (fun c1 h => no_some h))
theorem a32 (ta tn tc ts tp : Int) {r : Rt32} (h : Goes ((q32 ta tn tc ts tp)) ((p32 ta tn tc ts tp)) r) : CallR Try.prog 18 [.agg [.int .i64 ta, .int .i64 tn, .int .i64 tc, .int .i64 ts, .int .i64 tp]] [[]] 0 ((V32 ta tn tc ts tp) r) ((fun r => [newL (0 + 1) ((N32 ta tn tc ts tp) r) ++ []]) r) 400 ∧ ∃ F, Try.prog.funcs[18]? = some F ∧ F.body.isSome = true ∧ (F.name == "runtime.NumGoroutine") = false := by
  refine dec_free (sy := true) (f := 18) (lo := 0) (hi := 400) (H := [[]]) (args := [.agg [.int .i64 ta, .int .i64 tn, .int .i64 tc, .int .i64 ts, .int .i64 tp]]) Try.envOk Try.mixed xD_ok ((I32 ta tn tc ts tp)) ((V32 ta tn tc ts tp)) (fun r => [newL (0 + 1) ((N32 ta tn tc ts tp) r) ++ []]) (fn := mkFn Try.f18) (n := 4000) rfl (by decide) (by simp) (names_of rfl) ?_ h
  · intro Kst Kret x hS hR h
    exact Holds.eq (te32 Kst Kret ta tn tc ts tp) (be32 ta tn tc ts tp Kst Kret x hS hR h)
noncomputable abbrev w32 {α : Type} (g : Int → Int → Int → Int → Int → α) (x : (Int × Int × Int × Int × Int × Unit) × Unit) : α := g x.1.1 x.1.2.1 x.1.2.2.1 x.1.2.2.2.1 x.1.2.2.2.2.1
noncomputable def k32  : Con := ⟨18, [.agg [.plain (.int .i64), .plain (.int .i64), .plain (.int .i64), .plain (.int .i64), .plain (.int .i64)]], w32 (fun ta tn tc ts tp => decide (True)), w32 (fun ta tn tc ts tp => (V32 ta tn tc ts tp) ((S.encS ta tn tc ts tp).1, (S.encS ta tn tc ts tp).2)), w32 (fun ta tn tc ts tp => (N32 ta tn tc ts tp) ((S.encS ta tn tc ts tp).1, (S.encS ta tn tc ts tp).2)), fun _ _ => .dead⟩
theorem s32 (ta tn tc ts tp : Int) (hp : True) : Goes ((q32 ta tn tc ts tp)) ((p32 ta tn tc ts tp)) (((S.encS ta tn tc ts tp).1, (S.encS ta tn tc ts tp).2)) := by
  show Goes _ _ (S.encS ta tn tc ts tp)
  unfold S.encS
  by_cases h0 : S.evE ta tn tc ts tp = 0
  · rw [if_pos h0]
    obtain ⟨⟨a1, a2⟩, ⟨n1, n2⟩, ⟨c1, c2⟩, ⟨s1, s2⟩, ⟨p1, p2⟩⟩ := evB_iff.mp h0
    have h0' : (S.evE ta tn tc ts tp != 0) = false := by rw [h0]; rfl
    have e18 : ∀ F : Nat → Int, F 0 = S.encF ta tn tc ts (tp + 1099511627776) 0 → F 1 = S.encF ta tn tc ts (tp + 1099511627776) 1 → F 2 = S.encF ta tn tc ts (tp + 1099511627776) 2 → F 3 = S.encF ta tn tc ts (tp + 1099511627776) 3 → F 4 = S.encF ta tn tc ts (tp + 1099511627776) 4 → F 5 = S.encF ta tn tc ts (tp + 1099511627776) 5 → F 6 = S.encF ta tn tc ts (tp + 1099511627776) 6 → F 7 = S.encF ta tn tc ts (tp + 1099511627776) 7 → F 8 = S.encF ta tn tc ts (tp + 1099511627776) 8 → F 9 = S.encF ta tn tc ts (tp + 1099511627776) 9 → F 10 = S.encF ta tn tc ts (tp + 1099511627776) 10 → F 11 = S.encF ta tn tc ts (tp + 1099511627776) 11 → F 12 = S.encF ta tn tc ts (tp + 1099511627776) 12 → F 13 = S.encF ta tn tc ts (tp + 1099511627776) 13 → F 14 = S.encF ta tn tc ts (tp + 1099511627776) 14 → F 15 = S.encF ta tn tc ts (tp + 1099511627776) 15 → F 16 = S.encF ta tn tc ts (tp + 1099511627776) 16 → F 17 = S.encF ta tn tc ts (tp + 1099511627776) 17 → S.ofB F 18 = S.ofB (fun j => S.encF ta tn tc ts (tp + 1099511627776) j) 18 := fun F h0 h1 h2 h3 h4 h5 h6 h7 h8 h9 h10 h11 h12 h13 h14 h15 h16 h17 => ofB_congr fun j hj => by
      have hj' : j = 0 ∨ j = 1 ∨ j = 2 ∨ j = 3 ∨ j = 4 ∨ j = 5 ∨ j = 6 ∨ j = 7 ∨ j = 8 ∨ j = 9 ∨ j = 10 ∨ j = 11 ∨ j = 12 ∨ j = 13 ∨ j = 14 ∨ j = 15 ∨ j = 16 ∨ j = 17 := by omega
      rcases hj' with rfl | rfl | rfl | rfl | rfl | rfl | rfl | rfl | rfl | rfl | rfl | rfl | rfl | rfl | rfl | rfl | rfl | rfl
      · exact h0
      · exact h1
      · exact h2
      · exact h3
      · exact h4
      · exact h5
      · exact h6
      · exact h7
      · exact h8
      · exact h9
      · exact h10
      · exact h11
      · exact h12
      · exact h13
      · exact h14
      · exact h15
      · exact h16
      · exact h17
    have e20 : ∀ F : Nat → Int, F 0 = S.encG ta tn tc ts (tp + 1099511627776) (S.encK ta tn tc ts (tp + 1099511627776)) 0 → F 1 = S.encG ta tn tc ts (tp + 1099511627776) (S.encK ta tn tc ts (tp + 1099511627776)) 1 → F 2 = S.encG ta tn tc ts (tp + 1099511627776) (S.encK ta tn tc ts (tp + 1099511627776)) 2 → F 3 = S.encG ta tn tc ts (tp + 1099511627776) (S.encK ta tn tc ts (tp + 1099511627776)) 3 → F 4 = S.encG ta tn tc ts (tp + 1099511627776) (S.encK ta tn tc ts (tp + 1099511627776)) 4 → F 5 = S.encG ta tn tc ts (tp + 1099511627776) (S.encK ta tn tc ts (tp + 1099511627776)) 5 → F 6 = S.encG ta tn tc ts (tp + 1099511627776) (S.encK ta tn tc ts (tp + 1099511627776)) 6 → F 7 = S.encG ta tn tc ts (tp + 1099511627776) (S.encK ta tn tc ts (tp + 1099511627776)) 7 → F 8 = S.encG ta tn tc ts (tp + 1099511627776) (S.encK ta tn tc ts (tp + 1099511627776)) 8 → F 9 = S.encG ta tn tc ts (tp + 1099511627776) (S.encK ta tn tc ts (tp + 1099511627776)) 9 → F 10 = S.encG ta tn tc ts (tp + 1099511627776) (S.encK ta tn tc ts (tp + 1099511627776)) 10 → F 11 = S.encG ta tn tc ts (tp + 1099511627776) (S.encK ta tn tc ts (tp + 1099511627776)) 11 → F 12 = S.encG ta tn tc ts (tp + 1099511627776) (S.encK ta tn tc ts (tp + 1099511627776)) 12 → F 13 = S.encG ta tn tc ts (tp + 1099511627776) (S.encK ta tn tc ts (tp + 1099511627776)) 13 → F 14 = S.encG ta tn tc ts (tp + 1099511627776) (S.encK ta tn tc ts (tp + 1099511627776)) 14 → F 15 = S.encG ta tn tc ts (tp + 1099511627776) (S.encK ta tn tc ts (tp + 1099511627776)) 15 → F 16 = S.encG ta tn tc ts (tp + 1099511627776) (S.encK ta tn tc ts (tp + 1099511627776)) 16 → F 17 = S.encG ta tn tc ts (tp + 1099511627776) (S.encK ta tn tc ts (tp + 1099511627776)) 17 → F 18 = S.encG ta tn tc ts (tp + 1099511627776) (S.encK ta tn tc ts (tp + 1099511627776)) 18 → F 19 = S.encG ta tn tc ts (tp + 1099511627776) (S.encK ta tn tc ts (tp + 1099511627776)) 19 → S.ofB F 20 = S.ofB (fun j => S.encG ta tn tc ts (tp + 1099511627776) (S.encK ta tn tc ts (tp + 1099511627776)) j) 20 := fun F h0 h1 h2 h3 h4 h5 h6 h7 h8 h9 h10 h11 h12 h13 h14 h15 h16 h17 h18 h19 => ofB_congr fun j hj => by
      have hj' : j = 0 ∨ j = 1 ∨ j = 2 ∨ j = 3 ∨ j = 4 ∨ j = 5 ∨ j = 6 ∨ j = 7 ∨ j = 8 ∨ j = 9 ∨ j = 10 ∨ j = 11 ∨ j = 12 ∨ j = 13 ∨ j = 14 ∨ j = 15 ∨ j = 16 ∨ j = 17 ∨ j = 18 ∨ j = 19 := by omega
      rcases hj' with rfl | rfl | rfl | rfl | rfl | rfl | rfl | rfl | rfl | rfl | rfl | rfl | rfl | rfl | rfl | rfl | rfl | rfl | rfl | rfl
      · exact h0
      · exact h1
      · exact h2
      · exact h3
      · exact h4
      · exact h5
      · exact h6
      · exact h7
      · exact h8
      · exact h9
      · exact h10
      · exact h11
      · exact h12
      · exact h13
      · exact h14
      · exact h15
      · exact h16
      · exact h17
      · exact h18
      · exact h19
    unfold p32
    simp only [-eq_self, c32_e_0, c32_e_1, c32_e_2]
    refine goes_no h0' ?_

    repeat' first
      | with_reducible refine goes_ok limK1 ?_
      | with_reducible refine goes_ok limK2 ?_
      | with_reducible refine goes_if (fun h => ?_) (fun h => ?_) <;> (try simp only [SH, ofB_size] at h)
      | exact goes_none.mpr (by omega)
    rotate_left
    all_goals try (exfalso; omega)
    refine goes_inr.mpr ?_
    refine congrArg (fun x => (x, (0 : Int))) ?_
    refine e20 _ wsh40 wsh32 wsh24 wsh16 wsh8 wsh0 wsh8 wsh0 wsh16 wsh8 wsh0 wsh0 wsh40 wsh32 wsh24 wsh16 wsh8 wsh0 ?_ ?_
    · refine Eq.trans wsh8 ?_
      rw [e18 _ wsh40 wsh32 wsh24 wsh16 wsh8 wsh0 wsh8 wsh0 wsh16 wsh8 wsh0 wsh0 wsh40 wsh32 wsh24 wsh16 wsh8 wsh0]
      rfl
    · refine Eq.trans wsh0 ?_
      rw [e18 _ wsh40 wsh32 wsh24 wsh16 wsh8 wsh0 wsh8 wsh0 wsh16 wsh8 wsh0 wsh0 wsh40 wsh32 wsh24 wsh16 wsh8 wsh0]
      rfl
  · rw [if_neg h0]
    unfold p32
    exact goes_ok (by simpa using h0) (goes_inr.mpr rfl)
theorem k32_ok  : k32.ok Try.prog := by
  intro x hx
  obtain ⟨⟨ta, tn, tc, ts, tp, _⟩, _⟩ := x
  obtain ⟨h1, h2⟩ := a32 ta tn tc ts tp (s32 ta tn tc ts tp (of_dec hx rfl))
  exact ⟨⟨400, (by decide : 0 + 1 + 0 ≤ 400), h1⟩, h2⟩
noncomputable def xE (test : Bool → Prop → Prop → Prop) : Ext := consX test [k40, k14, k15, k13, k51, k54, k32]
theorem xE_ok  : ExtOk Try.prog (xE cond) := consX_ok ⟨k40_ok, k14_ok, k15_ok, k13_ok, k51_ok, k54_ok, k32_ok, trivial⟩
namespace S
def decR (a n c s p : Int) : Int × Int × Int × Int × Int × Int := if evE a n c s p = 0 then (a, n, c, s, p, 0) else (0, 0, 0, 0, 0, evE a n c s p)
def decS (st : ByteArray) : Int × Int × Int × Int × Int × Int :=
  if st.size = 20 then
    (if getS (subS st 18 20) = ckS (subS st 0 18) then decR (getS (subS st 0 6)) (getS (subS st 6 8)) (getS (subS st 8 11)) (getS (subS st 11 12)) (getS (subS st 12 18) - 1099511627776) else (0, 0, 0, 0, 0, 19))
  else (0, 0, 0, 0, 0, 2)
end S
theorem getS_b  {st : ByteArray} (h : st.size ≤ 6) : 0 ≤ S.getS st ∧ S.getS st < 281474976710656 := by
  have h1 := getN_b (f := fun j => keys st j) (key_b st) (n := st.size)
  have h2 := p256_6 h
  unfold S.getS
  omega
theorem getN_congr  {f g : Nat → Int} : ∀ {n : Nat}, (∀ j, j < n → f j = g j) → S.getN f n = S.getN g n
  | 0, _ => rfl
  | n + 1, h => by
    simp only [S.getN]
    rw [getN_congr fun j hj => h j (by omega), h n (by omega)]
theorem getS_sub  {st : ByteArray} {lo hi n : Nat} (h : hi ≤ st.size) (hn : hi - lo = n) : S.getS (S.subS st lo hi) = S.getN (fun j => keys st (lo + j)) n := by
  subst hn
  unfold S.getS
  rw [sub_size h]
  exact getN_congr fun j hj => keys_sub h hj
abbrev St34  := Empty
abbrev Rt34  := Int × Int × Int × Int × Int × Int
noncomputable def V34 (st : ByteArray) (r : Rt34) : PV := PV.tup [PV.agg [PV.int .i64 r.1, PV.int .i64 r.2.1, PV.int .i64 r.2.2.1, PV.int .i64 r.2.2.2.1, PV.int .i64 r.2.2.2.2.1], PV.int .i64 r.2.2.2.2.2]
noncomputable def N34 (st : ByteArray) (r : Rt34) : List Blk := []
noncomputable def I34 (st : ByteArray) : St34 → Hd := fun s => s.elim
noncomputable def q34 (st : ByteArray) : St34 → Option (St34 ⊕ Rt34) := fun s => s.elim
noncomputable def p34 (st : ByteArray) : Option (St34 ⊕ Rt34) := bif ((↑(ByteArray.size st) : Int) != 20) then (some (.inr ((0 : Int), (0 : Int), (0 : Int), (0 : Int), (0 : Int), (2 : Int)))) else (bif (decide ((0 : Int) ≤ Option.getD (Option.some (18 : Int)) (0 : Int) ∧ (18 : Int) ≤ (↑(ByteArray.size st) : Int) ∧ (↑(ByteArray.size st) : Int) ≤ (↑(ByteArray.size st) : Int))) then (bif (decide (ByteArray.size (S.subS st (18) (ByteArray.size st)) ≤ 6)) then (bif (decide ((0 : Int) ≤ Option.getD Option.none (0 : Int) ∧ (0 : Int) ≤ 18 ∧ (18 : Int) ≤ (↑(ByteArray.size st) : Int))) then (bif (decide (ByteArray.size (S.subS st (0) (18)) ≤ 1000)) then (bif (S.getS (S.subS st (18) (ByteArray.size st)) != S.ckS (S.subS st (0) (18))) then (some (.inr ((0 : Int), (0 : Int), (0 : Int), (0 : Int), (0 : Int), (19 : Int)))) else (bif (decide ((0 : Int) ≤ Option.getD Option.none (0 : Int) ∧ (0 : Int) ≤ 6 ∧ (6 : Int) ≤ (↑(ByteArray.size st) : Int))) then (bif (decide (ByteArray.size (S.subS st (0) (6)) ≤ 6)) then (bif (decide ((0 : Int) ≤ Option.getD (Option.some (6 : Int)) (0 : Int) ∧ (6 : Int) ≤ 8 ∧ (8 : Int) ≤ (↑(ByteArray.size st) : Int))) then (bif (decide (ByteArray.size (S.subS st (6) (8)) ≤ 6)) then (bif (decide ((0 : Int) ≤ Option.getD (Option.some (8 : Int)) (0 : Int) ∧ (8 : Int) ≤ 11 ∧ (11 : Int) ≤ (↑(ByteArray.size st) : Int))) then (bif (decide (ByteArray.size (S.subS st (8) (11)) ≤ 6)) then (bif (decide ((0 : Int) ≤ Option.getD (Option.some (11 : Int)) (0 : Int) ∧ (11 : Int) ≤ 12 ∧ (12 : Int) ≤ (↑(ByteArray.size st) : Int))) then (bif (decide (ByteArray.size (S.subS st (11) (12)) ≤ 6)) then (bif (decide ((0 : Int) ≤ Option.getD (Option.some (12 : Int)) (0 : Int) ∧ (12 : Int) ≤ 18 ∧ (18 : Int) ≤ (↑(ByteArray.size st) : Int))) then (bif (decide (ByteArray.size (S.subS st (12) (18)) ≤ 6)) then (bif (lim .i64 (S.getS (S.subS st (12) (18)) - 1099511627776)) then (bif (S.evE (S.getS (S.subS st (0) (6))) (S.getS (S.subS st (6) (8))) (S.getS (S.subS st (8) (11))) (S.getS (S.subS st (11) (12))) (S.getS (S.subS st (12) (18)) - 1099511627776) != 0) then (some (.inr ((0 : Int), (0 : Int), (0 : Int), (0 : Int), (0 : Int), S.evE (S.getS (S.subS st (0) (6))) (S.getS (S.subS st (6) (8))) (S.getS (S.subS st (8) (11))) (S.getS (S.subS st (11) (12))) (S.getS (S.subS st (12) (18)) - 1099511627776)))) else (some (.inr (S.getS (S.subS st (0) (6)), S.getS (S.subS st (6) (8)), S.getS (S.subS st (8) (11)), S.getS (S.subS st (11) (12)), S.getS (S.subS st (12) (18)) - 1099511627776, (0 : Int))))) else (none)) else (none)) else (none)) else (none)) else (none)) else (none)) else (none)) else (none)) else (none)) else (none)) else (none))) else (none)) else (none)) else (none)) else (none))
def Te34 (test : TT) (Kst : KS) (Kret : KR) (st : ByteArray) : Prop := test ((↑(ByteArray.size st) : Int) != 20) (Kret (PV.tup [PV.agg [PV.int .i64 (0 : Int), PV.int .i64 (0 : Int), PV.int .i64 (0 : Int), PV.int .i64 (0 : Int), PV.int .i64 (0 : Int)], PV.int .i64 (2 : Int)]) ([[]]) (1)) (test (decide ((0 : Int) ≤ Option.getD (Option.some (18 : Int)) (0 : Int) ∧ (18 : Int) ≤ (↑(ByteArray.size st) : Int) ∧ (↑(ByteArray.size st) : Int) ≤ (↑(ByteArray.size st) : Int))) (test (decide (ByteArray.size (S.subS st (18) (ByteArray.size st)) ≤ 6)) (test (decide ((0 : Int) ≤ Option.getD Option.none (0 : Int) ∧ (0 : Int) ≤ 18 ∧ (18 : Int) ≤ (↑(ByteArray.size st) : Int))) (test (decide (ByteArray.size (S.subS st (0) (18)) ≤ 1000)) (test (S.getS (S.subS st (18) (ByteArray.size st)) != S.ckS (S.subS st (0) (18))) (Kret (PV.tup [PV.agg [PV.int .i64 (0 : Int), PV.int .i64 (0 : Int), PV.int .i64 (0 : Int), PV.int .i64 (0 : Int), PV.int .i64 (0 : Int)], PV.int .i64 (19 : Int)]) ([[]]) (3)) (test (decide ((0 : Int) ≤ Option.getD Option.none (0 : Int) ∧ (0 : Int) ≤ 6 ∧ (6 : Int) ≤ (↑(ByteArray.size st) : Int))) (test (decide (ByteArray.size (S.subS st (0) (6)) ≤ 6)) (test (decide ((0 : Int) ≤ Option.getD (Option.some (6 : Int)) (0 : Int) ∧ (6 : Int) ≤ 8 ∧ (8 : Int) ≤ (↑(ByteArray.size st) : Int))) (test (decide (ByteArray.size (S.subS st (6) (8)) ≤ 6)) (test (decide ((0 : Int) ≤ Option.getD (Option.some (8 : Int)) (0 : Int) ∧ (8 : Int) ≤ 11 ∧ (11 : Int) ≤ (↑(ByteArray.size st) : Int))) (test (decide (ByteArray.size (S.subS st (8) (11)) ≤ 6)) (test (decide ((0 : Int) ≤ Option.getD (Option.some (11 : Int)) (0 : Int) ∧ (11 : Int) ≤ 12 ∧ (12 : Int) ≤ (↑(ByteArray.size st) : Int))) (test (decide (ByteArray.size (S.subS st (11) (12)) ≤ 6)) (test (decide ((0 : Int) ≤ Option.getD (Option.some (12 : Int)) (0 : Int) ∧ (12 : Int) ≤ 18 ∧ (18 : Int) ≤ (↑(ByteArray.size st) : Int))) (test (decide (ByteArray.size (S.subS st (12) (18)) ≤ 6)) (test (lim .i64 (S.getS (S.subS st (12) (18)) - 1099511627776)) (test (true) (test (S.evE (S.getS (S.subS st (0) (6))) (S.getS (S.subS st (6) (8))) (S.getS (S.subS st (8) (11))) (S.getS (S.subS st (11) (12))) (S.getS (S.subS st (12) (18)) - 1099511627776) != 0) (Kret (PV.tup [PV.agg [PV.int .i64 (0 : Int), PV.int .i64 (0 : Int), PV.int .i64 (0 : Int), PV.int .i64 (0 : Int), PV.int .i64 (0 : Int)], PV.int .i64 (S.evE (S.getS (S.subS st (0) (6))) (S.getS (S.subS st (6) (8))) (S.getS (S.subS st (8) (11))) (S.getS (S.subS st (11) (12))) (S.getS (S.subS st (12) (18)) - 1099511627776))]) ([[]]) (10)) (Kret (PV.tup [PV.agg [PV.int .i64 (S.getS (S.subS st (0) (6))), PV.int .i64 (S.getS (S.subS st (6) (8))), PV.int .i64 (S.getS (S.subS st (8) (11))), PV.int .i64 (S.getS (S.subS st (11) (12))), PV.int .i64 (S.getS (S.subS st (12) (18)) - 1099511627776)], PV.int .i64 (0 : Int)]) ([[]]) (10))) (False)) (False)) (False)) (False)) (False)) (False)) (False)) (False)) (False)) (False)) (False)) (False))) (False)) (False)) (False)) (False))
theorem te34 (test : TT) (Kst : KS) (Kret : KR) (st : ByteArray) : run test Try.env true (xE test) true 400 ⟨19, [.cd (mkFn Try.f19).body], argT 0 [.str st], [[], []], 0⟩ (proj 0 [] Kst Kret) =
  Te34 test Kst Kret st := by kernel_rfl
attribute [local irreducible] Int.subNatNat S.getS S.ckS S.evE in
theorem be34 (st : ByteArray) (Kst : KS) (Kret : KR) (x : St34 ⊕ Rt34) (hS : HS 0 400 ((I34 st)) Kst x) (hR : HR 0 400 ((V34 st)) (fun r => [newL (0 + 1) ((N34 st) r) ++ []]) Kret x) (h : p34 st = some x) : Te34 cond Kst Kret st := by
  unfold Te34
  unfold p34 at h
  refine bif_split h (fun c0 h => ?_) (fun c0 h => bif_split h (fun c1 h => bif_split h (fun c2 h => bif_split h (fun c3 h => bif_split h (fun c4 h => bif_split h (fun c5 h => ?_) (fun c5 h => bif_split h (fun c6 h => bif_split h (fun c7 h => bif_split h (fun c8 h => bif_split h (fun c9 h => bif_split h (fun c10 h => bif_split h (fun c11 h => bif_split h (fun c12 h => bif_split h (fun c13 h => bif_split h (fun c14 h => bif_split h (fun c15 h => bif_split h (fun c16 h => cond_yes rfl (bif_split h (fun c17 h => ?_) (fun c17 h => ?_))) (fun c16 h => ?_)) (fun c15 h => ?_)) (fun c14 h => ?_)) (fun c13 h => ?_)) (fun c12 h => ?_)) (fun c11 h => ?_)) (fun c10 h => ?_)) (fun c9 h => ?_)) (fun c8 h => ?_)) (fun c7 h => ?_)) (fun c6 h => ?_))) (fun c4 h => ?_)) (fun c3 h => ?_)) (fun c2 h => ?_)) (fun c1 h => ?_))
  all_goals first
    | exact no_some h
    | exact ret_at hR _ h (fun n => n) rfl rfl rfl (rn_tup ⟨(rn_agg ⟨(rn_int rfl), (rn_int rfl), (rn_int rfl), (rn_int rfl), (rn_int rfl), trivial⟩), (rn_int rfl), trivial⟩) rfl entl_nil
theorem a34 (st : ByteArray) {r : Rt34} (h : Goes ((q34 st)) ((p34 st)) r) : CallR Try.prog 19 [.str st] [[]] 0 ((V34 st) r) ((fun r => [newL (0 + 1) ((N34 st) r) ++ []]) r) 400 ∧ ∃ F, Try.prog.funcs[19]? = some F ∧ F.body.isSome = true ∧ (F.name == "runtime.NumGoroutine") = false := by
  refine dec_calls (sy := true) (f := 19) (lo := 0) (hi := 400) (H := [[]]) (args := [.str st]) Try.envOk Try.mixed xE_ok ((I34 st)) ((V34 st)) (fun r => [newL (0 + 1) ((N34 st) r) ++ []]) (fn := mkFn Try.f19) (ts := []) (n := 400) rfl (by decide) (by simp) (names_of rfl) ?_ ?_ ?_ h
  · intro s; exact s.elim
  · intro Kst Kret x hS hR h
    exact Holds.eq (te34 cond Kst Kret st) (be34 st Kst Kret x hS hR h)
  · intro Kst Kret x hS hR s h; exact s.elim
noncomputable abbrev w34 {α : Type} (g : ByteArray → α) (x : ByteArray × Unit) : α := g x.1
noncomputable def k34  : Con := ⟨19, [.one (.plain (.str))], w34 (fun st => decide (True)), w34 (fun st => (V34 st) ((S.decS st).1, (S.decS st).2.1, (S.decS st).2.2.1, (S.decS st).2.2.2.1, (S.decS st).2.2.2.2.1, (S.decS st).2.2.2.2.2)), w34 (fun st => (N34 st) ((S.decS st).1, (S.decS st).2.1, (S.decS st).2.2.1, (S.decS st).2.2.2.1, (S.decS st).2.2.2.2.1, (S.decS st).2.2.2.2.2)), fun _ _ => .dead⟩
theorem s34 (st : ByteArray) (hp : True) : Goes ((q34 st)) ((p34 st)) (((S.decS st).1, (S.decS st).2.1, (S.decS st).2.2.1, (S.decS st).2.2.2.1, (S.decS st).2.2.2.2.1, (S.decS st).2.2.2.2.2)) := by
  show Goes _ _ (S.decS st)
  unfold S.decS S.decR
  by_cases h0 : st.size = 20
  · rw [if_pos h0]
    have z1 : (S.subS st 18 20).size = 2 := sub_size (by omega)
    have z2 : (S.subS st 0 18).size = 18 := sub_size (by omega)
    have z3 : (S.subS st 0 6).size = 6 := sub_size (by omega)
    have z4 : (S.subS st 6 8).size = 2 := sub_size (by omega)
    have z5 : (S.subS st 8 11).size = 3 := sub_size (by omega)
    have z6 : (S.subS st 11 12).size = 1 := sub_size (by omega)
    have z7 : (S.subS st 12 18).size = 6 := sub_size (by omega)
    have hb := getS_b (st := S.subS st 12 18) (by omega)
    unfold p34
    simp only [h0, z1, z2, z3, z4, z5, z6, z7]
    generalize S.getS (S.subS st 18 20) = k1 at *
    generalize S.ckS (S.subS st 0 18) = k2 at *
    generalize S.getS (S.subS st 0 6) = a at *
    generalize S.getS (S.subS st 6 8) = n at *
    generalize S.getS (S.subS st 8 11) = c at *
    generalize S.getS (S.subS st 11 12) = s at *
    generalize S.getS (S.subS st 12 18) = q at *
    by_cases hk : k1 = k2
    · rw [if_pos hk]
      generalize S.evE a n c s (q - 1099511627776) = E at *
      by_cases hE : E = 0
      · rw [if_pos hE]
        subst hE
        repeat' (first | with_reducible refine goes_if (fun h => ?_) (fun h => ?_) <;> (try simp only [SH] at h) | exact goes_none.mpr (by omega))
        all_goals first | (exfalso; omega) | exact goes_inr.mpr rfl
      · rw [if_neg hE]
        repeat' (first | with_reducible refine goes_if (fun h => ?_) (fun h => ?_) <;> (try simp only [SH] at h) | exact goes_none.mpr (by omega))
        all_goals first | (exfalso; omega) | exact goes_inr.mpr rfl
    · rw [if_neg hk]
      repeat' (first | with_reducible refine goes_if (fun h => ?_) (fun h => ?_) <;> (try simp only [SH] at h) | exact goes_none.mpr (by omega))
      all_goals first | (exfalso; omega) | exact goes_inr.mpr rfl
  · rw [if_neg h0]
    unfold p34
    exact goes_ok (by rw [bne_iff_ne]; omega) (goes_inr.mpr rfl)
theorem k34_ok  : k34.ok Try.prog := by
  intro x hx
  obtain ⟨st, _⟩ := x
  obtain ⟨h1, h2⟩ := a34 st (s34 st (of_dec hx rfl))
  exact ⟨⟨400, (by decide : 0 + 1 + 0 ≤ 400), h1⟩, h2⟩
theorem encG_b  {a n c s q k : Int} : ∀ j, 0 ≤ S.encG a n c s q k j ∧ S.encG a n c s q k j ≤ 255 := fun j => by
  by_cases h : j < 20
  · have hj' : j = 0 ∨ j = 1 ∨ j = 2 ∨ j = 3 ∨ j = 4 ∨ j = 5 ∨ j = 6 ∨ j = 7 ∨ j = 8 ∨ j = 9 ∨ j = 10 ∨ j = 11 ∨ j = 12 ∨ j = 13 ∨ j = 14 ∨ j = 15 ∨ j = 16 ∨ j = 17 ∨ j = 18 ∨ j = 19 := by omega
    rcases hj' with rfl | rfl | rfl | rfl | rfl | rfl | rfl | rfl | rfl | rfl | rfl | rfl | rfl | rfl | rfl | rfl | rfl | rfl | rfl | rfl
    all_goals
      simp only [S.encG]
      omega
  · obtain ⟨m, rfl⟩ : ∃ m, j = m + 20 := ⟨j - 20, by omega⟩
    exact ⟨Int.le_refl _, by show (0 : Int) ≤ 255; decide⟩
theorem encF_G  {a n c s q k : Int} : ∀ j, j < 18 → S.encG a n c s q k j = S.encF a n c s q j := fun j h => by
  have hj' : j = 0 ∨ j = 1 ∨ j = 2 ∨ j = 3 ∨ j = 4 ∨ j = 5 ∨ j = 6 ∨ j = 7 ∨ j = 8 ∨ j = 9 ∨ j = 10 ∨ j = 11 ∨ j = 12 ∨ j = 13 ∨ j = 14 ∨ j = 15 ∨ j = 16 ∨ j = 17 := by omega
  rcases hj' with rfl | rfl | rfl | rfl | rfl | rfl | rfl | rfl | rfl | rfl | rfl | rfl | rfl | rfl | rfl | rfl | rfl | rfl
  all_goals rfl
theorem dec_enc  {a n c s p : Int} (h : S.evE a n c s p = 0) : S.decS (S.encS a n c s p).1 = (a, n, c, s, p, 0) ∧ (S.encS a n c s p).2 = 0 := by
  have hb := evB_iff.mp h
  unfold S.encS
  rw [if_pos h]
  refine ⟨?_, rfl⟩
  obtain ⟨q, hq⟩ : ∃ q, p + 1099511627776 = q := ⟨_, rfl⟩
  obtain ⟨K, hK⟩ : ∃ K, S.encK a n c s q = K := ⟨_, rfl⟩
  have kb : 0 ≤ K ∧ K < 65521 := by rw [← hK]; exact ckS_b
  dsimp only
  rw [hq, hK]
  obtain ⟨u, hu⟩ : ∃ u, S.ofB (fun j => S.encG a n c s q K j) 20 = u := ⟨_, rfl⟩
  have us : u.size = 20 := by rw [← hu]; exact ofB_size
  have uk : ∀ j, j < 20 → keys u j = S.encG a n c s q K j := fun j hj => by rw [← hu]; exact keys_ofB (f := fun j => S.encG a n c s q K j) hj (encG_b j)
  rw [hu]
  unfold S.decS
  rw [if_pos us, getS_sub (n := 2) (by omega) rfl, getS_sub (n := 6) (by omega) rfl, getS_sub (n := 2) (by omega) rfl, getS_sub (n := 3) (by omega) rfl, getS_sub (n := 1) (by omega) rfl, getS_sub (n := 6) (by omega) rfl]
  have e18 : S.subS u 0 18 = S.ofB (fun j => S.encF a n c s q j) 18 := by
    refine keys_ext (by rw [sub_size (by omega), ofB_size]) fun j hj => ?_
    rw [sub_size (by omega)] at hj
    rw [keys_sub (by omega) (by omega), Nat.zero_add, uk j (by omega), encF_G j (by omega)]
    have := @encG_b a n c s q K j
    rw [encF_G j (by omega)] at this
    exact (keys_ofB (f := fun j => S.encF a n c s q j) (by omega) this).symm
  have ck : S.ckS (S.subS u 0 18) = K := by rw [e18]; exact hK
  rw [ck]
  simp only [S.getN, uk 0 (by omega), uk 1 (by omega), uk 2 (by omega), uk 3 (by omega), uk 4 (by omega), uk 5 (by omega), uk 6 (by omega), uk 7 (by omega), uk 8 (by omega), uk 9 (by omega), uk 10 (by omega), uk 11 (by omega), uk 12 (by omega), uk 13 (by omega), uk 14 (by omega), uk 15 (by omega), uk 16 (by omega), uk 17 (by omega), uk 18 (by omega), uk 19 (by omega), Nat.add_zero, Nat.reduceAdd, Nat.zero_add, S.encG]
  rw [if_pos (by omega)]
  have ea : (((((0 * 256 + a / 1099511627776 % 256) * 256 + a / 4294967296 % 256) * 256 + a / 16777216 % 256) * 256 + a / 65536 % 256) * 256 + a / 256 % 256) * 256 + a % 256 = a := by omega
  have en : (0 * 256 + n / 256 % 256) * 256 + n % 256 = n := by omega
  have ec : ((0 * 256 + c / 65536 % 256) * 256 + c / 256 % 256) * 256 + c % 256 = c := by omega
  have es : 0 * 256 + s % 256 = s := by omega
  have eq' : (((((0 * 256 + q / 1099511627776 % 256) * 256 + q / 4294967296 % 256) * 256 + q / 16777216 % 256) * 256 + q / 65536 % 256) * 256 + q / 256 % 256) * 256 + q % 256 - 1099511627776 = p := by omega
  rw [ea, en, ec, es, eq']
  unfold S.decR
  rw [if_pos h]
noncomputable def xG (test : Bool → Prop → Prop → Prop) : Ext := consX test [k12, k14, k15, k32, k34]
theorem xG_ok  : ExtOk Try.prog (xG cond) := consX_ok ⟨k12_ok, k14_ok, k15_ok, k32_ok, k34_ok, trivial⟩
theorem ckN_upd  {f g : Nat → Int} {i : Nat} {c : Int} (h1 : g i = c) (h2 : ∀ j, j ≠ i → g j = f j) : ∀ {n : Nat}, S.ckN g n = S.ckN f n + (if i < n then ((i : Int) + 1) * (c - f i) else 0)
  | 0 => by rw [if_neg (Nat.not_lt_zero _)]; exact (Int.add_zero _).symm
  | n + 1 => by
    have e1 : S.ckN g (n + 1) = S.ckN g n + ((n : Int) + 1) * g n := rfl
    have e2 : S.ckN f (n + 1) = S.ckN f n + ((n : Int) + 1) * f n := rfl
    rw [e1, e2, ckN_upd h1 h2 (n := n)]
    by_cases e : n = i
    · subst e
      rw [if_neg (Nat.lt_irrefl _), if_pos (Nat.lt_succ_self _), h1, Int.mul_sub]
      omega
    · rw [h2 n e]
      by_cases h : i < n
      · rw [if_pos h, if_pos (by omega)]; omega
      · rw [if_neg h, if_neg (by omega)]; omega
theorem ck_mod  {X D : Int} (h : (X + D) % 65521 = X % 65521) (hD : -65521 < D ∧ D < 65521) : D = 0 := by omega
theorem ckN_congr  {f g : Nat → Int} : ∀ {n : Nat}, (∀ j, j < n → f j = g j) → S.ckN f n = S.ckN g n
  | 0, _ => rfl
  | n + 1, h => by
    have e1 : S.ckN g (n + 1) = S.ckN g n + ((n : Int) + 1) * g n := rfl
    have e2 : S.ckN f (n + 1) = S.ckN f n + ((n : Int) + 1) * f n := rfl
    rw [e1, e2, ckN_congr fun j hj => h j (by omega), h n (by omega)]
theorem ckS_sub  {st : ByteArray} {n : Nat} (h : n ≤ st.size) : S.ckS (S.subS st 0 n) = S.ckN (fun j => keys st j) n % 65521 := by
  unfold S.ckS
  rw [show (S.subS st 0 n).size = n by rw [sub_size h]; omega]
  rw [ckN_congr (f := fun j => keys (S.subS st 0 n) j) (g := fun j => keys st j) fun j hj => by rw [keys_sub h (by omega), Nat.zero_add]]
theorem decS_ck  {st : ByteArray} (h : st.size = 20) (h2 : (S.decS st).2.2.2.2.2 = 0) : S.getS (S.subS st 18 20) = S.ckS (S.subS st 0 18) := by
  unfold S.decS at h2
  rw [if_pos h] at h2
  by_cases hk : S.getS (S.subS st 18 20) = S.ckS (S.subS st 0 18)
  · exact hk
  · rw [if_neg hk] at h2; cases h2
theorem spoil  {u : ByteArray} (hu : u.size = 20) (h : (S.decS u).2.2.2.2.2 = 0) {i : Nat} (hi : i < 20) {c : Int} (hc : 0 ≤ c ∧ c ≤ 255) (hne : c ≠ keys u i) {F : Nat → Int} (h1 : F i = c) (h2 : ∀ j, j ≠ i → F j = keys u j) : S.decS (S.ofB F 20) = (0, 0, 0, 0, 0, 19) := by
  have hk := decS_ck hu h
  have kb := key_b u
  have Fb : ∀ j, 0 ≤ F j ∧ F j ≤ 255 := fun j => by
    by_cases e : j = i
    · subst e; rw [h1]; exact hc
    · rw [h2 j e]; exact kb j
  have vs : (S.ofB F 20).size = 20 := ofB_size
  have vk : ∀ j, j < 20 → keys (S.ofB F 20) j = F j := fun j hj => keys_ofB hj (Fb j)
  unfold S.decS
  rw [if_pos vs]
  rw [if_neg]
  rw [getS_sub (n := 2) (by omega) rfl, ckS_sub (by omega)] at hk ⊢
  rw [ckN_congr (f := fun j => keys (S.ofB F 20) j) (g := F) fun j hj => vk j (by omega), ckN_upd (f := fun j => keys u j) h1 h2]
  simp only [S.getN] at hk ⊢
  simp only [Nat.add_zero, Nat.reduceAdd] at hk ⊢
  rw [vk 18 (by omega), vk 19 (by omega)]
  have k18 := kb 18
  have k19 := kb 19
  have kbi := kb i
  generalize S.ckN (fun j => keys u j) 18 = X at *
  by_cases h18 : i < 18
  · rw [if_pos h18, h2 18 (by omega), h2 19 (by omega)]
    intro e
    rw [hk] at e
    have b1 : ((i : Int) + 1) * (c - keys u i) ≤ ((i : Int) + 1) * 255 := Int.mul_le_mul_of_nonneg_left (by omega) (by omega)
    have b2 : ((i : Int) + 1) * (-255) ≤ ((i : Int) + 1) * (c - keys u i) := Int.mul_le_mul_of_nonneg_left (by omega) (by omega)
    have := ck_mod e.symm ⟨by omega, by omega⟩
    rcases Int.mul_eq_zero.1 this with z | z <;> omega
  · rw [if_neg h18, Int.add_zero, ← hk]
    have : i = 18 ∨ i = 19 := by omega
    rcases this with rfl | rfl
    · rw [h1, h2 19 (by omega)]; omega
    · rw [h1, h2 18 (by omega)]; omega
theorem unspoil  {u : ByteArray} (hu : u.size = 20) {F : Nat → Int} (h : ∀ j, j < 20 → F j = keys u j) : S.ofB F 20 = u := by
  refine keys_ext (by rw [ofB_size, hu]) fun j hj => ?_
  rw [ofB_size] at hj
  rw [keys_ofB hj (by rw [h j hj]; exact key_b u j), h j hj]
theorem encS_size  {a n c s p : Int} (h : S.evE a n c s p = 0) : (S.encS a n c s p).1.size = 20 := by
  unfold S.encS
  rw [if_pos h]
  exact ofB_size
noncomputable abbrev c505_e_0 (ta tn tc ts tp at1 by1 : Int) := S.decS (S.ofB (fun j => bif Nat.beq j (Int.toNat (Int.tmod at1 (20 : Int))) then keys ((S.encS ta tn tc ts tp).1) (Int.toNat (Int.tmod at1 (20 : Int))) + by1 else keys ((S.encS ta tn tc ts tp).1) j) (ByteArray.size ((S.encS ta tn tc ts tp).1)))
noncomputable abbrev c505_e_1 (ta tn tc ts tp at1 by1 : Int) := S.decS (S.ofB (fun j => bif Nat.beq j (Int.toNat (Int.tmod at1 (20 : Int))) then S.wrapI .u8 (keys ((S.encS ta tn tc ts tp).1) (Int.toNat (Int.tmod at1 (20 : Int))) + by1) else keys ((S.encS ta tn tc ts tp).1) j) (ByteArray.size ((S.encS ta tn tc ts tp).1)))
noncomputable abbrev c505_e_2 (ta tn tc ts tp at1 by1 : Int) := Prod.fst (c505_e_1 ta tn tc ts tp at1 by1) == ta && (Prod.fst (Prod.snd (c505_e_1 ta tn tc ts tp at1 by1)) == tn && (Prod.fst (Prod.snd (Prod.snd (S.decS (S.ofB (fun j => bif Nat.beq j (Int.toNat (Int.tmod at1 (20 : Int))) then S.wrapI .u8 (keys ((S.encS ta tn tc ts tp).1) (Int.toNat (Int.tmod at1 (20 : Int))) + by1) else keys ((S.encS ta tn tc ts tp).1) j) (ByteArray.size ((S.encS ta tn tc ts tp).1)))))) == tc && (Prod.fst (Prod.snd (Prod.snd (Prod.snd (S.decS (S.ofB (fun j => bif Nat.beq j (Int.toNat (Int.tmod at1 (20 : Int))) then S.wrapI .u8 (keys ((S.encS ta tn tc ts tp).1) (Int.toNat (Int.tmod at1 (20 : Int))) + by1) else keys ((S.encS ta tn tc ts tp).1) j) (ByteArray.size ((S.encS ta tn tc ts tp).1))))))) == ts && (Prod.fst (Prod.snd (Prod.snd (Prod.snd (Prod.snd (S.decS (S.ofB (fun j => bif Nat.beq j (Int.toNat (Int.tmod at1 (20 : Int))) then S.wrapI .u8 (keys ((S.encS ta tn tc ts tp).1) (Int.toNat (Int.tmod at1 (20 : Int))) + by1) else keys ((S.encS ta tn tc ts tp).1) j) (ByteArray.size ((S.encS ta tn tc ts tp).1)))))))) == tp && true))))
noncomputable abbrev c505_e_3 (ta tn tc ts tp at1 by1 : Int) := Prod.fst (c505_e_0 ta tn tc ts tp at1 by1) == ta && (Prod.fst (Prod.snd (c505_e_0 ta tn tc ts tp at1 by1)) == tn && (Prod.fst (Prod.snd (Prod.snd (c505_e_0 ta tn tc ts tp at1 by1))) == tc && (Prod.fst (Prod.snd (Prod.snd (Prod.snd (S.decS (S.ofB (fun j => bif Nat.beq j (Int.toNat (Int.tmod at1 (20 : Int))) then keys ((S.encS ta tn tc ts tp).1) (Int.toNat (Int.tmod at1 (20 : Int))) + by1 else keys ((S.encS ta tn tc ts tp).1) j) (ByteArray.size ((S.encS ta tn tc ts tp).1))))))) == ts && (Prod.fst (Prod.snd (Prod.snd (Prod.snd (Prod.snd (S.decS (S.ofB (fun j => bif Nat.beq j (Int.toNat (Int.tmod at1 (20 : Int))) then keys ((S.encS ta tn tc ts tp).1) (Int.toNat (Int.tmod at1 (20 : Int))) + by1 else keys ((S.encS ta tn tc ts tp).1) j) (ByteArray.size ((S.encS ta tn tc ts tp).1)))))))) == tp && true))))
abbrev St505  := Empty
abbrev Rt505  := Bool
noncomputable def V505 (ta tn tc ts tp at1 by1 : Int) (r : Rt505) : PV := PV.bool r
noncomputable def N505 (ta tn tc ts tp at1 by1 : Int) (r : Rt505) : List Blk := []
noncomputable def I505 (ta tn tc ts tp at1 by1 : Int) : St505 → Hd := fun s => s.elim
noncomputable def q505 (ta tn tc ts tp at1 by1 : Int) : St505 → Option (St505 ⊕ Rt505) := fun s => s.elim
noncomputable def p505 (ta tn tc ts tp at1 by1 : Int) : Option (St505 ⊕ Rt505) := bif (S.evE ta tn tc ts tp != 0) then (some (.inr (true))) else (bif ((S.encS ta tn tc ts tp).2 != 0) then (some (.inr (false))) else (bif ((↑(ByteArray.size ((S.encS ta tn tc ts tp).1)) : Int) != 20) then (some (.inr (false))) else (bif (decide ((0 : Int) ≤ Int.tmod at1 (20 : Int) ∧ Int.tmod at1 (20 : Int) < (↑(ByteArray.size ((S.encS ta tn tc ts tp).1)) : Int))) then (bif (decide (Int.toNat (Int.tmod at1 (20 : Int)) < ByteArray.size ((S.encS ta tn tc ts tp).1))) then (bif (lim .u8 (keys ((S.encS ta tn tc ts tp).1) (Int.toNat (Int.tmod at1 (20 : Int))) + by1)) then (bif (decide (0 + ByteArray.size ((S.encS ta tn tc ts tp).1) ≤ ByteArray.size ((S.encS ta tn tc ts tp).1))) then (bif (by1 == 0) then (bif (Prod.snd (Prod.snd (Prod.snd (Prod.snd (Prod.snd (c505_e_0 ta tn tc ts tp at1 by1))))) == 0) then (bif (c505_e_3 ta tn tc ts tp at1 by1) then (some (.inr (true))) else (some (.inr (false)))) else (some (.inr (false)))) else (bif (Prod.snd (Prod.snd (Prod.snd (Prod.snd (Prod.snd (c505_e_0 ta tn tc ts tp at1 by1))))) == 19) then (some (.inr (true))) else (some (.inr (false))))) else (none)) else (bif (decide (0 + ByteArray.size ((S.encS ta tn tc ts tp).1) ≤ ByteArray.size ((S.encS ta tn tc ts tp).1))) then (bif (by1 == 0) then (bif (Prod.snd (Prod.snd (Prod.snd (Prod.snd (Prod.snd (c505_e_1 ta tn tc ts tp at1 by1))))) == 0) then (bif (c505_e_2 ta tn tc ts tp at1 by1) then (some (.inr (true))) else (some (.inr (false)))) else (some (.inr (false)))) else (bif (Prod.snd (Prod.snd (Prod.snd (Prod.snd (Prod.snd (c505_e_1 ta tn tc ts tp at1 by1))))) == 19) then (some (.inr (true))) else (some (.inr (false))))) else (none))) else (none)) else (none))))
def Te505 (test : TT) (Kst : KS) (Kret : KR) (ta tn tc ts tp at1 by1 : Int) : Prop := test (true) (test (true) (test (true) (test (S.evE ta tn tc ts tp != 0) (test (true) (test (true) (Kret (PV.tf true) ([[]]) (4)) (Kret (PV.tf false) ([[]]) (4))) (False)) (test (true) (test ((S.encS ta tn tc ts tp).2 != 0) (Kret (PV.tf false) ([[]]) (4)) (test ((↑(ByteArray.size (S.encS ta tn tc ts tp).1) : Int) != 20) (Kret (PV.tf false) ([[]]) (4)) (test (false) (False) (test (decide ((0 : Int) ≤ Int.tmod at1 (20 : Int) ∧ Int.tmod at1 (20 : Int) < (↑(ByteArray.size (S.encS ta tn tc ts tp).1) : Int))) (test (decide (Int.toNat (Int.tmod at1 (20 : Int)) < ByteArray.size (S.encS ta tn tc ts tp).1)) (test (lim .u8 (keys (S.encS ta tn tc ts tp).1 (Int.toNat (Int.tmod at1 (20 : Int))) + by1)) (test (decide ((0 : Int) ≤ Int.tmod at1 (20 : Int) ∧ Int.tmod at1 (20 : Int) < (↑(ByteArray.size (S.encS ta tn tc ts tp).1) : Int))) (test (decide (Int.toNat (Int.tmod at1 (20 : Int)) < ByteArray.size (S.encS ta tn tc ts tp).1)) (test (decide (0 + ByteArray.size (S.encS ta tn tc ts tp).1 ≤ ByteArray.size (S.encS ta tn tc ts tp).1)) (test (true) (test (by1 == 0) (test ((c505_e_0 ta tn tc ts tp at1 by1).2.2.2.2.2 == 0) (test (c505_e_3 ta tn tc ts tp at1 by1) (Kret (PV.tf true) ([[]]) (7)) (Kret (PV.tf false) ([[]]) (7))) (Kret (PV.tf false) ([[]]) (7))) (test ((c505_e_0 ta tn tc ts tp at1 by1).2.2.2.2.2 == 19) (Kret (PV.tf true) ([[]]) (7)) (Kret (PV.tf false) ([[]]) (7)))) (False)) (False)) (False)) (False)) (test (decide ((0 : Int) ≤ Int.tmod at1 (20 : Int) ∧ Int.tmod at1 (20 : Int) < (↑(ByteArray.size (S.encS ta tn tc ts tp).1) : Int))) (test (decide (Int.toNat (Int.tmod at1 (20 : Int)) < ByteArray.size (S.encS ta tn tc ts tp).1)) (test (decide (0 + ByteArray.size (S.encS ta tn tc ts tp).1 ≤ ByteArray.size (S.encS ta tn tc ts tp).1)) (test (true) (test (by1 == 0) (test ((c505_e_1 ta tn tc ts tp at1 by1).2.2.2.2.2 == 0) (test (c505_e_2 ta tn tc ts tp at1 by1) (Kret (PV.tf true) ([[]]) (7)) (Kret (PV.tf false) ([[]]) (7))) (Kret (PV.tf false) ([[]]) (7))) (test ((c505_e_1 ta tn tc ts tp at1 by1).2.2.2.2.2 == 19) (Kret (PV.tf true) ([[]]) (7)) (Kret (PV.tf false) ([[]]) (7)))) (False)) (False)) (False)) (False))) (False)) (False))))) (False))) (False)) (test (true) (test (true) (Kret (PV.tf true) ([[]]) (3)) (Kret (PV.tf false) ([[]]) (3))) (False))) (False)
theorem te505 (test : TT) (Kst : KS) (Kret : KR) (ta tn tc ts tp at1 by1 : Int) : run test Try.env false (xG test) true 400 ⟨5, [.cd (mkFn Try.f5).body], argT 0 [.agg [.int .i64 ta, .int .i64 tn, .int .i64 tc, .int .i64 ts, .int .i64 tp], .int .u8 at1, .int .u8 by1], [[], []], 0⟩ (proj 0 [] Kst Kret) =
  Te505 test Kst Kret ta tn tc ts tp at1 by1 := by kernel_rfl
attribute [local irreducible] Int.subNatNat S.getS S.ckS S.evE S.encS S.decS in
theorem be505 (ta tn tc ts tp at1 by1 : Int) (Kst : KS) (Kret : KR) (x : St505 ⊕ Rt505) (hS : HS 0 400 ((I505 ta tn tc ts tp at1 by1)) Kst x) (hR : HR 0 400 ((V505 ta tn tc ts tp at1 by1)) (fun r => [newL (0 + 1) ((N505 ta tn tc ts tp at1 by1) r) ++ []]) Kret x) (h : p505 ta tn tc ts tp at1 by1 = some x) : Te505 cond Kst Kret ta tn tc ts tp at1 by1 := by
  unfold Te505
  unfold p505 at h
  refine cond_yes rfl (cond_yes rfl (cond_yes rfl (bif_split h (fun c0 h => cond_yes rfl (cond_yes rfl (ret_at hR _ h (fun n => n) rfl rfl rfl (rn_bool_tf rfl) rfl entl_nil))) (fun c0 h => cond_yes rfl (bif_split h (fun c1 h => ?_) (fun c1 h => bif_split h (fun c2 h => ?_) (fun c2 h => cond_no rfl (bif_split h (fun c3 h => bif_split h (fun c4 h => bif_split h (fun c5 h => cond_yes c3 (cond_yes c4 (bif_split h (fun c6 h => cond_yes rfl (bif_split h (fun c7 h => bif_split h (fun c8 h => bif_split h (fun c9 h => ?_) (fun c9 h => ?_)) (fun c8 h => ?_)) (fun c7 h => bif_split h (fun c8 h => ?_) (fun c8 h => ?_)))) (fun c6 h => ?_)))) (fun c5 h => cond_yes c3 (cond_yes c4 (bif_split h (fun c6 h => cond_yes rfl (bif_split h (fun c7 h => bif_split h (fun c8 h => bif_split h (fun c9 h => ?_) (fun c9 h => ?_)) (fun c8 h => ?_)) (fun c7 h => bif_split h (fun c8 h => ?_) (fun c8 h => ?_)))) (fun c6 h => ?_))))) (fun c4 h => ?_)) (fun c3 h => ?_)))))))))
  all_goals first
    | exact ret_at hR _ h (fun n => n) rfl rfl rfl (rn_bool_tf rfl) rfl entl_nil
    | exact no_some h
theorem a505 (ta tn tc ts tp at1 by1 : Int) {r : Rt505} (h : Goes ((q505 ta tn tc ts tp at1 by1)) ((p505 ta tn tc ts tp at1 by1)) r) : CallR Try.prog 5 [.agg [.int .i64 ta, .int .i64 tn, .int .i64 tc, .int .i64 ts, .int .i64 tp], .int .u8 at1, .int .u8 by1] [[]] 0 ((V505 ta tn tc ts tp at1 by1) r) ((fun r => [newL (0 + 1) ((N505 ta tn tc ts tp at1 by1) r) ++ []]) r) 400 ∧ ∃ F, Try.prog.funcs[5]? = some F ∧ F.body.isSome = true ∧ (F.name == "runtime.NumGoroutine") = false := by
  refine dec_calls (sy := false) (f := 5) (lo := 0) (hi := 400) (H := [[]]) (args := [.agg [.int .i64 ta, .int .i64 tn, .int .i64 tc, .int .i64 ts, .int .i64 tp], .int .u8 at1, .int .u8 by1]) Try.envOk Try.mixed xG_ok ((I505 ta tn tc ts tp at1 by1)) ((V505 ta tn tc ts tp at1 by1)) (fun r => [newL (0 + 1) ((N505 ta tn tc ts tp at1 by1) r) ++ []]) (fn := mkFn Try.f5) (ts := []) (n := 400) rfl (by decide) (by simp) (names_of rfl) ?_ ?_ ?_ h
  · intro s; exact s.elim
  · intro Kst Kret x hS hR h
    exact Holds.eq (te505 cond Kst Kret ta tn tc ts tp at1 by1) (be505 ta tn tc ts tp at1 by1 Kst Kret x hS hR h)
  · intro Kst Kret x hS hR s h; exact s.elim
noncomputable abbrev w505 {α : Type} (g : Int → Int → Int → Int → Int → Int → Int → α) (x : (Int × Int × Int × Int × Int × Unit) × Int × Int × Unit) : α := g x.1.1 x.1.2.1 x.1.2.2.1 x.1.2.2.2.1 x.1.2.2.2.2.1 x.2.1 x.2.2.1
noncomputable def k505  : Con := ⟨5, [.agg [.plain (.int .i64), .plain (.int .i64), .plain (.int .i64), .plain (.int .i64), .plain (.int .i64)], .one (.plain (.int .u8)), .one (.plain (.int .u8))], w505 (fun ta tn tc ts tp at1 by1 => decide ((0 ≤ at1 ∧ at1 ≤ 255) ∧ 0 ≤ by1 ∧ by1 ≤ 255)), w505 (fun ta tn tc ts tp at1 by1 => (V505 ta tn tc ts tp at1 by1) (true)), w505 (fun ta tn tc ts tp at1 by1 => (N505 ta tn tc ts tp at1 by1) (true)), fun _ _ => .dead⟩
theorem bqt  {α : Type} {x y : α} {n : Nat} : (bif Nat.beq n n then x else y) = x := by rw [Nat.beq_refl]; rfl
theorem bqf  {α : Type} {x y : α} {n m : Nat} (h : n ≠ m) : (bif Nat.beq n m then x else y) = y := by
  have : Nat.beq n m = false := by
    cases e : Nat.beq n m
    · rfl
    · exact absurd (Nat.eq_of_beq_eq_true e) h
  rw [this]; rfl
theorem s505 (ta tn tc ts tp at1 by1 : Int) (hp : (0 ≤ at1 ∧ at1 ≤ 255) ∧ 0 ≤ by1 ∧ by1 ≤ 255) : Goes ((q505 ta tn tc ts tp at1 by1)) ((p505 ta tn tc ts tp at1 by1)) (true) := by
  obtain ⟨⟨ha1, ha2⟩, hb1, hb2⟩ := hp
  by_cases h0 : S.evE ta tn tc ts tp = 0
  · obtain ⟨hD, h2⟩ := dec_enc h0
    have hz := encS_size h0
    have hi1 := Int.tmod_nonneg 20 ha1
    have hi2 := Int.tmod_lt_of_pos at1 (b := 20) (by decide)
    have hI : (Int.toNat (Int.tmod at1 (20 : Int))) < 20 := by omega
    have h0' : (S.evE ta tn tc ts tp != 0) = false := by rw [h0]; rfl
    unfold p505
    simp only [-eq_self, c505_e_0, c505_e_1, c505_e_2, c505_e_3]
    generalize hu : (S.encS ta tn tc ts tp).1 = u at *
    have e2 : (S.encS ta tn tc ts tp).2 = 0 := h2
    simp only [hz, e2]
    have kb := key_b u (Int.toNat (Int.tmod at1 (20 : Int)))
    have hmin : IntKind.u8.min = 0 := rfl
    have hmax : IntKind.u8.max = 255 := rfl
    refine goes_no h0' ?_
    refine goes_no rfl ?_
    refine goes_no rfl ?_
    refine goes_ok (decide_eq_true (by omega)) ?_
    refine goes_ok (decide_eq_true (by omega)) ?_
    have hB : by1 = 0 → ∀ F : Nat → Int, F (Int.toNat (Int.tmod at1 (20 : Int))) = keys u (Int.toNat (Int.tmod at1 (20 : Int))) + by1 → (∀ j, j ≠ (Int.toNat (Int.tmod at1 (20 : Int))) → F j = keys u j) → S.decS (S.ofB F 20) = (ta, tn, tc, ts, tp, 0) := fun hb F h1 h2 => by
      rw [unspoil hz fun j hj => by
        by_cases e : j = (Int.toNat (Int.tmod at1 (20 : Int)))
        · rw [e, h1, hb, Int.add_zero]
        · exact h2 j e]
      exact hD
    have hS : ∀ c, (0 ≤ c ∧ c ≤ 255) → c ≠ keys u (Int.toNat (Int.tmod at1 (20 : Int))) → ∀ F : Nat → Int, F (Int.toNat (Int.tmod at1 (20 : Int))) = c → (∀ j, j ≠ (Int.toNat (Int.tmod at1 (20 : Int))) → F j = keys u j) → S.decS (S.ofB F 20) = (0, 0, 0, 0, 0, 19) := fun c hc hne F h1 h2 => spoil hz (by rw [hD]) hI hc hne h1 h2
    by_cases hw : keys u (Int.toNat (Int.tmod at1 (20 : Int))) + by1 ≤ 255
    · refine goes_ok (by rw [show lim .u8 (keys u (Int.toNat (Int.tmod at1 (20 : Int))) + by1) = true from decide_eq_true (by omega)]) ?_
      refine goes_ok (decide_eq_true (by omega)) ?_
      by_cases hb : by1 = 0
      · have hx := hB hb (fun j => bif Nat.beq j (Int.toNat (Int.tmod at1 (20 : Int))) then keys u (Int.toNat (Int.tmod at1 (20 : Int))) + by1 else keys u j) bqt (fun j hj => bqf hj)
        simp only [hx]
        refine goes_ok (by rw [hb]; rfl) ?_
        refine goes_ok rfl ?_
        refine goes_ok (by simp) ?_
        exact goes_inr.mpr rfl
      · have hx := hS _ (by omega) (by omega) (fun j => bif Nat.beq j (Int.toNat (Int.tmod at1 (20 : Int))) then keys u (Int.toNat (Int.tmod at1 (20 : Int))) + by1 else keys u j) bqt (fun j hj => bqf hj)
        simp only [hx]
        refine goes_no (by simpa using hb) ?_
        refine goes_ok rfl ?_
        exact goes_inr.mpr rfl
    · refine goes_no (by rw [show lim .u8 (keys u (Int.toNat (Int.tmod at1 (20 : Int))) + by1) = false from decide_eq_false (by omega)]) ?_
      refine goes_ok (decide_eq_true (by omega)) ?_
      have hwr : S.wrapI IntKind.u8 (keys u (Int.toNat (Int.tmod at1 (20 : Int))) + by1) = keys u (Int.toNat (Int.tmod at1 (20 : Int))) + by1 - 256 := by
        show IntKind.u8.wrap _ = _
        rw [wr8]; omega
      have hb : by1 ≠ 0 := by omega
      have hx := hS _ (by rw [hwr]; omega) (by rw [hwr]; omega) (fun j => bif Nat.beq j (Int.toNat (Int.tmod at1 (20 : Int))) then S.wrapI IntKind.u8 (keys u (Int.toNat (Int.tmod at1 (20 : Int))) + by1) else keys u j) bqt (fun j hj => bqf hj)
      simp only [hx]
      refine goes_no (by simpa using hb) ?_
      refine goes_ok rfl ?_
      exact goes_inr.mpr rfl
  · unfold p505
    exact goes_ok (by simpa using h0) (goes_inr.mpr rfl)
theorem k505_ok  : k505.ok Try.prog := by
  intro x hx
  obtain ⟨⟨ta, tn, tc, ts, tp, _⟩, at1, by1, _⟩ := x
  obtain ⟨h1, h2⟩ := a505 ta tn tc ts tp at1 by1 (s505 ta tn tc ts tp at1 by1 (of_dec hx rfl))
  exact ⟨⟨400, (by decide : 0 + 1 + 0 ≤ 400), h1⟩, h2⟩
theorem u8_mk  {z : Int} (h : Kd.fits (.int .u8) z) : 0 ≤ z ∧ z ≤ 255 := by
  have h : IntKind.u8.min ≤ z ∧ z ≤ IntKind.u8.max := h
  have hmin : IntKind.u8.min = 0 := rfl
  have hmax : IntKind.u8.max = 255 := rfl
  omega
theorem pre505  {x : SsI k505.ss} (hx : ssFits k505.ss x) : k505.pre (ssj k505.ss x) = true := by
  obtain ⟨c, a, b', u⟩ := x
  obtain ⟨-, h1, h2, -⟩ := hx
  exact decide_eq_true ⟨u8_mk h1, u8_mk h2⟩
end Go.Ev
