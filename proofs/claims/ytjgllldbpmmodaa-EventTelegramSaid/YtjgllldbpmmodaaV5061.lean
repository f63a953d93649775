/-
  The parts that the statement needs, 1 of 2.
-/
import Derived.Test.YtjgllldbpmmodaaEnv
import Derived.Test.YtjgllldbpmmodaaEvSc
import Derived.Test.YtjgllldbpmmodaaEvY
import Derived.Test.YtjgllldbpmmodaaKit
import Derived.Test.YtjgllldbpmmodaaSl
namespace Go.Ev
open Go.Proofs
open Go.RowKit Go.Shelf Go.Sort
set_option linter.unusedVariables false
set_option linter.unusedSimpArgs false
set_option maxRecDepth 100000
theorem SH : type_of% (And.intro @lim64 (And.intro @imp_false (And.intro @decide_eq_true_eq (And.intro @decide_eq_false_iff_not (And.intro @Int.toNat_natCast (And.intro @toNat_pred (And.intro @toNat_succ (And.intro @Option.getD_some.{0} (And.intro @Option.getD_none.{0} (And.intro @Bool.not_eq_true' (And.intro @Bool.not_eq_false' (And.intro @Bool.and_eq_true (And.intro @Bool.or_eq_true (And.intro @Bool.and_eq_false_iff (And.intro @Bool.or_eq_false_iff (And.intro @bne_iff_ne.{0} (And.intro @beq_iff_eq.{0} (And.intro @bne_eq_false_iff_eq.{0} (And.intro @beq_eq_false_iff_ne.{0} (And.intro @ne_eq.{1} (And.intro @not_and (And.intro @Int.not_le (And.intro @Int.not_lt (And.intro @ge_iff_le.{0} (And.intro @gt_iff_lt.{0} (And.intro @Nat.not_lt (And.intro @Nat.not_le (And.intro @Bool.not_eq_true (And.intro @Bool.not_eq_false (And.intro @Bool.true_eq_false (And.intro @Bool.false_eq_true (And.intro @not_false_eq_true @not_true_eq_false)))))))))))))))))))))))))))))))) :=
  (And.intro @lim64 (And.intro @imp_false (And.intro @decide_eq_true_eq (And.intro @decide_eq_false_iff_not (And.intro @Int.toNat_natCast (And.intro @toNat_pred (And.intro @toNat_succ (And.intro @Option.getD_some.{0} (And.intro @Option.getD_none.{0} (And.intro @Bool.not_eq_true' (And.intro @Bool.not_eq_false' (And.intro @Bool.and_eq_true (And.intro @Bool.or_eq_true (And.intro @Bool.and_eq_false_iff (And.intro @Bool.or_eq_false_iff (And.intro @bne_iff_ne.{0} (And.intro @beq_iff_eq.{0} (And.intro @bne_eq_false_iff_eq.{0} (And.intro @beq_eq_false_iff_ne.{0} (And.intro @ne_eq.{1} (And.intro @not_and (And.intro @Int.not_le (And.intro @Int.not_lt (And.intro @ge_iff_le.{0} (And.intro @gt_iff_lt.{0} (And.intro @Nat.not_lt (And.intro @Nat.not_le (And.intro @Bool.not_eq_true (And.intro @Bool.not_eq_false (And.intro @Bool.true_eq_false (And.intro @Bool.false_eq_true (And.intro @not_false_eq_true @not_true_eq_false))))))))))))))))))))))))))))))))
abbrev FS (t : Nat → Int) (a : Nat) : Nat → Int := fun j => t (j + a)
abbrev CB (m : Nat) (t : Nat → Int) : Blk := .cols m [.int .i64 t]
abbrev CI (L : List Int) : Blk := .cols L.length [.int .i64 fun j => S.at' L j]
abbrev HB (P : Program) (f : Nat) : Prop := ∃ F, P.funcs[f]? = some F ∧ F.body.isSome = true ∧ (F.name == "runtime.NumGoroutine") = false
abbrev TT := Bool → Prop → Prop → Prop
abbrev NI := Nat → Int
namespace S
def idx (p : Nat → Bool) : Nat → Nat → Int
  | _, 0 => -1
  | i, k + 1 => if p i = true then i else idx p (i + 1) k
def any (p : Nat → Bool) (n : Nat) : Bool := (List.range n).any p
end S
theorem any_iff  {p : Nat → Bool} {n : Nat} : S.any p n = true ↔ ∃ j, j < n ∧ p j = true := by simp [S.any]
theorem idx_ge  {p : Nat → Bool} : ∀ {k i : Nat}, S.idx p i k = -1 ∨ ((i : Int) ≤ S.idx p i k ∧ S.idx p i k < i + k)
  | 0, i => .inl rfl
  | k + 1, i => by
    simp only [S.idx]
    split
    · exact .inr ⟨by omega, by omega⟩
    · rcases idx_ge (p := p) (k := k) (i := i + 1) with h | h
      · exact .inl h
      · exact .inr ⟨by omega, by omega⟩
theorem idx_no  {p : Nat → Bool} : ∀ {k i : Nat}, S.idx p i k = -1 ↔ ∀ j, i ≤ j → j < i + k → p j = false
  | 0, i => ⟨fun _ j h1 h2 => by omega, fun _ => rfl⟩
  | k + 1, i => by
    simp only [S.idx]
    split
    · rename_i h
      exact ⟨fun e => by omega, fun e => by rw [e i (Nat.le_refl _) (by omega)] at h; cases h⟩
    · rename_i h
      rw [idx_no]
      constructor
      · intro e j h1 h2
        by_cases hj : j = i
        · subst hj; simpa using h
        · exact e j (by omega) (by omega)
      · exact fun e j h1 h2 => e j (by omega) (by omega)
theorem idx_any  {p : Nat → Bool} {n : Nat} : decide (S.idx p 0 n ≥ 0) = S.any p n := by
  rw [Bool.eq_iff_iff, decide_eq_true_eq, any_iff]
  constructor
  · intro h
    by_cases hn : S.idx p 0 n = -1
    · omega
    · rw [idx_no] at hn
      simp only [Classical.not_forall] at hn
      obtain ⟨j, _, h2, h3⟩ := hn
      exact ⟨j, by omega, by simpa using h3⟩
  · rintro ⟨j, h1, h2⟩
    rcases idx_ge (p := p) (k := n) (i := 0) with h | h
    · rw [idx_no] at h
      rw [h j (by omega) (by omega)] at h2; cases h2
    · omega
namespace S
def all (p : Nat → Bool) (n : Nat) : Bool := (List.range n).all p
end S
theorem all_iff  {p : Nat → Bool} {n : Nat} : S.all p n = true ↔ ∀ j, j < n → p j = true := by simp [S.all]
theorem all_no  {p : Nat → Bool} {n i : Nat} (hi : i < n) (h : p i = false) : ¬ S.all p n = true := fun e => by rw [all_iff.mp e i hi] at h; cases h
namespace S
def evB (a n c s p : Int) : Bool := decide ((0 ≤ a ∧ a ≤ 1099511627776) ∧ (1 ≤ n ∧ n ≤ 999) ∧ (0 ≤ c ∧ c ≤ 1048576) ∧ (0 ≤ s ∧ s ≤ 99) ∧ -1099511627776 ≤ p ∧ p ≤ 1099511627776)
def evE (a n c s p : Int) : Int := if evB a n c s p = true then 0 else 6
def cmpN (a b : Int) : Int := if a < b then -1 else if a > b then 1 else 0
def or0 (a b : Int) : Int := if a = 0 then b else a
def ecmp (a n c s p a' n' c' s' p' : Int) : Int := or0 (cmpN a a') (or0 (cmpN s s') (or0 (cmpN n n') (or0 (cmpN c c') (cmpN p p'))))
end S
abbrev St40  := Empty
abbrev Rt40  := Int
noncomputable def V40 (u v : Int) (r : Rt40) : PV := PV.int .i64 r
noncomputable def N40 (u v : Int) (r : Rt40) : List Blk := []
noncomputable def I40 (u v : Int) : St40 → Hd := fun s => s.elim
noncomputable def q40 (u v : Int) : St40 → Option (St40 ⊕ Rt40) := fun s => s.elim
noncomputable def p40 (u v : Int) : Option (St40 ⊕ Rt40) := bif (u != u) then (bif (v != v) then (some (.inr ((0 : Int)))) else (some (.inr ((-1 : Int))))) else (bif (v != v) then (some (.inr ((1 : Int)))) else (bif (decide (u < v)) then (some (.inr ((-1 : Int)))) else (bif (decide (u > v)) then (some (.inr ((1 : Int)))) else (some (.inr ((0 : Int)))))))
def Te40 (test : TT) (Kst : KS) (Kret : KR) (u v : Int) : Prop := test (u != u) (test (v != v) (Kret (PV.int .i64 (0 : Int)) ([[]]) (0)) (Kret (PV.int .i64 (-1 : Int)) ([[]]) (0))) (test (v != v) (Kret (PV.int .i64 (1 : Int)) ([[]]) (0)) (test (decide (u < v)) (Kret (PV.int .i64 (-1 : Int)) ([[]]) (0)) (test (decide (u > v)) (Kret (PV.int .i64 (1 : Int)) ([[]]) (0)) (Kret (PV.int .i64 (0 : Int)) ([[]]) (0)))))
theorem te40 (test : TT) (Kst : KS) (Kret : KR) (u v : Int) : run test Try.env true noX true 400 ⟨47, [.cd (mkFn Try.f47).body], argT 0 [.int .i64 u, .int .i64 v], [[], []], 0⟩ (proj 0 [] Kst Kret) =
  Te40 test Kst Kret u v := by kernel_rfl
attribute [local irreducible] Int.subNatNat in
theorem be40 (u v : Int) (Kst : KS) (Kret : KR) (x : St40 ⊕ Rt40) (hS : HS 0 400 ((I40 u v)) Kst x) (hR : HR 0 400 ((V40 u v)) (fun r => [newL (0 + 1) ((N40 u v) r) ++ []]) Kret x) (h : p40 u v = some x) : Te40 cond Kst Kret u v := by
  unfold Te40
  unfold p40 at h
  refine bif_split h (fun c0 h => bif_split h (fun c1 h => ?_) (fun c1 h => ?_)) (fun c0 h => bif_split h (fun c1 h => ?_) (fun c1 h => bif_split h (fun c2 h => ?_) (fun c2 h => bif_split h (fun c3 h => ?_) (fun c3 h => ?_))))
  all_goals first
    | exact ret_at hR _ h (fun n => n) rfl rfl rfl (rn_int rfl) rfl entl_nil
theorem a40 (u v : Int) {r : Rt40} (h : Goes ((q40 u v)) ((p40 u v)) r) : CallR Try.prog 47 [.int .i64 u, .int .i64 v] [[]] 0 ((V40 u v) r) ((fun r => [newL (0 + 1) ((N40 u v) r) ++ []]) r) 400 ∧ ∃ F, Try.prog.funcs[47]? = some F ∧ F.body.isSome = true ∧ (F.name == "runtime.NumGoroutine") = false := by
  refine dec_calls (sy := true) (f := 47) (lo := 0) (hi := 400) (H := [[]]) (args := [.int .i64 u, .int .i64 v]) Try.envOk Try.mixed noX_ok ((I40 u v)) ((V40 u v)) (fun r => [newL (0 + 1) ((N40 u v) r) ++ []]) (fn := mkFn Try.f47) (ts := []) (n := 400) rfl (by decide) (by simp) (names_of rfl) ?_ ?_ ?_ h
  · intro s; exact s.elim
  · intro Kst Kret x hS hR h
    exact Holds.eq (te40 cond Kst Kret u v) (be40 u v Kst Kret x hS hR h)
  · intro Kst Kret x hS hR s h; exact s.elim
noncomputable abbrev w40 {α : Type} (g : Int → Int → α) (x : Int × Int × Unit) : α := g x.1 x.2.1
noncomputable def k40  : Con := ⟨47, [.one (.plain (.int .i64)), .one (.plain (.int .i64))], w40 (fun u v => decide (True)), w40 (fun u v => (V40 u v) (S.cmpN u v)), w40 (fun u v => (N40 u v) (S.cmpN u v)), fun _ _ => .dead⟩
theorem s40 (u v : Int) (hp : True) : Goes ((q40 u v)) ((p40 u v)) (S.cmpN u v) := by
  unfold S.cmpN
  show Goes _ _ _
  unfold p40
  repeat' (first | with_reducible refine goes_if (fun h => ?_) (fun h => ?_) <;> (try simp only [SH] at h) | exact goes_none.mpr (by omega))
  all_goals first
    | (exfalso; omega)
    | (refine goes_inr.mpr ?_; (repeat' split) <;> first | rfl | (exfalso; omega))
theorem k40_ok  : k40.ok Try.prog := by
  intro x hx
  obtain ⟨u, v, _⟩ := x
  obtain ⟨h1, h2⟩ := a40 u v (s40 u v (of_dec hx rfl))
  exact ⟨⟨400, (by decide : 0 + 1 + 0 ≤ 400), h1⟩, h2⟩
abbrev St14  := Empty
abbrev Rt14  := Int
noncomputable def V14 (ta tn tc ts tp : Int) (r : Rt14) : PV := PV.int .i64 r
noncomputable def N14 (ta tn tc ts tp : Int) (r : Rt14) : List Blk := []
noncomputable def I14 (ta tn tc ts tp : Int) : St14 → Hd := fun s => s.elim
noncomputable def q14 (ta tn tc ts tp : Int) : St14 → Option (St14 ⊕ Rt14) := fun s => s.elim
noncomputable def p14 (ta tn tc ts tp : Int) : Option (St14 ⊕ Rt14) := bif (decide (ta ≥ 0)) then (bif (decide (ta ≤ 1099511627776)) then (bif (decide (tn ≥ 1)) then (bif (decide (tn ≤ 999)) then (bif (decide (tc ≥ 0)) then (bif (decide (tc ≤ 1048576)) then (bif (decide (ts ≥ 0)) then (bif (decide (ts ≤ 99)) then (bif (decide (tp ≥ -1099511627776)) then (bif (decide (tp ≤ 1099511627776)) then (some (.inr ((0 : Int)))) else (some (.inr ((6 : Int))))) else (some (.inr ((6 : Int))))) else (some (.inr ((6 : Int))))) else (some (.inr ((6 : Int))))) else (some (.inr ((6 : Int))))) else (some (.inr ((6 : Int))))) else (some (.inr ((6 : Int))))) else (some (.inr ((6 : Int))))) else (some (.inr ((6 : Int))))) else (some (.inr ((6 : Int))))
def Te14 (test : TT) (Kst : KS) (Kret : KR) (ta tn tc ts tp : Int) : Prop := test (decide (ta ≥ 0)) (test (decide (ta ≤ 1099511627776)) (test (decide (tn ≥ 1)) (test (decide (tn ≤ 999)) (test (decide (tc ≥ 0)) (test (decide (tc ≤ 1048576)) (test (decide (ts ≥ 0)) (test (decide (ts ≤ 99)) (test (decide (tp ≥ -1099511627776)) (test (decide (tp ≤ 1099511627776)) (Kret (PV.int .i64 (0 : Int)) ([[]]) (1)) (Kret (PV.int .i64 (6 : Int)) ([[]]) (1))) (Kret (PV.int .i64 (6 : Int)) ([[]]) (1))) (Kret (PV.int .i64 (6 : Int)) ([[]]) (1))) (Kret (PV.int .i64 (6 : Int)) ([[]]) (1))) (Kret (PV.int .i64 (6 : Int)) ([[]]) (1))) (Kret (PV.int .i64 (6 : Int)) ([[]]) (1))) (Kret (PV.int .i64 (6 : Int)) ([[]]) (1))) (Kret (PV.int .i64 (6 : Int)) ([[]]) (1))) (Kret (PV.int .i64 (6 : Int)) ([[]]) (1))) (Kret (PV.int .i64 (6 : Int)) ([[]]) (1))
theorem te14 (test : TT) (Kst : KS) (Kret : KR) (ta tn tc ts tp : Int) : run test Try.env true noX true 400 ⟨36, [.cd (mkFn Try.f36).body], argT 0 [.agg [.int .i64 ta, .int .i64 tn, .int .i64 tc, .int .i64 ts, .int .i64 tp]], [[], []], 0⟩ (proj 0 [] Kst Kret) =
  Te14 test Kst Kret ta tn tc ts tp := by kernel_rfl
attribute [local irreducible] Int.subNatNat in
theorem be14 (ta tn tc ts tp : Int) (Kst : KS) (Kret : KR) (x : St14 ⊕ Rt14) (hS : HS 0 400 ((I14 ta tn tc ts tp)) Kst x) (hR : HR 0 400 ((V14 ta tn tc ts tp)) (fun r => [newL (0 + 1) ((N14 ta tn tc ts tp) r) ++ []]) Kret x) (h : p14 ta tn tc ts tp = some x) : Te14 cond Kst Kret ta tn tc ts tp := by
  unfold Te14
  unfold p14 at h
  refine bif_split h (fun c0 h => bif_split h (fun c1 h => bif_split h (fun c2 h => bif_split h (fun c3 h => bif_split h (fun c4 h => bif_split h (fun c5 h => bif_split h (fun c6 h => bif_split h (fun c7 h => bif_split h (fun c8 h => bif_split h (fun c9 h => ?_) (fun c9 h => ?_)) (fun c8 h => ?_)) (fun c7 h => ?_)) (fun c6 h => ?_)) (fun c5 h => ?_)) (fun c4 h => ?_)) (fun c3 h => ?_)) (fun c2 h => ?_)) (fun c1 h => ?_)) (fun c0 h => ?_)
  all_goals first
    | exact ret_at hR _ h (fun n => n) rfl rfl rfl (rn_int rfl) rfl entl_nil
theorem a14 (ta tn tc ts tp : Int) {r : Rt14} (h : Goes ((q14 ta tn tc ts tp)) ((p14 ta tn tc ts tp)) r) : CallR Try.prog 36 [.agg [.int .i64 ta, .int .i64 tn, .int .i64 tc, .int .i64 ts, .int .i64 tp]] [[]] 0 ((V14 ta tn tc ts tp) r) ((fun r => [newL (0 + 1) ((N14 ta tn tc ts tp) r) ++ []]) r) 400 ∧ ∃ F, Try.prog.funcs[36]? = some F ∧ F.body.isSome = true ∧ (F.name == "runtime.NumGoroutine") = false := by
  refine dec_calls (sy := true) (f := 36) (lo := 0) (hi := 400) (H := [[]]) (args := [.agg [.int .i64 ta, .int .i64 tn, .int .i64 tc, .int .i64 ts, .int .i64 tp]]) Try.envOk Try.mixed noX_ok ((I14 ta tn tc ts tp)) ((V14 ta tn tc ts tp)) (fun r => [newL (0 + 1) ((N14 ta tn tc ts tp) r) ++ []]) (fn := mkFn Try.f36) (ts := []) (n := 400) rfl (by decide) (by simp) (names_of rfl) ?_ ?_ ?_ h
  · intro s; exact s.elim
  · intro Kst Kret x hS hR h
    exact Holds.eq (te14 cond Kst Kret ta tn tc ts tp) (be14 ta tn tc ts tp Kst Kret x hS hR h)
  · intro Kst Kret x hS hR s h; exact s.elim
noncomputable abbrev w14 {α : Type} (g : Int → Int → Int → Int → Int → α) (x : (Int × Int × Int × Int × Int × Unit) × Unit) : α := g x.1.1 x.1.2.1 x.1.2.2.1 x.1.2.2.2.1 x.1.2.2.2.2.1
noncomputable def k14  : Con := ⟨36, [.agg [.plain (.int .i64), .plain (.int .i64), .plain (.int .i64), .plain (.int .i64), .plain (.int .i64)]], w14 (fun ta tn tc ts tp => decide (True)), w14 (fun ta tn tc ts tp => (V14 ta tn tc ts tp) (S.evE ta tn tc ts tp)), w14 (fun ta tn tc ts tp => (N14 ta tn tc ts tp) (S.evE ta tn tc ts tp)), fun _ _ => .dead⟩
theorem s14 (ta tn tc ts tp : Int) (hp : True) : Goes ((q14 ta tn tc ts tp)) ((p14 ta tn tc ts tp)) (S.evE ta tn tc ts tp) := by
  unfold S.evE S.evB
  simp only [decide_eq_true_eq]
  show Goes _ _ _
  unfold p14
  repeat' (first | with_reducible refine goes_if (fun h => ?_) (fun h => ?_) <;> (try simp only [SH] at h) | exact goes_none.mpr (by omega))
  all_goals first
    | (exfalso; omega)
    | (rw [if_pos (by omega)]; exact goes_inr.mpr rfl)
    | (rw [if_neg (by omega)]; exact goes_inr.mpr rfl)
theorem k14_ok  : k14.ok Try.prog := by
  intro x hx
  obtain ⟨⟨ta, tn, tc, ts, tp, _⟩, _⟩ := x
  obtain ⟨h1, h2⟩ := a14 ta tn tc ts tp (s14 ta tn tc ts tp (of_dec hx rfl))
  exact ⟨⟨400, (by decide : 0 + 1 + 0 ≤ 400), h1⟩, h2⟩
noncomputable def xA0 (test : Bool → Prop → Prop → Prop) : Ext := consX test [k40, k14]
theorem xA0_ok  : ExtOk Try.prog (xA0 cond) := consX_ok ⟨k40_ok, k14_ok, trivial⟩
namespace S
def runN (p : Nat → Bool) : Nat → Nat → Nat
  | _, 0 => 0
  | i, k + 1 => if p i = true then runN p (i + 1) k + 1 else 0
def lowB (c : Int) : Bool := decide (97 ≤ c ∧ c ≤ 122)
def namB (c : Int) : Bool := decide ((97 ≤ c ∧ c ≤ 122) ∨ (48 ≤ c ∧ c ≤ 57) ∨ c = 95)
def isNam (s : ByteArray) : Bool := decide (1 ≤ s.size ∧ s.size ≤ 20) && (lowB (keys s 0) && decide (runN (fun j => namB (keys s j)) 0 s.size = s.size))
end S
theorem runN_le  {p : Nat → Bool} : ∀ {k i : Nat}, S.runN p i k ≤ k
  | 0, _ => Nat.le_refl _
  | k + 1, i => by
    simp only [S.runN]
    split
    · have := runN_le (p := p) (k := k) (i := i + 1); omega
    · omega
theorem runN_all  {p : Nat → Bool} : ∀ {k i : Nat}, S.runN p i k = k ↔ ∀ j, i ≤ j → j < i + k → p j = true
  | 0, i => ⟨fun _ j h1 h2 => by omega, fun _ => rfl⟩
  | k + 1, i => by
    simp only [S.runN]
    have hl := runN_le (p := p) (k := k) (i := i + 1)
    constructor
    · intro h j h1 h2
      split at h
      · rename_i h0
        rcases Nat.lt_or_ge i j with h3 | h3
        · exact (runN_all (k := k) (i := i + 1)).1 (by omega) j h3 (by omega)
        · obtain rfl : j = i := by omega
          exact h0
      · omega
    · intro h
      rw [if_pos (h i (Nat.le_refl _) (by omega)), (runN_all (k := k) (i := i + 1)).2 fun j h1 h2 => h j (by omega) (by omega)]
theorem size_nil  {s : ByteArray} : (s.toList == []) = decide (s.size = 0) := by
  rw [ByteArray.toList_eq, Bool.eq_iff_iff, beq_iff_eq, decide_eq_true_eq]
  have : s.size = s.data.toList.length := rfl
  rw [this, List.length_eq_zero_iff]
inductive St578 where
  | h0 (x0 : Int)
abbrev Rt578  := Int
noncomputable def V578 (ws : ByteArray) (fr : Int) (r : Rt578) : PV := PV.int .i64 r
noncomputable def N578 (ws : ByteArray) (fr : Int) (r : Rt578) : List Blk := []
noncomputable def I578 (ws : ByteArray) (fr : Int) : St578 → Hd
  | .h0 x0 => ⟨hd Try.f78 0, [PV.str ws, PV.int .i64 fr, PV.fn (Go.Fn.func (79)) [] [],
 PV.int .i64 x0], [[], []], 0⟩
noncomputable def q578 (ws : ByteArray) (fr : Int) : St578 → Option (St578 ⊕ Rt578) | .h0 x0 => bif (lim .i64 (fr + x0)) then (bif (decide (fr + x0 < (↑(ByteArray.size ws) : Int))) then (bif (decide ((0 : Int) ≤ fr + x0 ∧ fr + x0 < (↑(ByteArray.size ws) : Int))) then (bif (decide (keys ws (Int.toNat (fr + x0)) ≥ 97)) then (bif (decide (keys ws (Int.toNat (fr + x0)) ≤ 122)) then (bif (lim .i64 (x0 + 1)) then (some (.inl (.h0 (x0 + 1)))) else (none)) else (bif (decide (keys ws (Int.toNat (fr + x0)) ≥ 48)) then (bif (decide (keys ws (Int.toNat (fr + x0)) ≤ 57)) then (bif (lim .i64 (x0 + 1)) then (some (.inl (.h0 (x0 + 1)))) else (none)) else (bif (keys ws (Int.toNat (fr + x0)) == 95) then (bif (lim .i64 (x0 + 1)) then (some (.inl (.h0 (x0 + 1)))) else (none)) else (some (.inr (x0))))) else (bif (keys ws (Int.toNat (fr + x0)) == 95) then (bif (lim .i64 (x0 + 1)) then (some (.inl (.h0 (x0 + 1)))) else (none)) else (some (.inr (x0)))))) else (bif (decide (keys ws (Int.toNat (fr + x0)) ≥ 48)) then (bif (decide (keys ws (Int.toNat (fr + x0)) ≤ 57)) then (bif (lim .i64 (x0 + 1)) then (some (.inl (.h0 (x0 + 1)))) else (none)) else (bif (keys ws (Int.toNat (fr + x0)) == 95) then (bif (lim .i64 (x0 + 1)) then (some (.inl (.h0 (x0 + 1)))) else (none)) else (some (.inr (x0))))) else (bif (keys ws (Int.toNat (fr + x0)) == 95) then (bif (lim .i64 (x0 + 1)) then (some (.inl (.h0 (x0 + 1)))) else (none)) else (some (.inr (x0)))))) else (none)) else (some (.inr (x0)))) else (none)
noncomputable def p578 (ws : ByteArray) (fr : Int) : Option (St578 ⊕ Rt578) := some (.inl (.h0 ((0 : Int))))
def Te578 (test : TT) (Kst : KS) (Kret : KR) (ws : ByteArray) (fr : Int) : Prop := Kst (hd Try.f78 0) ([PV.str ws, PV.int .i64 fr, PV.fn (Go.Fn.func (79)) [] [], PV.int .i64 (0 : Int)]) ([[]]) (0)
theorem te578 (test : TT) (Kst : KS) (Kret : KR) (ws : ByteArray) (fr : Int) : run test Try.env true noX true 400 ⟨78, [.cd (mkFn Try.f78).body], argT 0 [.str ws, .int .i64 fr, .fn (.func 79) [] []], [[], []], 0⟩ (proj 0 [0, 1, 2, 7] Kst Kret) =
  Te578 test Kst Kret ws fr := by kernel_rfl
noncomputable abbrev u578_0_0 (ws : ByteArray) (fr x0 : Int) := ([PV.str ws, PV.int IntKind.i64 fr, PV.fn (Go.Fn.func (79)) [] [], PV.int IntKind.i64 (x0 + (1 : Int))])
def T578_0 (test : TT) (Kst : KS) (Kret : KR) (ws : ByteArray) (fr x0 : Int) : Prop := test (lim .i64 (fr + x0)) (test (decide (fr + x0 < (↑(ByteArray.size ws) : Int))) (test (lim .i64 (fr + x0)) (test (decide ((0 : Int) ≤ fr + x0 ∧ fr + x0 < (↑(ByteArray.size ws) : Int))) (test (decide (keys ws (Int.toNat (fr + x0)) ≥ 97)) (test (decide (keys ws (Int.toNat (fr + x0)) ≤ 122)) (test (lim .i64 (x0 + 1)) (Kst (hd Try.f78 0) (u578_0_0 ws fr x0) ([[]]) (0)) (False)) (test (decide (keys ws (Int.toNat (fr + x0)) ≥ 48)) (test (decide (keys ws (Int.toNat (fr + x0)) ≤ 57)) (test (lim .i64 (x0 + 1)) (Kst (hd Try.f78 0) (u578_0_0 ws fr x0) ([[]]) (0)) (False)) (test (keys ws (Int.toNat (fr + x0)) == 95) (test (lim .i64 (x0 + 1)) (Kst (hd Try.f78 0) (u578_0_0 ws fr x0) ([[]]) (0)) (False)) (Kret (PV.int .i64 x0) ([[]]) (0)))) (test (keys ws (Int.toNat (fr + x0)) == 95) (test (lim .i64 (x0 + 1)) (Kst (hd Try.f78 0) (u578_0_0 ws fr x0) ([[]]) (0)) (False)) (Kret (PV.int .i64 x0) ([[]]) (0))))) (test (decide (keys ws (Int.toNat (fr + x0)) ≥ 48)) (test (decide (keys ws (Int.toNat (fr + x0)) ≤ 57)) (test (lim .i64 (x0 + 1)) (Kst (hd Try.f78 0) (u578_0_0 ws fr x0) ([[]]) (0)) (False)) (test (keys ws (Int.toNat (fr + x0)) == 95) (test (lim .i64 (x0 + 1)) (Kst (hd Try.f78 0) (u578_0_0 ws fr x0) ([[]]) (0)) (False)) (Kret (PV.int .i64 x0) ([[]]) (0)))) (test (keys ws (Int.toNat (fr + x0)) == 95) (test (lim .i64 (x0 + 1)) (Kst (hd Try.f78 0) (u578_0_0 ws fr x0) ([[]]) (0)) (False)) (Kret (PV.int .i64 x0) ([[]]) (0))))) (False)) (False)) (Kret (PV.int .i64 x0) ([[]]) (0))) (False)
theorem t578_0 (test : TT) (Kst : KS) (Kret : KR) (ws : ByteArray) (fr x0 : Int) : run test Try.env true noX true 400 ⟨78, hd Try.f78 0, zipT [0, 1, 2, 7] [PV.str ws, PV.int .i64 fr, PV.fn (Go.Fn.func (79)) [] [],
 PV.int .i64 x0], [[], []], 0⟩ (proj 0 [0, 1, 2, 7] Kst Kret) =
  T578_0 test Kst Kret ws fr x0 := by kernel_rfl
noncomputable abbrev J578 (ws : ByteArray) (fr : Int) : Rt578 → Heap := fun r => [newL (0 + 1) ((N578 ws fr) r) ++ []]
attribute [local irreducible] Int.subNatNat in
theorem be578 (ws : ByteArray) (fr : Int) (Kst : KS) (Kret : KR) (x : St578 ⊕ Rt578) (hS : HS 0 400 ((I578 ws fr)) Kst x) (hR : HR 0 400 ((V578 ws fr)) (J578 ws fr) Kret x) (h : (some (.inl (.h0 ((0 : Int)))) : Option (St578 ⊕ Rt578)) = some x) : Te578 cond Kst Kret ws fr := by
  unfold Te578
  exact stop_at hS _ h (fun n => n) rfl rfl rfl ⟨(rn_str rfl), ⟨(rn_int rfl), ⟨(rn_fn trivial trivial), ⟨(rn_int rfl), trivial⟩⟩⟩⟩ rfl entl_nil
attribute [local irreducible] Int.subNatNat in
theorem b578_0 (ws : ByteArray) (fr : Int) (Kst : KS) (Kret : KR) (x : St578 ⊕ Rt578) (hS : HS 0 400 ((I578 ws fr)) Kst x) (hR : HR 0 400 ((V578 ws fr)) (J578 ws fr) Kret x) (x0 : Int) (h : q578 ws fr (.h0 x0) = some x) : T578_0 cond Kst Kret ws fr x0 := by
  unfold T578_0
  rw [q578] at h
  refine bif_split h (fun c0 h => bif_split h (fun c1 h => cond_yes c0 (bif_split h (fun c2 h => bif_split h (fun c3 h => bif_split h (fun c4 h => bif_split h (fun c5 h => ?_) (fun c5 h => ?_)) (fun c4 h => bif_split h (fun c5 h => bif_split h (fun c6 h => bif_split h (fun c7 h => ?_) (fun c7 h => ?_)) (fun c6 h => bif_split h (fun c7 h => bif_split h (fun c8 h => ?_) (fun c8 h => ?_)) (fun c7 h => ?_))) (fun c5 h => bif_split h (fun c6 h => bif_split h (fun c7 h => ?_) (fun c7 h => ?_)) (fun c6 h => ?_)))) (fun c3 h => bif_split h (fun c4 h => bif_split h (fun c5 h => bif_split h (fun c6 h => ?_) (fun c6 h => ?_)) (fun c5 h => bif_split h (fun c6 h => bif_split h (fun c7 h => ?_) (fun c7 h => ?_)) (fun c6 h => ?_))) (fun c4 h => bif_split h (fun c5 h => bif_split h (fun c6 h => ?_) (fun c6 h => ?_)) (fun c5 h => ?_)))) (fun c2 h => ?_))) (fun c1 h => ?_)) (fun c0 h => ?_)
  all_goals first
    | exact no_some h
    | exact stop_at hS _ h (fun n => n) rfl rfl rfl ⟨(rn_str rfl), ⟨(rn_int rfl), ⟨(rn_fn trivial trivial), ⟨(rn_int rfl), trivial⟩⟩⟩⟩ rfl entl_nil
    | exact ret_at hR _ h (fun n => n) rfl rfl rfl (rn_int rfl) rfl entl_nil
theorem a578 (ws : ByteArray) (fr : Int) {r : Rt578} (h : Goes ((q578 ws fr)) ((p578 ws fr)) r) : CallR Try.prog 78 [.str ws, .int .i64 fr, .fn (.func 79) [] []] [[]] 0 ((V578 ws fr) r) ((J578 ws fr) r) 400 ∧ ∃ F, Try.prog.funcs[78]? = some F ∧ F.body.isSome = true ∧ (F.name == "runtime.NumGoroutine") = false := by
  refine dec_calls (sy := true) (f := 78) (lo := 0) (hi := 400) (H := [[]]) (args := [.str ws, .int .i64 fr, .fn (.func 79) [] []]) Try.envOk Try.mixed noX_ok ((I578 ws fr)) ((V578 ws fr)) (J578 ws fr) (fn := mkFn Try.f78) (ts := [0, 1, 2, 7]) (n := 400) rfl (by decide) (by simp) (names_of rfl) ?_ ?_ ?_ h
  · intro s; cases s <;> exact ⟨hd_ok _ _, by simp [I578], names_of rfl, Nat.le_of_ble_eq_true rfl⟩
  · intro Kst Kret x hS hR h
    exact Holds.eq (te578 cond Kst Kret ws fr) (be578 ws fr Kst Kret x hS hR h)
  · intro Kst Kret x hS hR s h
    cases s with
    | h0 x0 => exact Holds.eq (t578_0 cond Kst Kret ws fr x0) (b578_0 ws fr Kst Kret x hS hR x0 h)
noncomputable abbrev w578 {α : Type} (g : ByteArray → Int → α) (x : ByteArray × Int × (Unit) × Unit) : α := g x.1 x.2.1
noncomputable def k578  : Con := ⟨78, [.one (.plain (.str)), .one (.plain (.int .i64)), .fn 79 []], w578 (fun ws fr => decide (ws.size ≤ 1000 ∧ fr = 0)), w578 (fun ws fr => (V578 ws fr) (((S.runN (fun j => S.namB (keys ws j)) 0 ws.size : Nat) : Int))), w578 (fun ws fr => (N578 ws fr) (((S.runN (fun j => S.namB (keys ws j)) 0 ws.size : Nat) : Int))), fun _ _ => .dead⟩
theorem s578' (ws : ByteArray) (fr : Int) (hp : ws.size ≤ 1000) (hf : fr = 0) : ∀ k i : Nat, i + k = ws.size → Comes (q578 ws fr) (.h0 (i : Int)) (((i + S.runN (fun j => S.namB (keys ws j)) i k : Nat)) : Int) := by
  intro k
  induction k with
  | zero =>
    intro i hi
    apply Comes.of
    show Goes _ _ _
    (first | rw [q578] | unfold q578)
    repeat' (first | with_reducible refine goes_if (fun h => ?_) (fun h => ?_) <;> (try simp only [SH] at h) | exact goes_none.mpr (by omega))
    all_goals first | (exfalso; omega) | rfl
  | succ k ih =>
    intro i hi
    have ih := ih (i + 1) (by omega)
    have e0 : (0 : Int) + (i : Int) = i := Int.zero_add _
    simp only [S.runN]
    by_cases hc : (fun j => S.namB (keys ws j)) i = true
    · rw [if_pos hc]
      rw [show i + 1 + S.runN (fun j => S.namB (keys ws j)) (i + 1) k = i + (S.runN (fun j => S.namB (keys ws j)) (i + 1) k + 1) by omega] at ih
      simp only [S.namB, decide_eq_true_eq] at hc
      subst hf
      apply Comes.of
      show Goes _ _ _
      (first | rw [q578] | unfold q578)
      repeat' (first | with_reducible refine goes_if (fun h => ?_) (fun h => ?_) <;> (try simp only [SH, e0] at h) | exact goes_none.mpr (by omega))
      all_goals first | (exfalso; omega) | exact ih | (exfalso; simp_all; done) | (exfalso; simp_all; omega)
    · rw [if_neg hc]
      simp only [S.namB, decide_eq_true_eq] at hc
      subst hf
      apply Comes.of
      show Goes _ _ _
      (first | rw [q578] | unfold q578)
      repeat' (first | with_reducible refine goes_if (fun h => ?_) (fun h => ?_) <;> (try simp only [SH, e0] at h) | exact goes_none.mpr (by omega))
      all_goals first | (exfalso; omega) | (exact goes_inr.mpr rfl) | (exfalso; simp_all; done) | (exfalso; simp_all; omega)
theorem s578 (ws : ByteArray) (fr : Int) (hp : ws.size ≤ 1000 ∧ fr = 0) : Goes ((q578 ws fr)) ((p578 ws fr)) (((S.runN (fun j => S.namB (keys ws j)) 0 ws.size : Nat) : Int)) := by
  obtain ⟨hp1, hp2⟩ := hp
  have hm := s578' ws fr hp1 hp2 ws.size 0 (by omega)
  rw [Nat.zero_add] at hm
  show Goes _ _ _
  unfold p578
  repeat' (first | with_reducible refine goes_if (fun h => ?_) (fun h => ?_) <;> (try simp only [SH] at h) | exact goes_none.mpr (by omega))
  all_goals first | (exfalso; omega) | exact hm
theorem k578_ok  : k578.ok Try.prog := by
  intro x hx
  obtain ⟨ws, fr, ⟨_⟩, _⟩ := x
  obtain ⟨h1, h2⟩ := a578 ws fr (s578 ws fr (of_dec hx rfl))
  exact ⟨⟨400, (by decide : 0 + 1 + 0 ≤ 400), h1⟩, h2⟩
inductive St580 where
  | h0 (x0 : Int)
abbrev Rt580  := Int
noncomputable def V580 (ws : ByteArray) (r : Rt580) : PV := PV.int .i64 r
noncomputable def N580 (ws : ByteArray) (r : Rt580) : List Blk := []
noncomputable def I580 (ws : ByteArray) : St580 → Hd
  | .h0 x0 => ⟨hd Try.f80 0, [PV.str ws, PV.int .i64 x0], [[], []], 0⟩
noncomputable def q580 (ws : ByteArray) : St580 → Option (St580 ⊕ Rt580) | .h0 x0 => bif (decide (x0 < (↑(ByteArray.size ws) : Int))) then (bif (decide ((0 : Int) ≤ x0 ∧ x0 < (↑(ByteArray.size ws) : Int))) then (bif (decide (keys ws (Int.toNat x0) ≥ 97)) then (bif (decide (keys ws (Int.toNat x0) ≤ 122)) then (bif (lim .i64 (x0 + 1)) then (some (.inl (.h0 (x0 + 1)))) else (none)) else (bif (decide (x0 > 0)) then (bif (decide (keys ws (Int.toNat x0) ≥ 48)) then (bif (decide (keys ws (Int.toNat x0) ≤ 57)) then (bif (lim .i64 (x0 + 1)) then (some (.inl (.h0 (x0 + 1)))) else (none)) else (bif (keys ws (Int.toNat x0) == 95) then (bif (lim .i64 (x0 + 1)) then (some (.inl (.h0 (x0 + 1)))) else (none)) else (some (.inr (x0))))) else (bif (keys ws (Int.toNat x0) == 95) then (bif (lim .i64 (x0 + 1)) then (some (.inl (.h0 (x0 + 1)))) else (none)) else (some (.inr (x0))))) else (some (.inr (x0))))) else (bif (decide (x0 > 0)) then (bif (decide (keys ws (Int.toNat x0) ≥ 48)) then (bif (decide (keys ws (Int.toNat x0) ≤ 57)) then (bif (lim .i64 (x0 + 1)) then (some (.inl (.h0 (x0 + 1)))) else (none)) else (bif (keys ws (Int.toNat x0) == 95) then (bif (lim .i64 (x0 + 1)) then (some (.inl (.h0 (x0 + 1)))) else (none)) else (some (.inr (x0))))) else (bif (keys ws (Int.toNat x0) == 95) then (bif (lim .i64 (x0 + 1)) then (some (.inl (.h0 (x0 + 1)))) else (none)) else (some (.inr (x0))))) else (some (.inr (x0))))) else (none)) else (some (.inr (x0)))
noncomputable def p580 (ws : ByteArray) : Option (St580 ⊕ Rt580) := some (.inl (.h0 ((0 : Int))))
def Te580 (test : TT) (Kst : KS) (Kret : KR) (ws : ByteArray) : Prop := Kst (hd Try.f80 0) ([PV.str ws, PV.int .i64 (0 : Int)]) ([[]]) (0)
theorem te580 (test : TT) (Kst : KS) (Kret : KR) (ws : ByteArray) : run test Try.env true noX true 400 ⟨80, [.cd (mkFn Try.f80).body], argT 0 [.str ws], [[], []], 0⟩ (proj 0 [0, 3] Kst Kret) =
  Te580 test Kst Kret ws := by kernel_rfl
noncomputable abbrev u580_0_0 (ws : ByteArray) (x0 : Int) := decide ((0 : Int) ≤ x0 ∧ x0 < (↑(ByteArray.size ws) : Int))
noncomputable abbrev u580_0_1 (ws : ByteArray) (x0 : Int) := ([PV.str ws, PV.int IntKind.i64 (x0 + (1 : Int))])
def T580_0 (test : TT) (Kst : KS) (Kret : KR) (ws : ByteArray) (x0 : Int) : Prop := test (decide (x0 < (↑(ByteArray.size ws) : Int))) (test (u580_0_0 ws x0) (test (decide (keys ws (Int.toNat x0) ≥ 97)) (test (decide (keys ws (Int.toNat x0) ≤ 122)) (test (lim .i64 (x0 + 1)) (Kst (hd Try.f80 0) (u580_0_1 ws x0) ([[]]) (0)) (False)) (test (decide (x0 > 0)) (test (u580_0_0 ws x0) (test (decide (keys ws (Int.toNat x0) ≥ 48)) (test (decide (keys ws (Int.toNat x0) ≤ 57)) (test (lim .i64 (x0 + 1)) (Kst (hd Try.f80 0) (u580_0_1 ws x0) ([[]]) (0)) (False)) (test (u580_0_0 ws x0) (test (keys ws (Int.toNat x0) == 95) (test (lim .i64 (x0 + 1)) (Kst (hd Try.f80 0) (u580_0_1 ws x0) ([[]]) (0)) (False)) (Kret (PV.int .i64 x0) ([[]]) (0))) (False))) (test (u580_0_0 ws x0) (test (keys ws (Int.toNat x0) == 95) (test (lim .i64 (x0 + 1)) (Kst (hd Try.f80 0) (u580_0_1 ws x0) ([[]]) (0)) (False)) (Kret (PV.int .i64 x0) ([[]]) (0))) (False))) (False)) (Kret (PV.int .i64 x0) ([[]]) (0)))) (test (decide (x0 > 0)) (test (u580_0_0 ws x0) (test (decide (keys ws (Int.toNat x0) ≥ 48)) (test (decide (keys ws (Int.toNat x0) ≤ 57)) (test (lim .i64 (x0 + 1)) (Kst (hd Try.f80 0) (u580_0_1 ws x0) ([[]]) (0)) (False)) (test (u580_0_0 ws x0) (test (keys ws (Int.toNat x0) == 95) (test (lim .i64 (x0 + 1)) (Kst (hd Try.f80 0) (u580_0_1 ws x0) ([[]]) (0)) (False)) (Kret (PV.int .i64 x0) ([[]]) (0))) (False))) (test (u580_0_0 ws x0) (test (keys ws (Int.toNat x0) == 95) (test (lim .i64 (x0 + 1)) (Kst (hd Try.f80 0) (u580_0_1 ws x0) ([[]]) (0)) (False)) (Kret (PV.int .i64 x0) ([[]]) (0))) (False))) (False)) (Kret (PV.int .i64 x0) ([[]]) (0)))) (False)) (Kret (PV.int .i64 x0) ([[]]) (0))
theorem t580_0 (test : TT) (Kst : KS) (Kret : KR) (ws : ByteArray) (x0 : Int) : run test Try.env true noX true 400 ⟨80, hd Try.f80 0, zipT [0, 3] [PV.str ws, PV.int .i64 x0], [[], []], 0⟩ (proj 0 [0, 3] Kst Kret) =
  T580_0 test Kst Kret ws x0 := by kernel_rfl
noncomputable abbrev J580 (ws : ByteArray) : Rt580 → Heap := fun r => [newL (0 + 1) ((N580 ws) r) ++ []]
attribute [local irreducible] Int.subNatNat in
theorem be580 (ws : ByteArray) (Kst : KS) (Kret : KR) (x : St580 ⊕ Rt580) (hS : HS 0 400 ((I580 ws)) Kst x) (hR : HR 0 400 ((V580 ws)) (J580 ws) Kret x) (h : (some (.inl (.h0 ((0 : Int)))) : Option (St580 ⊕ Rt580)) = some x) : Te580 cond Kst Kret ws := by
  unfold Te580
  exact stop_at hS _ h (fun n => n) rfl rfl rfl ⟨(rn_str rfl), ⟨(rn_int rfl), trivial⟩⟩ rfl entl_nil
attribute [local irreducible] Int.subNatNat in
theorem b580_0 (ws : ByteArray) (Kst : KS) (Kret : KR) (x : St580 ⊕ Rt580) (hS : HS 0 400 ((I580 ws)) Kst x) (hR : HR 0 400 ((V580 ws)) (J580 ws) Kret x) (x0 : Int) (h : q580 ws (.h0 x0) = some x) : T580_0 cond Kst Kret ws x0 := by
  unfold T580_0
  rw [q580] at h
  refine bif_split h (fun c0 h => bif_split h (fun c1 h => bif_split h (fun c2 h => bif_split h (fun c3 h => bif_split h (fun c4 h => ?_) (fun c4 h => ?_)) (fun c3 h => bif_split h (fun c4 h => cond_yes c1 (bif_split h (fun c5 h => bif_split h (fun c6 h => bif_split h (fun c7 h => ?_) (fun c7 h => ?_)) (fun c6 h => cond_yes c1 (bif_split h (fun c7 h => bif_split h (fun c8 h => ?_) (fun c8 h => ?_)) (fun c7 h => ?_)))) (fun c5 h => cond_yes c1 (bif_split h (fun c6 h => bif_split h (fun c7 h => ?_) (fun c7 h => ?_)) (fun c6 h => ?_))))) (fun c4 h => ?_))) (fun c2 h => bif_split h (fun c3 h => cond_yes c1 (bif_split h (fun c4 h => bif_split h (fun c5 h => bif_split h (fun c6 h => ?_) (fun c6 h => ?_)) (fun c5 h => cond_yes c1 (bif_split h (fun c6 h => bif_split h (fun c7 h => ?_) (fun c7 h => ?_)) (fun c6 h => ?_)))) (fun c4 h => cond_yes c1 (bif_split h (fun c5 h => bif_split h (fun c6 h => ?_) (fun c6 h => ?_)) (fun c5 h => ?_))))) (fun c3 h => ?_))) (fun c1 h => ?_)) (fun c0 h => ?_)
  all_goals first
    | exact no_some h
    | exact stop_at hS _ h (fun n => n) rfl rfl rfl ⟨(rn_str rfl), ⟨(rn_int rfl), trivial⟩⟩ rfl entl_nil
    | exact ret_at hR _ h (fun n => n) rfl rfl rfl (rn_int rfl) rfl entl_nil
theorem a580 (ws : ByteArray) {r : Rt580} (h : Goes ((q580 ws)) ((p580 ws)) r) : CallR Try.prog 80 [.str ws] [[]] 0 ((V580 ws) r) ((J580 ws) r) 400 ∧ ∃ F, Try.prog.funcs[80]? = some F ∧ F.body.isSome = true ∧ (F.name == "runtime.NumGoroutine") = false := by
  refine dec_calls (sy := true) (f := 80) (lo := 0) (hi := 400) (H := [[]]) (args := [.str ws]) Try.envOk Try.mixed noX_ok ((I580 ws)) ((V580 ws)) (J580 ws) (fn := mkFn Try.f80) (ts := [0, 3]) (n := 400) rfl (by decide) (by simp) (names_of rfl) ?_ ?_ ?_ h
  · intro s; cases s <;> exact ⟨hd_ok _ _, by simp [I580], names_of rfl, Nat.le_of_ble_eq_true rfl⟩
  · intro Kst Kret x hS hR h
    exact Holds.eq (te580 cond Kst Kret ws) (be580 ws Kst Kret x hS hR h)
  · intro Kst Kret x hS hR s h
    cases s with
    | h0 x0 => exact Holds.eq (t580_0 cond Kst Kret ws x0) (b580_0 ws Kst Kret x hS hR x0 h)
noncomputable abbrev w580 {α : Type} (g : ByteArray → α) (x : ByteArray × Unit) : α := g x.1
noncomputable def k580  : Con := ⟨80, [.one (.plain (.str))], w580 (fun ws => decide (ws.size ≤ 1000)), w580 (fun ws => (V580 ws) (((S.runN (fun j => if j = 0 then S.lowB (keys ws j) else S.namB (keys ws j)) 0 ws.size : Nat) : Int))), w580 (fun ws => (N580 ws) (((S.runN (fun j => if j = 0 then S.lowB (keys ws j) else S.namB (keys ws j)) 0 ws.size : Nat) : Int))), fun _ _ => .dead⟩
theorem s580' (ws : ByteArray) (hp : ws.size ≤ 1000) : ∀ k i : Nat, i + k = ws.size → Comes (q580 ws) (.h0 (i : Int)) (((i + S.runN (fun j => if j = 0 then S.lowB (keys ws j) else S.namB (keys ws j)) i k : Nat)) : Int) := by
  intro k
  induction k with
  | zero =>
    intro i hi
    apply Comes.of
    show Goes _ _ _
    (first | rw [q580] | unfold q580)
    repeat' (first | with_reducible refine goes_if (fun h => ?_) (fun h => ?_) <;> (try simp only [SH] at h) | exact goes_none.mpr (by omega))
    all_goals first | (exfalso; omega) | rfl
  | succ k ih =>
    intro i hi
    have ih := ih (i + 1) (by omega)
    have e0 : (0 : Int) + (i : Int) = i := Int.zero_add _
    simp only [S.runN]
    by_cases hc : (fun j => if j = 0 then S.lowB (keys ws j) else S.namB (keys ws j)) i = true
    · rw [if_pos hc]
      rw [show i + 1 + S.runN (fun j => if j = 0 then S.lowB (keys ws j) else S.namB (keys ws j)) (i + 1) k = i + (S.runN (fun j => if j = 0 then S.lowB (keys ws j) else S.namB (keys ws j)) (i + 1) k + 1) by omega] at ih
      by_cases h0 : i = 0
      · subst h0; simp only [if_true, S.lowB, decide_eq_true_eq] at hc
        apply Comes.of
        show Goes _ _ _
        (first | rw [q580] | unfold q580)
        repeat' (first | with_reducible refine goes_if (fun h => ?_) (fun h => ?_) <;> (try simp only [SH] at h) | exact goes_none.mpr (by omega))
        all_goals first | (exfalso; omega) | exact ih | (exact goes_inr.mpr rfl)
      simp only [h0, if_false, S.namB, decide_eq_true_eq] at hc
      apply Comes.of
      show Goes _ _ _
      (first | rw [q580] | unfold q580)
      repeat' (first | with_reducible refine goes_if (fun h => ?_) (fun h => ?_) <;> (try simp only [SH, e0] at h) | exact goes_none.mpr (by omega))
      all_goals first | (exfalso; omega) | exact ih | (exfalso; simp_all; done) | (exfalso; simp_all; omega)
    · rw [if_neg hc]
      by_cases h0 : i = 0
      · subst h0; simp only [if_true, S.lowB, decide_eq_true_eq] at hc
        apply Comes.of
        show Goes _ _ _
        (first | rw [q580] | unfold q580)
        repeat' (first | with_reducible refine goes_if (fun h => ?_) (fun h => ?_) <;> (try simp only [SH] at h) | exact goes_none.mpr (by omega))
        all_goals first | (exfalso; omega) | exact ih | (exact goes_inr.mpr rfl)
      simp only [h0, if_false, S.namB, decide_eq_true_eq] at hc
      apply Comes.of
      show Goes _ _ _
      (first | rw [q580] | unfold q580)
      repeat' (first | with_reducible refine goes_if (fun h => ?_) (fun h => ?_) <;> (try simp only [SH, e0] at h) | exact goes_none.mpr (by omega))
      all_goals first | (exfalso; omega) | (exact goes_inr.mpr rfl) | (exfalso; simp_all; done) | (exfalso; simp_all; omega)
theorem s580 (ws : ByteArray) (hp : ws.size ≤ 1000) : Goes ((q580 ws)) ((p580 ws)) (((S.runN (fun j => if j = 0 then S.lowB (keys ws j) else S.namB (keys ws j)) 0 ws.size : Nat) : Int)) := by
  have hm := s580' ws hp ws.size 0 (by omega)
  rw [Nat.zero_add] at hm
  show Goes _ _ _
  unfold p580
  repeat' (first | with_reducible refine goes_if (fun h => ?_) (fun h => ?_) <;> (try simp only [SH] at h) | exact goes_none.mpr (by omega))
  all_goals first | (exfalso; omega) | exact hm
theorem k580_ok  : k580.ok Try.prog := by
  intro x hx
  obtain ⟨ws, _⟩ := x
  obtain ⟨h1, h2⟩ := a580 ws (s580 ws (of_dec hx rfl))
  exact ⟨⟨400, (by decide : 0 + 1 + 0 ≤ 400), h1⟩, h2⟩
noncomputable def xN0 (test : Bool → Prop → Prop → Prop) : Ext := consX test [k578, k580]
theorem xN0_ok  : ExtOk Try.prog (xN0 cond) := consX_ok ⟨k578_ok, k580_ok, trivial⟩
abbrev St560  := Empty
abbrev Rt560  := Bool
noncomputable def V560 (ws : ByteArray) (r : Rt560) : PV := PV.bool r
noncomputable def N560 (ws : ByteArray) (r : Rt560) : List Blk := []
noncomputable def I560 (ws : ByteArray) : St560 → Hd := fun s => s.elim
noncomputable def q560 (ws : ByteArray) : St560 → Option (St560 ⊕ Rt560) := fun s => s.elim
noncomputable def p560 (ws : ByteArray) : Option (St560 ⊕ Rt560) := bif (!S.eqS ws (ByteArray.mk #[])) then (bif (decide ((↑(ByteArray.size ws) : Int) ≤ 20)) then (bif (decide ((0 : Int) ≤ 0 ∧ (0 : Int) < (↑(ByteArray.size ws) : Int))) then (bif (decide (keys ws (0) ≥ 97)) then (bif (decide (keys ws (0) ≤ 122)) then (bif (decide (ByteArray.size ws ≤ 1000 ∧ (0 : Int) = 0)) then (bif ((↑(S.runN (fun j => S.namB (keys ws j)) (0) (ByteArray.size ws)) : Int) == (↑(ByteArray.size ws) : Int)) then (some (.inr (true))) else (some (.inr (false)))) else (none)) else (some (.inr (false)))) else (some (.inr (false)))) else (none)) else (some (.inr (false)))) else (some (.inr (false)))
def Te560 (test : TT) (Kst : KS) (Kret : KR) (ws : ByteArray) : Prop := test (!S.eqS ws (ByteArray.mk #[])) (test (decide ((↑(ByteArray.size ws) : Int) ≤ 20)) (test (decide ((0 : Int) ≤ 0 ∧ (0 : Int) < (↑(ByteArray.size ws) : Int))) (test (decide (keys ws (0) ≥ 97)) (test (decide (keys ws (0) ≤ 122)) (test (decide (ByteArray.size ws ≤ 1000 ∧ (0 : Int) = 0)) (test ((↑(S.runN (fun j => S.namB (keys ws j)) (0) (ByteArray.size ws)) : Int) == (↑(ByteArray.size ws) : Int)) (Kret (PV.tf true) ([[]]) (1)) (Kret (PV.tf false) ([[]]) (1))) (False)) (Kret (PV.tf false) ([[]]) (0))) (Kret (PV.tf false) ([[]]) (0))) (False)) (Kret (PV.tf false) ([[]]) (0))) (Kret (PV.tf false) ([[]]) (0))
theorem te560 (test : TT) (Kst : KS) (Kret : KR) (ws : ByteArray) : run test Try.env true (xN0 test) true 400 ⟨60, [.cd (mkFn Try.f60).body], argT 0 [.str ws], [[], []], 0⟩ (proj 0 [] Kst Kret) =
  Te560 test Kst Kret ws := by kernel_rfl
attribute [local irreducible] Int.subNatNat in
theorem be560 (ws : ByteArray) (Kst : KS) (Kret : KR) (x : St560 ⊕ Rt560) (hS : HS 0 400 ((I560 ws)) Kst x) (hR : HR 0 400 ((V560 ws)) (fun r => [newL (0 + 1) ((N560 ws) r) ++ []]) Kret x) (h : p560 ws = some x) : Te560 cond Kst Kret ws := by
  unfold Te560
  unfold p560 at h
  refine bif_split h (fun c0 h => bif_split h (fun c1 h => bif_split h (fun c2 h => bif_split h (fun c3 h => bif_split h (fun c4 h => bif_split h (fun c5 h => bif_split h (fun c6 h => ?_) (fun c6 h => ?_)) (fun c5 h => ?_)) (fun c4 h => ?_)) (fun c3 h => ?_)) (fun c2 h => ?_)) (fun c1 h => ?_)) (fun c0 h => ?_)
  all_goals first
    | exact ret_at hR _ h (fun n => n) rfl rfl rfl (rn_bool_tf rfl) rfl entl_nil
    | exact no_some h
theorem a560 (ws : ByteArray) {r : Rt560} (h : Goes ((q560 ws)) ((p560 ws)) r) : CallR Try.prog 60 [.str ws] [[]] 0 ((V560 ws) r) ((fun r => [newL (0 + 1) ((N560 ws) r) ++ []]) r) 400 ∧ ∃ F, Try.prog.funcs[60]? = some F ∧ F.body.isSome = true ∧ (F.name == "runtime.NumGoroutine") = false := by
  refine dec_calls (sy := true) (f := 60) (lo := 0) (hi := 400) (H := [[]]) (args := [.str ws]) Try.envOk Try.mixed xN0_ok ((I560 ws)) ((V560 ws)) (fun r => [newL (0 + 1) ((N560 ws) r) ++ []]) (fn := mkFn Try.f60) (ts := []) (n := 400) rfl (by decide) (by simp) (names_of rfl) ?_ ?_ ?_ h
  · intro s; exact s.elim
  · intro Kst Kret x hS hR h
    exact Holds.eq (te560 cond Kst Kret ws) (be560 ws Kst Kret x hS hR h)
  · intro Kst Kret x hS hR s h; exact s.elim
noncomputable abbrev w560 {α : Type} (g : ByteArray → α) (x : ByteArray × Unit) : α := g x.1
noncomputable def k560  : Con := ⟨60, [.one (.plain (.str))], w560 (fun ws => decide (True)), w560 (fun ws => (V560 ws) (S.isNam ws)), w560 (fun ws => (N560 ws) (S.isNam ws)), fun _ _ => .dead⟩
theorem s560 (ws : ByteArray) (hp : True) : Goes ((q560 ws)) ((p560 ws)) (S.isNam ws) := by
  have hs : S.eqS ws (ByteArray.mk #[]) = decide (ws.size = 0) := by
    show (ws.toList == (ByteArray.mk #[]).toList) = _
    rw [ByteArray.toList_eq (ByteArray.mk #[])]
    exact size_nil
  have hr := runN_le (p := (fun j => S.namB (keys ws j))) (k := ws.size) (i := 0)
  have e : S.isNam ws = (decide (1 ≤ ws.size ∧ ws.size ≤ 20) && (S.lowB (keys ws 0) && decide (S.runN (fun j => S.namB (keys ws j)) 0 ws.size = ws.size))) := rfl
  rw [e]
  unfold p560
  simp only [hs]
  have hk : S.lowB (keys ws 0) = decide (97 ≤ keys ws 0 ∧ keys ws 0 ≤ 122) := rfl
  generalize S.runN (fun j => S.namB (keys ws j)) 0 ws.size = rn at *
  show Goes _ _ _
  repeat' (first | with_reducible refine goes_if (fun h => ?_) (fun h => ?_) <;> (try simp only [SH] at h) | exact goes_none.mpr (by omega))
  all_goals first
    | (exfalso; omega)
    | (refine goes_inr.mpr ?_; simp only [hk, ← Bool.decide_and]; first | exact (decide_eq_true (by omega)).symm | exact (decide_eq_false (by omega)).symm | (rw [Bool.eq_iff_iff]; simp only [decide_eq_true_eq, beq_iff_eq]; omega))
theorem k560_ok  : k560.ok Try.prog := by
  intro x hx
  obtain ⟨ws, _⟩ := x
  obtain ⟨h1, h2⟩ := a560 ws (s560 ws (of_dec hx rfl))
  exact ⟨⟨400, (by decide : 0 + 1 + 0 ≤ 400), h1⟩, h2⟩
abbrev St562  := Empty
abbrev Rt562  := Bool
noncomputable def V562 (ws : ByteArray) (r : Rt562) : PV := PV.bool r
noncomputable def N562 (ws : ByteArray) (r : Rt562) : List Blk := []
noncomputable def I562 (ws : ByteArray) : St562 → Hd := fun s => s.elim
noncomputable def q562 (ws : ByteArray) : St562 → Option (St562 ⊕ Rt562) := fun s => s.elim
noncomputable def p562 (ws : ByteArray) : Option (St562 ⊕ Rt562) := bif (!S.eqS ws (ByteArray.mk #[])) then (bif (decide ((↑(ByteArray.size ws) : Int) ≤ 20)) then (bif (decide (ByteArray.size ws ≤ 1000)) then (bif ((↑(S.runN (fun j => if j = 0 then S.lowB (keys ws j) else S.namB (keys ws j)) (0) (ByteArray.size ws)) : Int) == (↑(ByteArray.size ws) : Int)) then (some (.inr (true))) else (some (.inr (false)))) else (none)) else (some (.inr (false)))) else (some (.inr (false)))
def Te562 (test : TT) (Kst : KS) (Kret : KR) (ws : ByteArray) : Prop := test (!S.eqS ws (ByteArray.mk #[])) (test (decide ((↑(ByteArray.size ws) : Int) ≤ 20)) (test (decide (ByteArray.size ws ≤ 1000)) (test ((↑(S.runN (fun j => if j = 0 then S.lowB (keys ws j) else S.namB (keys ws j)) (0) (ByteArray.size ws)) : Int) == (↑(ByteArray.size ws) : Int)) (Kret (PV.tf true) ([[]]) (1)) (Kret (PV.tf false) ([[]]) (1))) (False)) (Kret (PV.tf false) ([[]]) (0))) (Kret (PV.tf false) ([[]]) (0))
theorem te562 (test : TT) (Kst : KS) (Kret : KR) (ws : ByteArray) : run test Try.env true (xN0 test) true 400 ⟨62, [.cd (mkFn Try.f62).body], argT 0 [.str ws], [[], []], 0⟩ (proj 0 [] Kst Kret) =
  Te562 test Kst Kret ws := by kernel_rfl
attribute [local irreducible] Int.subNatNat in
theorem be562 (ws : ByteArray) (Kst : KS) (Kret : KR) (x : St562 ⊕ Rt562) (hS : HS 0 400 ((I562 ws)) Kst x) (hR : HR 0 400 ((V562 ws)) (fun r => [newL (0 + 1) ((N562 ws) r) ++ []]) Kret x) (h : p562 ws = some x) : Te562 cond Kst Kret ws := by
  unfold Te562
  unfold p562 at h
  exact bif_split h (fun c0 h => bif_split h (fun c1 h => bif_split h (fun c2 h => bif_split h (fun c3 h => ret_at hR _ h (fun n => n) rfl rfl rfl (rn_bool_tf rfl) rfl entl_nil) (fun c3 h => ret_at hR _ h (fun n => n) rfl rfl rfl (rn_bool_tf rfl) rfl entl_nil)) (fun c2 h => no_some h)) (fun c1 h => ret_at hR _ h (fun n => n) rfl rfl rfl (rn_bool_tf rfl) rfl entl_nil)) (fun c0 h => ret_at hR _ h (fun n => n) rfl rfl rfl (rn_bool_tf rfl) rfl entl_nil)
theorem a562 (ws : ByteArray) {r : Rt562} (h : Goes ((q562 ws)) ((p562 ws)) r) : CallR Try.prog 62 [.str ws] [[]] 0 ((V562 ws) r) ((fun r => [newL (0 + 1) ((N562 ws) r) ++ []]) r) 400 ∧ ∃ F, Try.prog.funcs[62]? = some F ∧ F.body.isSome = true ∧ (F.name == "runtime.NumGoroutine") = false := by
  refine dec_calls (sy := true) (f := 62) (lo := 0) (hi := 400) (H := [[]]) (args := [.str ws]) Try.envOk Try.mixed xN0_ok ((I562 ws)) ((V562 ws)) (fun r => [newL (0 + 1) ((N562 ws) r) ++ []]) (fn := mkFn Try.f62) (ts := []) (n := 400) rfl (by decide) (by simp) (names_of rfl) ?_ ?_ ?_ h
  · intro s; exact s.elim
  · intro Kst Kret x hS hR h
    exact Holds.eq (te562 cond Kst Kret ws) (be562 ws Kst Kret x hS hR h)
  · intro Kst Kret x hS hR s h; exact s.elim
noncomputable abbrev w562 {α : Type} (g : ByteArray → α) (x : ByteArray × Unit) : α := g x.1
noncomputable def k562  : Con := ⟨62, [.one (.plain (.str))], w562 (fun ws => decide (True)), w562 (fun ws => (V562 ws) (S.isNam ws)), w562 (fun ws => (N562 ws) (S.isNam ws)), fun _ _ => .dead⟩
theorem s562 (ws : ByteArray) (hp : True) : Goes ((q562 ws)) ((p562 ws)) (S.isNam ws) := by
  have hs : S.eqS ws (ByteArray.mk #[]) = decide (ws.size = 0) := by
    show (ws.toList == (ByteArray.mk #[]).toList) = _
    rw [ByteArray.toList_eq (ByteArray.mk #[])]
    exact size_nil
  have hr := runN_le (p := (fun j => if j = 0 then S.lowB (keys ws j) else S.namB (keys ws j))) (k := ws.size) (i := 0)
  have e : S.isNam ws = (decide (1 ≤ ws.size ∧ ws.size ≤ 20) && decide (S.runN (fun j => if j = 0 then S.lowB (keys ws j) else S.namB (keys ws j)) 0 ws.size = ws.size)) := by
    unfold S.isNam
    by_cases h1 : 1 ≤ ws.size ∧ ws.size ≤ 20
    · congr 1
      rw [Bool.eq_iff_iff, Bool.and_eq_true, decide_eq_true_eq, decide_eq_true_eq, runN_all, runN_all]
      constructor
      · rintro ⟨a, c⟩ j h2 h3
        split
        · rename_i h4; rw [h4]; exact a
        · exact c j h2 h3
      · intro a
        have a0 := a 0 (Nat.le_refl _) (by omega)
        rw [if_pos rfl] at a0
        refine ⟨a0, fun j h2 h3 => ?_⟩
        have aj := a j h2 h3
        split at aj
        · rename_i h4
          rw [h4]
          simp only [S.lowB, S.namB, decide_eq_true_eq] at a0 ⊢
          omega
        · exact aj
    · rw [decide_eq_false h1, Bool.false_and, Bool.false_and]
  rw [e]
  unfold p562
  simp only [hs]
  skip
  generalize S.runN (fun j => if j = 0 then S.lowB (keys ws j) else S.namB (keys ws j)) 0 ws.size = rn at *
  show Goes _ _ _
  repeat' (first | with_reducible refine goes_if (fun h => ?_) (fun h => ?_) <;> (try simp only [SH] at h) | exact goes_none.mpr (by omega))
  all_goals first
    | (exfalso; omega)
    | (refine goes_inr.mpr ?_; simp only [← Bool.decide_and]; first | exact (decide_eq_true (by omega)).symm | exact (decide_eq_false (by omega)).symm | (rw [Bool.eq_iff_iff]; simp only [decide_eq_true_eq, beq_iff_eq]; omega))
theorem k562_ok  : k562.ok Try.prog := by
  intro x hx
  obtain ⟨ws, _⟩ := x
  obtain ⟨h1, h2⟩ := a562 ws (s562 ws (of_dec hx rfl))
  exact ⟨⟨400, (by decide : 0 + 1 + 0 ≤ 400), h1⟩, h2⟩
inductive St540 where
  | h0 (x0 : Int)
abbrev Rt540  := Int
noncomputable def V540 (ad nd md : Nat) (td : NI) (vd : Nat → ByteArray) (gd wd : NI) (tc : Int) (vc : ByteArray) (gc wc : Int) (r : Rt540) : PV := PV.int .i64 r
noncomputable def N540 (ad nd md : Nat) (td : NI) (vd : Nat → ByteArray) (gd wd : NI) (tc : Int) (vc : ByteArray) (gc wc : Int) (r : Rt540) : List Blk := []
noncomputable def I540 (ad nd md : Nat) (td : NI) (vd : Nat → ByteArray) (gd wd : NI) (tc : Int) (vc : ByteArray) (gc wc : Int) : St540 → Hd
  | .h0 x0 => ⟨hd Try.f40 0, [PV.loose (PA.mk (0) (4) ad (0)) nd,
 PV.fn (Go.Fn.func (61)) [] [PV.ptr (PA.mk (1) (0) (0) (0))],
 PV.int .i64 (↑nd : Int), PV.int .i64 x0], [[], [(0, (false, .cols md [.int .i64 td, .str vd, .int .i64 gd, .int .i64 wd])), (1, (false, .cells [.int .i64 tc, .str vc, .int .i64 gc, .int .i64 wc]))]], 2⟩
noncomputable def q540 (ad nd md : Nat) (td : NI) (vd : Nat → ByteArray) (gd wd : NI) (tc : Int) (vc : ByteArray) (gc wc : Int) : St540 → Option (St540 ⊕ Rt540) | .h0 x0 => bif (decide (x0 < (↑nd : Int))) then (bif (decide ((0 : Int) ≤ x0 ∧ x0 < (↑nd : Int))) then (bif (decide (Int.toNat x0 + ad < md)) then (bif (td (Int.toNat x0 + ad) == tc) then (some (.inr (x0))) else (bif (lim .i64 (x0 + 1)) then (some (.inl (.h0 (x0 + 1)))) else (none))) else (none)) else (none)) else (some (.inr ((-1 : Int))))
noncomputable def p540 (ad nd md : Nat) (td : NI) (vd : Nat → ByteArray) (gd wd : NI) (tc : Int) (vc : ByteArray) (gc wc : Int) : Option (St540 ⊕ Rt540) := some (.inl (.h0 ((0 : Int))))
def Te540 (test : TT) (Kst : KS) (Kret : KR) (ad nd md : Nat) (td : NI) (vd : Nat → ByteArray) (gd wd : NI) (tc : Int) (vc : ByteArray) (gc wc : Int) : Prop := Kst (hd Try.f40 0) ([PV.loose (PA.mk (0) (4) ad (0)) nd, PV.fn (Go.Fn.func (61)) [] [PV.ptr (PA.mk (1) (0) (0) (0))], PV.int .i64 (↑nd : Int), PV.int .i64 (0 : Int)]) ([[(1, false, Blk.cells [PV.int .i64 tc, PV.str vc, PV.int .i64 gc, PV.int .i64 wc]), (0, false, Blk.cols md [Col.int .i64 td, Col.str vd, Col.int .i64 gd, Col.int .i64 wd])]]) (2)
theorem te540 (test : TT) (Kst : KS) (Kret : KR) (ad nd md : Nat) (td : NI) (vd : Nat → ByteArray) (gd wd : NI) (tc : Int) (vc : ByteArray) (gc wc : Int) : run test Try.env true noX true 400 ⟨40, [.cd (mkFn Try.f40).body], argT 0 [.loose ⟨0, 4, ad, 0⟩ nd, .fn (.func 61) [] [.ptr ⟨1, 0, 0, 0⟩]], [[], [(0, (false, .cols md [.int .i64 td, .str vd, .int .i64 gd, .int .i64 wd])), (1, (false, .cells [.int .i64 tc, .str vc, .int .i64 gc, .int .i64 wc]))]], 2⟩ (proj 2 [0, 1, 7, 8] Kst Kret) =
  Te540 test Kst Kret ad nd md td vd gd wd tc vc gc wc := by kernel_rfl
noncomputable abbrev u540_0_0 (md : Nat) (td : Nat → Int) (vd : Nat → ByteArray) (gd wd : Nat → Int) (tc : Int) (vc : ByteArray) (gc wc : Int) := ([[(1, false, Blk.cells [PV.int IntKind.i64 tc, PV.str vc, PV.int IntKind.i64 gc, PV.int IntKind.i64 wc]), (0, false, Blk.cols md [Col.int IntKind.i64 td, Col.str vd, Col.int IntKind.i64 gd, Col.int IntKind.i64 wd])]])
def T540_0 (test : TT) (Kst : KS) (Kret : KR) (ad nd md : Nat) (td : NI) (vd : Nat → ByteArray) (gd wd : NI) (tc : Int) (vc : ByteArray) (gc wc x0 : Int) : Prop := test (decide (x0 < (↑nd : Int))) (test (decide ((0 : Int) ≤ x0 ∧ x0 < (↑nd : Int))) (test (decide (Int.toNat x0 + ad < md)) (test (decide (Int.toNat x0 + ad < md)) (test (decide (Int.toNat x0 + ad < md)) (test (decide (Int.toNat x0 + ad < md)) (test (td (Int.toNat x0 + ad) == tc) (Kret (PV.int .i64 x0) (u540_0_0 md td vd gd wd tc vc gc wc) (3)) (test (lim .i64 (x0 + 1)) (Kst (hd Try.f40 0) ([PV.loose (PA.mk (0) (4) ad (0)) nd, PV.fn (Go.Fn.func (61)) [] [PV.ptr (PA.mk (1) (0) (0) (0))], PV.int .i64 (↑nd : Int), PV.int .i64 (x0 + 1)]) (u540_0_0 md td vd gd wd tc vc gc wc) (3)) (False))) (False)) (False)) (False)) (False)) (False)) (Kret (PV.int .i64 (-1 : Int)) (u540_0_0 md td vd gd wd tc vc gc wc) (2))
theorem t540_0 (test : TT) (Kst : KS) (Kret : KR) (ad nd md : Nat) (td : NI) (vd : Nat → ByteArray) (gd wd : NI) (tc : Int) (vc : ByteArray) (gc wc x0 : Int) : run test Try.env true noX true 400 ⟨40, hd Try.f40 0, zipT [0, 1, 7, 8] [PV.loose (PA.mk (0) (4) ad (0)) nd,
 PV.fn (Go.Fn.func (61)) [] [PV.ptr (PA.mk (1) (0) (0) (0))],
 PV.int .i64 (↑nd : Int), PV.int .i64 x0], [[], [(0, (false, .cols md [.int .i64 td, .str vd, .int .i64 gd, .int .i64 wd])), (1, (false, .cells [.int .i64 tc, .str vc, .int .i64 gc, .int .i64 wc]))]], 2⟩ (proj 2 [0, 1, 7, 8] Kst Kret) =
  T540_0 test Kst Kret ad nd md td vd gd wd tc vc gc wc x0 := by kernel_rfl
noncomputable abbrev J540 (ad nd md : Nat) (td : NI) (vd : Nat → ByteArray) (gd : NI) (wd : NI) (tc : Int) (vc : ByteArray) (gc : Int) (wc : Int) : Rt540 → Heap := fun r => [newL (2 + 1) ((N540 ad nd md td vd gd wd tc vc gc wc) r) ++ [(0, (false, .cols md [.int .i64 td, .str vd, .int .i64 gd, .int .i64 wd])), (1, (false, .cells [.int .i64 tc, .str vc, .int .i64 gc, .int .i64 wc]))]]
attribute [local irreducible] Int.subNatNat in
theorem be540 (ad nd md : Nat) (td : NI) (vd : Nat → ByteArray) (gd wd : NI) (tc : Int) (vc : ByteArray) (gc wc : Int) (Kst : KS) (Kret : KR) (x : St540 ⊕ Rt540) (hS : HS 2 400 ((I540 ad nd md td vd gd wd tc vc gc wc)) Kst x) (hR : HR 2 400 ((V540 ad nd md td vd gd wd tc vc gc wc)) (J540 ad nd md td vd gd wd tc vc gc wc) Kret x) (h : (some (.inl (.h0 ((0 : Int)))) : Option (St540 ⊕ Rt540)) = some x) : Te540 cond Kst Kret ad nd md td vd gd wd tc vc gc wc := by
  unfold Te540
  exact stop_at hS _ h (fun n => n) rfl rfl rfl ⟨(rn_loose (use_lo rfl) rfl rfl rfl), ⟨(rn_fn trivial ⟨(rn_ptr (use_lo rfl) rfl rfl), trivial⟩), ⟨(rn_int rfl), ⟨(rn_int rfl), trivial⟩⟩⟩⟩ rfl (entl_bor (use_lo rfl) rfl rfl (entl_borc (use_lo rfl) rfl rfl entl_nil))
attribute [local irreducible] Int.subNatNat in
theorem b540_0 (ad nd md : Nat) (td : NI) (vd : Nat → ByteArray) (gd wd : NI) (tc : Int) (vc : ByteArray) (gc wc : Int) (Kst : KS) (Kret : KR) (x : St540 ⊕ Rt540) (hS : HS 2 400 ((I540 ad nd md td vd gd wd tc vc gc wc)) Kst x) (hR : HR 2 400 ((V540 ad nd md td vd gd wd tc vc gc wc)) (J540 ad nd md td vd gd wd tc vc gc wc) Kret x) (x0 : Int) (h : q540 ad nd md td vd gd wd tc vc gc wc (.h0 x0) = some x) : T540_0 cond Kst Kret ad nd md td vd gd wd tc vc gc wc x0 := by
  unfold T540_0
  rw [q540] at h
  exact bif_split h (fun c0 h => bif_split h (fun c1 h => bif_split h (fun c2 h => cond_yes c2 (cond_yes c2 (cond_yes c2 (bif_split h (fun c3 h => ret_at hR _ h (fun n => n) rfl rfl rfl (rn_int rfl) rfl (entl_bor (use_lo rfl) rfl rfl (entl_borc (use_lo rfl) rfl rfl entl_nil))) (fun c3 h => bif_split h (fun c4 h => stop_at hS _ h (fun n => n) rfl rfl rfl ⟨(rn_loose (use_lo rfl) rfl rfl rfl), ⟨(rn_fn trivial ⟨(rn_ptr (use_lo rfl) rfl rfl), trivial⟩), ⟨(rn_int rfl), ⟨(rn_int rfl), trivial⟩⟩⟩⟩ rfl (entl_bor (use_lo rfl) rfl rfl (entl_borc (use_lo rfl) rfl rfl entl_nil))) (fun c4 h => no_some h)))))) (fun c2 h => no_some h)) (fun c1 h => no_some h)) (fun c0 h => ret_at hR _ h (fun n => n) rfl rfl rfl (rn_int rfl) rfl (entl_bor (use_lo rfl) rfl rfl (entl_borc (use_lo rfl) rfl rfl entl_nil)))
theorem a540 (ad nd md : Nat) (td : NI) (vd : Nat → ByteArray) (gd wd : NI) (tc : Int) (vc : ByteArray) (gc wc : Int) {r : Rt540} (h : Goes ((q540 ad nd md td vd gd wd tc vc gc wc)) ((p540 ad nd md td vd gd wd tc vc gc wc)) r) : CallR Try.prog 40 [.loose ⟨0, 4, ad, 0⟩ nd, .fn (.func 61) [] [.ptr ⟨1, 0, 0, 0⟩]] [[(0, (false, .cols md [.int .i64 td, .str vd, .int .i64 gd, .int .i64 wd])), (1, (false, .cells [.int .i64 tc, .str vc, .int .i64 gc, .int .i64 wc]))]] 2 ((V540 ad nd md td vd gd wd tc vc gc wc) r) ((J540 ad nd md td vd gd wd tc vc gc wc) r) 400 ∧ ∃ F, Try.prog.funcs[40]? = some F ∧ F.body.isSome = true ∧ (F.name == "runtime.NumGoroutine") = false := by
  refine dec_calls (sy := true) (f := 40) (lo := 2) (hi := 400) (H := [[(0, (false, .cols md [.int .i64 td, .str vd, .int .i64 gd, .int .i64 wd])), (1, (false, .cells [.int .i64 tc, .str vc, .int .i64 gc, .int .i64 wc]))]]) (args := [.loose ⟨0, 4, ad, 0⟩ nd, .fn (.func 61) [] [.ptr ⟨1, 0, 0, 0⟩]]) Try.envOk Try.mixed noX_ok ((I540 ad nd md td vd gd wd tc vc gc wc)) ((V540 ad nd md td vd gd wd tc vc gc wc)) (J540 ad nd md td vd gd wd tc vc gc wc) (fn := mkFn Try.f40) (ts := [0, 1, 7, 8]) (n := 400) rfl (by decide) (by simp) (names_of rfl) ?_ ?_ ?_ h
  · intro s; cases s <;> exact ⟨hd_ok _ _, by simp [I540], names_of rfl, Nat.le_of_ble_eq_true rfl⟩
  · intro Kst Kret x hS hR h
    exact Holds.eq (te540 cond Kst Kret ad nd md td vd gd wd tc vc gc wc) (be540 ad nd md td vd gd wd tc vc gc wc Kst Kret x hS hR h)
  · intro Kst Kret x hS hR s h
    cases s with
    | h0 x0 => exact Holds.eq (t540_0 cond Kst Kret ad nd md td vd gd wd tc vc gc wc x0) (b540_0 ad nd md td vd gd wd tc vc gc wc Kst Kret x hS hR x0 h)
noncomputable abbrev w540 {α : Type} (g : Nat → Nat → Nat → (Nat → Int) → (Nat → ByteArray) → (Nat → Int) → (Nat → Int) → Int → ByteArray → Int → Int → α) (x : (Nat × Nat × Nat × (Nat → Int) × (Nat → ByteArray) × (Nat → Int) × (Nat → Int) × Unit) × ((Int × ByteArray × Int × Int × Unit) × Unit) × Unit) : α := g x.1.1 x.1.2.1 x.1.2.2.1 x.1.2.2.2.1 x.1.2.2.2.2.1 x.1.2.2.2.2.2.1 x.1.2.2.2.2.2.2.1 x.2.1.1.1 x.2.1.1.2.1 x.2.1.1.2.2.1 x.2.1.1.2.2.2.1
noncomputable def k540  : Con := ⟨40, [.one (.list [.int .i64, .str, .int .i64, .int .i64]), .fn 61 [.cell [.int .i64, .str, .int .i64, .int .i64]]], w540 (fun ad nd md td vd gd wd tc vc gc wc => decide (ad + nd ≤ md ∧ nd ≤ 1000000)), w540 (fun ad nd md td vd gd wd tc vc gc wc => (V540 ad nd md td vd gd wd tc vc gc wc) (S.idx (fun j => decide (td (j + ad) = tc)) 0 nd)), w540 (fun ad nd md td vd gd wd tc vc gc wc => (N540 ad nd md td vd gd wd tc vc gc wc) (S.idx (fun j => decide (td (j + ad) = tc)) 0 nd)), fun _ _ => .dead⟩
theorem s540' (ad nd md : Nat) (td : Nat → Int) (vd : Nat → ByteArray) (gd wd : Nat → Int) (tc : Int) (vc : ByteArray) (gc wc : Int) (hp : ad + nd ≤ md ∧ nd ≤ 1000000) : ∀ k i : Nat, i + k = nd → Comes (q540 ad nd md td vd gd wd tc vc gc wc) (.h0 (i : Int)) (S.idx (fun j => decide (td (j + ad) = tc)) i k) := by
  obtain ⟨hp1, hp2⟩ := hp
  intro k
  induction k with
  | zero =>
    intro i hi
    apply Comes.of
    show Goes _ _ _
    (first | rw [q540] | unfold q540)
    repeat' (first | with_reducible refine goes_if (fun h => ?_) (fun h => ?_) <;> (try simp only [SH] at h) | exact goes_none.mpr (by omega))
    all_goals first | (exfalso; omega) | rfl | (refine Eq.mpr (congrArg (Comes _ _) ?_) True; simp only [S.idx, Bool.and_eq_true, Bool.or_eq_true, decide_eq_true_eq]; (repeat' split) <;> first | rfl | omega | (exfalso; omega) | (exfalso; simp_all; done) | (exfalso; simp_all; omega) | simp_all) | (refine goes_inr.mpr ?_; simp only [S.idx, Bool.and_eq_true, Bool.or_eq_true, decide_eq_true_eq]; (repeat' split) <;> first | rfl | omega | (exfalso; omega) | (exfalso; simp_all; done) | (exfalso; simp_all; omega) | simp_all)
  | succ k ih =>
    intro i hi
    have ih := ih (i + 1) (by omega)
    apply Comes.of
    show Goes _ _ _
    (first | rw [q540] | unfold q540)
    repeat' (first | with_reducible refine goes_if (fun h => ?_) (fun h => ?_) <;> (try simp only [SH] at h) | exact goes_none.mpr (by omega))
    all_goals first | (exfalso; omega) | rfl | (refine Eq.mpr (congrArg (Comes _ _) ?_) ih; simp only [S.idx, Bool.and_eq_true, Bool.or_eq_true, decide_eq_true_eq]; (repeat' split) <;> first | rfl | omega | (exfalso; omega) | (exfalso; simp_all; done) | (exfalso; simp_all; omega) | simp_all) | (refine goes_inr.mpr ?_; simp only [S.idx, Bool.and_eq_true, Bool.or_eq_true, decide_eq_true_eq]; (repeat' split) <;> first | rfl | omega | (exfalso; omega) | (exfalso; simp_all; done) | (exfalso; simp_all; omega) | simp_all)
theorem s540 (ad nd md : Nat) (td : Nat → Int) (vd : Nat → ByteArray) (gd wd : Nat → Int) (tc : Int) (vc : ByteArray) (gc wc : Int) (hp : ad + nd ≤ md ∧ nd ≤ 1000000) : Goes ((q540 ad nd md td vd gd wd tc vc gc wc)) ((p540 ad nd md td vd gd wd tc vc gc wc)) (S.idx (fun j => decide (td (j + ad) = tc)) 0 nd) := by
  exact s540' ad nd md td vd gd wd tc vc gc wc hp nd 0 (by omega)
theorem k540_ok  : k540.ok Try.prog := by
  intro x hx
  obtain ⟨⟨ad, nd, md, td, vd, gd, wd, _⟩, ⟨⟨tc, vc, gc, wc, _⟩, _⟩, _⟩ := x
  obtain ⟨h1, h2⟩ := a540 ad nd md td vd gd wd tc vc gc wc (s540 ad nd md td vd gd wd tc vc gc wc (of_dec hx rfl))
  exact ⟨⟨400, (by decide : 2 + 1 + 0 ≤ 400), h1⟩, h2⟩
inductive St640 where
  | h0 (x0 : Int)
abbrev Rt640  := Int
noncomputable def V640 (ad nd md : Nat) (td : NI) (vd : Nat → ByteArray) (gd wd : NI) (r : Rt640) : PV := PV.int .i64 r
noncomputable def N640 (ad nd md : Nat) (td : NI) (vd : Nat → ByteArray) (gd wd : NI) (r : Rt640) : List Blk := []
noncomputable def I640 (ad nd md : Nat) (td : NI) (vd : Nat → ByteArray) (gd wd : NI) : St640 → Hd
  | .h0 x0 => ⟨hd Try.f40 0, [PV.loose (PA.mk (0) (4) ad (0)) nd, PV.fn (Go.Fn.func (21)) [] [],
 PV.int .i64 (↑nd : Int), PV.int .i64 x0], [[], [(0, (false, .cols md [.int .i64 td, .str vd, .int .i64 gd, .int .i64 wd]))]], 1⟩
noncomputable def q640 (ad nd md : Nat) (td : NI) (vd : Nat → ByteArray) (gd wd : NI) : St640 → Option (St640 ⊕ Rt640) | .h0 x0 => bif (decide (x0 < (↑nd : Int))) then (bif (decide ((0 : Int) ≤ x0 ∧ x0 < (↑nd : Int))) then (bif (decide (Int.toNat x0 + ad < md)) then (bif (decide ((↑(ByteArray.size (vd (Int.toNat x0 + ad))) : Int) > 40)) then (some (.inr (x0))) else (bif (lim .i64 (x0 + 1)) then (some (.inl (.h0 (x0 + 1)))) else (none))) else (none)) else (none)) else (some (.inr ((-1 : Int))))
noncomputable def p640 (ad nd md : Nat) (td : NI) (vd : Nat → ByteArray) (gd wd : NI) : Option (St640 ⊕ Rt640) := some (.inl (.h0 ((0 : Int))))
def Te640 (test : TT) (Kst : KS) (Kret : KR) (ad nd md : Nat) (td : NI) (vd : Nat → ByteArray) (gd wd : NI) : Prop := Kst (hd Try.f40 0) ([PV.loose (PA.mk (0) (4) ad (0)) nd, PV.fn (Go.Fn.func (21)) [] [], PV.int .i64 (↑nd : Int), PV.int .i64 (0 : Int)]) ([[(0, false, Blk.cols md [Col.int .i64 td, Col.str vd, Col.int .i64 gd, Col.int .i64 wd])]]) (1)
theorem te640 (test : TT) (Kst : KS) (Kret : KR) (ad nd md : Nat) (td : NI) (vd : Nat → ByteArray) (gd wd : NI) : run test Try.env true noX true 400 ⟨40, [.cd (mkFn Try.f40).body], argT 0 [.loose ⟨0, 4, ad, 0⟩ nd, .fn (.func 21) [] []], [[], [(0, (false, .cols md [.int .i64 td, .str vd, .int .i64 gd, .int .i64 wd]))]], 1⟩ (proj 1 [0, 1, 7, 8] Kst Kret) =
  Te640 test Kst Kret ad nd md td vd gd wd := by kernel_rfl
def T640_0 (test : TT) (Kst : KS) (Kret : KR) (ad nd md : Nat) (td : NI) (vd : Nat → ByteArray) (gd wd : NI) (x0 : Int) : Prop := test (decide (x0 < (↑nd : Int))) (test (decide ((0 : Int) ≤ x0 ∧ x0 < (↑nd : Int))) (test (decide (Int.toNat x0 + ad < md)) (test (decide (Int.toNat x0 + ad < md)) (test (decide (Int.toNat x0 + ad < md)) (test (decide (Int.toNat x0 + ad < md)) (test (decide ((↑(ByteArray.size (vd (Int.toNat x0 + ad))) : Int) > 40)) (Kret (PV.int .i64 x0) ([[(0, false, Blk.cols md [Col.int .i64 td, Col.str vd, Col.int .i64 gd, Col.int .i64 wd])]]) (2)) (test (lim .i64 (x0 + 1)) (Kst (hd Try.f40 0) ([PV.loose (PA.mk (0) (4) ad (0)) nd, PV.fn (Go.Fn.func (21)) [] [], PV.int .i64 (↑nd : Int), PV.int .i64 (x0 + 1)]) ([[(0, false, Blk.cols md [Col.int .i64 td, Col.str vd, Col.int .i64 gd, Col.int .i64 wd])]]) (2)) (False))) (False)) (False)) (False)) (False)) (False)) (Kret (PV.int .i64 (-1 : Int)) ([[(0, false, Blk.cols md [Col.int .i64 td, Col.str vd, Col.int .i64 gd, Col.int .i64 wd])]]) (1))
theorem t640_0 (test : TT) (Kst : KS) (Kret : KR) (ad nd md : Nat) (td : NI) (vd : Nat → ByteArray) (gd wd : NI) (x0 : Int) : run test Try.env true noX true 400 ⟨40, hd Try.f40 0, zipT [0, 1, 7, 8] [PV.loose (PA.mk (0) (4) ad (0)) nd, PV.fn (Go.Fn.func (21)) [] [],
 PV.int .i64 (↑nd : Int), PV.int .i64 x0], [[], [(0, (false, .cols md [.int .i64 td, .str vd, .int .i64 gd, .int .i64 wd]))]], 1⟩ (proj 1 [0, 1, 7, 8] Kst Kret) =
  T640_0 test Kst Kret ad nd md td vd gd wd x0 := by kernel_rfl
noncomputable abbrev J640 (ad nd md : Nat) (td : NI) (vd : Nat → ByteArray) (gd : NI) (wd : NI) : Rt640 → Heap := fun r => [newL (1 + 1) ((N640 ad nd md td vd gd wd) r) ++ [(0, (false, .cols md [.int .i64 td, .str vd, .int .i64 gd, .int .i64 wd]))]]
attribute [local irreducible] Int.subNatNat in
theorem be640 (ad nd md : Nat) (td : NI) (vd : Nat → ByteArray) (gd wd : NI) (Kst : KS) (Kret : KR) (x : St640 ⊕ Rt640) (hS : HS 1 400 ((I640 ad nd md td vd gd wd)) Kst x) (hR : HR 1 400 ((V640 ad nd md td vd gd wd)) (J640 ad nd md td vd gd wd) Kret x) (h : (some (.inl (.h0 ((0 : Int)))) : Option (St640 ⊕ Rt640)) = some x) : Te640 cond Kst Kret ad nd md td vd gd wd := by
  unfold Te640
  exact stop_at hS _ h (fun n => n) rfl rfl rfl ⟨(rn_loose (use_lo rfl) rfl rfl rfl), ⟨(rn_fn trivial trivial), ⟨(rn_int rfl), ⟨(rn_int rfl), trivial⟩⟩⟩⟩ rfl (entl_bor (use_lo rfl) rfl rfl entl_nil)
attribute [local irreducible] Int.subNatNat in
theorem b640_0 (ad nd md : Nat) (td : NI) (vd : Nat → ByteArray) (gd wd : NI) (Kst : KS) (Kret : KR) (x : St640 ⊕ Rt640) (hS : HS 1 400 ((I640 ad nd md td vd gd wd)) Kst x) (hR : HR 1 400 ((V640 ad nd md td vd gd wd)) (J640 ad nd md td vd gd wd) Kret x) (x0 : Int) (h : q640 ad nd md td vd gd wd (.h0 x0) = some x) : T640_0 cond Kst Kret ad nd md td vd gd wd x0 := by
  unfold T640_0
  rw [q640] at h
  exact bif_split h (fun c0 h => bif_split h (fun c1 h => bif_split h (fun c2 h => cond_yes c2 (cond_yes c2 (cond_yes c2 (bif_split h (fun c3 h => ret_at hR _ h (fun n => n) rfl rfl rfl (rn_int rfl) rfl (entl_bor (use_lo rfl) rfl rfl entl_nil)) (fun c3 h => bif_split h (fun c4 h => stop_at hS _ h (fun n => n) rfl rfl rfl ⟨(rn_loose (use_lo rfl) rfl rfl rfl), ⟨(rn_fn trivial trivial), ⟨(rn_int rfl), ⟨(rn_int rfl), trivial⟩⟩⟩⟩ rfl (entl_bor (use_lo rfl) rfl rfl entl_nil)) (fun c4 h => no_some h)))))) (fun c2 h => no_some h)) (fun c1 h => no_some h)) (fun c0 h => ret_at hR _ h (fun n => n) rfl rfl rfl (rn_int rfl) rfl (entl_bor (use_lo rfl) rfl rfl entl_nil))
theorem a640 (ad nd md : Nat) (td : NI) (vd : Nat → ByteArray) (gd wd : NI) {r : Rt640} (h : Goes ((q640 ad nd md td vd gd wd)) ((p640 ad nd md td vd gd wd)) r) : CallR Try.prog 40 [.loose ⟨0, 4, ad, 0⟩ nd, .fn (.func 21) [] []] [[(0, (false, .cols md [.int .i64 td, .str vd, .int .i64 gd, .int .i64 wd]))]] 1 ((V640 ad nd md td vd gd wd) r) ((J640 ad nd md td vd gd wd) r) 400 ∧ ∃ F, Try.prog.funcs[40]? = some F ∧ F.body.isSome = true ∧ (F.name == "runtime.NumGoroutine") = false := by
  refine dec_calls (sy := true) (f := 40) (lo := 1) (hi := 400) (H := [[(0, (false, .cols md [.int .i64 td, .str vd, .int .i64 gd, .int .i64 wd]))]]) (args := [.loose ⟨0, 4, ad, 0⟩ nd, .fn (.func 21) [] []]) Try.envOk Try.mixed noX_ok ((I640 ad nd md td vd gd wd)) ((V640 ad nd md td vd gd wd)) (J640 ad nd md td vd gd wd) (fn := mkFn Try.f40) (ts := [0, 1, 7, 8]) (n := 400) rfl (by decide) (by simp) (names_of rfl) ?_ ?_ ?_ h
  · intro s; cases s <;> exact ⟨hd_ok _ _, by simp [I640], names_of rfl, Nat.le_of_ble_eq_true rfl⟩
  · intro Kst Kret x hS hR h
    exact Holds.eq (te640 cond Kst Kret ad nd md td vd gd wd) (be640 ad nd md td vd gd wd Kst Kret x hS hR h)
  · intro Kst Kret x hS hR s h
    cases s with
    | h0 x0 => exact Holds.eq (t640_0 cond Kst Kret ad nd md td vd gd wd x0) (b640_0 ad nd md td vd gd wd Kst Kret x hS hR x0 h)
noncomputable abbrev w640 {α : Type} (g : Nat → Nat → Nat → (Nat → Int) → (Nat → ByteArray) → (Nat → Int) → (Nat → Int) → α) (x : (Nat × Nat × Nat × (Nat → Int) × (Nat → ByteArray) × (Nat → Int) × (Nat → Int) × Unit) × (Unit) × Unit) : α := g x.1.1 x.1.2.1 x.1.2.2.1 x.1.2.2.2.1 x.1.2.2.2.2.1 x.1.2.2.2.2.2.1 x.1.2.2.2.2.2.2.1
noncomputable def k640  : Con := ⟨40, [.one (.list [.int .i64, .str, .int .i64, .int .i64]), .fn 21 []], w640 (fun ad nd md td vd gd wd => decide (ad + nd ≤ md ∧ nd ≤ 1000000)), w640 (fun ad nd md td vd gd wd => (V640 ad nd md td vd gd wd) (S.idx (fun j => decide (((vd (j + ad)).size : Int) > 40)) 0 nd)), w640 (fun ad nd md td vd gd wd => (N640 ad nd md td vd gd wd) (S.idx (fun j => decide (((vd (j + ad)).size : Int) > 40)) 0 nd)), fun _ _ => .dead⟩
theorem s640' (ad nd md : Nat) (td : Nat → Int) (vd : Nat → ByteArray) (gd wd : Nat → Int) (hp : ad + nd ≤ md ∧ nd ≤ 1000000) : ∀ k i : Nat, i + k = nd → Comes (q640 ad nd md td vd gd wd) (.h0 (i : Int)) (S.idx (fun j => decide (((vd (j + ad)).size : Int) > 40)) i k) := by
  obtain ⟨hp1, hp2⟩ := hp
  intro k
  induction k with
  | zero =>
    intro i hi
    apply Comes.of
    show Goes _ _ _
    (first | rw [q640] | unfold q640)
    repeat' (first | with_reducible refine goes_if (fun h => ?_) (fun h => ?_) <;> (try simp only [SH] at h) | exact goes_none.mpr (by omega))
    all_goals first | (exfalso; omega) | rfl | (refine Eq.mpr (congrArg (Comes _ _) ?_) True; simp only [S.idx, Bool.and_eq_true, Bool.or_eq_true, decide_eq_true_eq]; (repeat' split) <;> first | rfl | omega | (exfalso; omega) | (exfalso; simp_all; done) | (exfalso; simp_all; omega) | simp_all) | (refine goes_inr.mpr ?_; simp only [S.idx, Bool.and_eq_true, Bool.or_eq_true, decide_eq_true_eq]; (repeat' split) <;> first | rfl | omega | (exfalso; omega) | (exfalso; simp_all; done) | (exfalso; simp_all; omega) | simp_all)
  | succ k ih =>
    intro i hi
    have ih := ih (i + 1) (by omega)
    apply Comes.of
    show Goes _ _ _
    (first | rw [q640] | unfold q640)
    repeat' (first | with_reducible refine goes_if (fun h => ?_) (fun h => ?_) <;> (try simp only [SH] at h) | exact goes_none.mpr (by omega))
    all_goals first | (exfalso; omega) | rfl | (refine Eq.mpr (congrArg (Comes _ _) ?_) ih; simp only [S.idx, Bool.and_eq_true, Bool.or_eq_true, decide_eq_true_eq]; (repeat' split) <;> first | rfl | omega | (exfalso; omega) | (exfalso; simp_all; done) | (exfalso; simp_all; omega) | simp_all) | (refine goes_inr.mpr ?_; simp only [S.idx, Bool.and_eq_true, Bool.or_eq_true, decide_eq_true_eq]; (repeat' split) <;> first | rfl | omega | (exfalso; omega) | (exfalso; simp_all; done) | (exfalso; simp_all; omega) | simp_all)
theorem s640 (ad nd md : Nat) (td : Nat → Int) (vd : Nat → ByteArray) (gd wd : Nat → Int) (hp : ad + nd ≤ md ∧ nd ≤ 1000000) : Goes ((q640 ad nd md td vd gd wd)) ((p640 ad nd md td vd gd wd)) (S.idx (fun j => decide (((vd (j + ad)).size : Int) > 40)) 0 nd) := by
  exact s640' ad nd md td vd gd wd hp nd 0 (by omega)
theorem k640_ok  : k640.ok Try.prog := by
  intro x hx
  obtain ⟨⟨ad, nd, md, td, vd, gd, wd, _⟩, ⟨_⟩, _⟩ := x
  obtain ⟨h1, h2⟩ := a640 ad nd md td vd gd wd (s640 ad nd md td vd gd wd (of_dec hx rfl))
  exact ⟨⟨400, (by decide : 1 + 1 + 0 ≤ 400), h1⟩, h2⟩
noncomputable def xI1 (test : Bool → Prop → Prop → Prop) : Ext := consX test [k540, k640]
theorem xI1_ok  : ExtOk Try.prog (xI1 cond) := consX_ok ⟨k540_ok, k640_ok, trivial⟩
abbrev St520  := Empty
abbrev Rt520  := Bool
noncomputable def V520 (ad nd md : Nat) (td : NI) (vd : Nat → ByteArray) (gd wd : NI) (tc : Int) (vc : ByteArray) (gc wc : Int) (r : Rt520) : PV := PV.bool r
noncomputable def N520 (ad nd md : Nat) (td : NI) (vd : Nat → ByteArray) (gd wd : NI) (tc : Int) (vc : ByteArray) (gc wc : Int) (r : Rt520) : List Blk := []
noncomputable def I520 (ad nd md : Nat) (td : NI) (vd : Nat → ByteArray) (gd wd : NI) (tc : Int) (vc : ByteArray) (gc wc : Int) : St520 → Hd := fun s => s.elim
noncomputable def q520 (ad nd md : Nat) (td : NI) (vd : Nat → ByteArray) (gd wd : NI) (tc : Int) (vc : ByteArray) (gc wc : Int) : St520 → Option (St520 ⊕ Rt520) := fun s => s.elim
noncomputable def p520 (ad nd md : Nat) (td : NI) (vd : Nat → ByteArray) (gd wd : NI) (tc : Int) (vc : ByteArray) (gc wc : Int) : Option (St520 ⊕ Rt520) := bif (decide (ad + nd ≤ md ∧ nd ≤ 1000000)) then (bif (decide (S.idx (fun j => decide (td (j + ad) = tc)) (0) nd ≥ 0)) then (some (.inr (true))) else (some (.inr (false)))) else (none)
def Te520 (test : TT) (Kst : KS) (Kret : KR) (ad nd md : Nat) (td : NI) (vd : Nat → ByteArray) (gd wd : NI) (tc : Int) (vc : ByteArray) (gc wc : Int) : Prop := test (decide (ad + nd ≤ md ∧ nd ≤ 1000000)) (test (decide (S.idx (fun j => decide (td (j + ad) = tc)) (0) nd ≥ 0)) (Kret (PV.tf true) ([[(1, false, Blk.cells [PV.int .i64 tc, PV.str vc, PV.int .i64 gc, PV.int .i64 wc]), (0, false, Blk.cols md [Col.int .i64 td, Col.str vd, Col.int .i64 gd, Col.int .i64 wd])]]) (3)) (Kret (PV.tf false) ([[(1, false, Blk.cells [PV.int .i64 tc, PV.str vc, PV.int .i64 gc, PV.int .i64 wc]), (0, false, Blk.cols md [Col.int .i64 td, Col.str vd, Col.int .i64 gd, Col.int .i64 wd])]]) (3))) (False)
theorem te520 (test : TT) (Kst : KS) (Kret : KR) (ad nd md : Nat) (td : NI) (vd : Nat → ByteArray) (gd wd : NI) (tc : Int) (vc : ByteArray) (gc wc : Int) : run test Try.env true (xI1 test) true 400 ⟨20, [.cd (mkFn Try.f20).body], argT 0 [.loose ⟨0, 4, ad, 0⟩ nd, .fn (.func 61) [] [.ptr ⟨1, 0, 0, 0⟩]], [[], [(0, (false, .cols md [.int .i64 td, .str vd, .int .i64 gd, .int .i64 wd])), (1, (false, .cells [.int .i64 tc, .str vc, .int .i64 gc, .int .i64 wc]))]], 2⟩ (proj 2 [] Kst Kret) =
  Te520 test Kst Kret ad nd md td vd gd wd tc vc gc wc := by kernel_rfl
noncomputable abbrev J520 (ad nd md : Nat) (td : NI) (vd : Nat → ByteArray) (gd : NI) (wd : NI) (tc : Int) (vc : ByteArray) (gc : Int) (wc : Int) : Rt520 → Heap := fun r => [newL (2 + 1) ((N520 ad nd md td vd gd wd tc vc gc wc) r) ++ [(0, (false, .cols md [.int .i64 td, .str vd, .int .i64 gd, .int .i64 wd])), (1, (false, .cells [.int .i64 tc, .str vc, .int .i64 gc, .int .i64 wc]))]]
attribute [local irreducible] Int.subNatNat in
theorem be520 (ad nd md : Nat) (td : NI) (vd : Nat → ByteArray) (gd wd : NI) (tc : Int) (vc : ByteArray) (gc wc : Int) (Kst : KS) (Kret : KR) (x : St520 ⊕ Rt520) (hS : HS 2 400 ((I520 ad nd md td vd gd wd tc vc gc wc)) Kst x) (hR : HR 2 400 ((V520 ad nd md td vd gd wd tc vc gc wc)) (J520 ad nd md td vd gd wd tc vc gc wc) Kret x) (h : p520 ad nd md td vd gd wd tc vc gc wc = some x) : Te520 cond Kst Kret ad nd md td vd gd wd tc vc gc wc := by
  unfold Te520
  unfold p520 at h
  exact bif_split h (fun c0 h => bif_split h (fun c1 h => ret_at hR _ h (fun n => n) rfl rfl rfl (rn_bool_tf rfl) rfl (entl_bor (use_lo rfl) rfl rfl (entl_borc (use_lo rfl) rfl rfl entl_nil))) (fun c1 h => ret_at hR _ h (fun n => n) rfl rfl rfl (rn_bool_tf rfl) rfl (entl_bor (use_lo rfl) rfl rfl (entl_borc (use_lo rfl) rfl rfl entl_nil)))) (fun c0 h => no_some h)
theorem a520 (ad nd md : Nat) (td : NI) (vd : Nat → ByteArray) (gd wd : NI) (tc : Int) (vc : ByteArray) (gc wc : Int) {r : Rt520} (h : Goes ((q520 ad nd md td vd gd wd tc vc gc wc)) ((p520 ad nd md td vd gd wd tc vc gc wc)) r) : CallR Try.prog 20 [.loose ⟨0, 4, ad, 0⟩ nd, .fn (.func 61) [] [.ptr ⟨1, 0, 0, 0⟩]] [[(0, (false, .cols md [.int .i64 td, .str vd, .int .i64 gd, .int .i64 wd])), (1, (false, .cells [.int .i64 tc, .str vc, .int .i64 gc, .int .i64 wc]))]] 2 ((V520 ad nd md td vd gd wd tc vc gc wc) r) ((J520 ad nd md td vd gd wd tc vc gc wc) r) 400 ∧ ∃ F, Try.prog.funcs[20]? = some F ∧ F.body.isSome = true ∧ (F.name == "runtime.NumGoroutine") = false := by
  refine dec_calls (sy := true) (f := 20) (lo := 2) (hi := 400) (H := [[(0, (false, .cols md [.int .i64 td, .str vd, .int .i64 gd, .int .i64 wd])), (1, (false, .cells [.int .i64 tc, .str vc, .int .i64 gc, .int .i64 wc]))]]) (args := [.loose ⟨0, 4, ad, 0⟩ nd, .fn (.func 61) [] [.ptr ⟨1, 0, 0, 0⟩]]) Try.envOk Try.mixed xI1_ok ((I520 ad nd md td vd gd wd tc vc gc wc)) ((V520 ad nd md td vd gd wd tc vc gc wc)) (J520 ad nd md td vd gd wd tc vc gc wc) (fn := mkFn Try.f20) (ts := []) (n := 400) rfl (by decide) (by simp) (names_of rfl) ?_ ?_ ?_ h
  · intro s; exact s.elim
  · intro Kst Kret x hS hR h
    exact Holds.eq (te520 cond Kst Kret ad nd md td vd gd wd tc vc gc wc) (be520 ad nd md td vd gd wd tc vc gc wc Kst Kret x hS hR h)
  · intro Kst Kret x hS hR s h; exact s.elim
noncomputable abbrev w520 {α : Type} (g : Nat → Nat → Nat → (Nat → Int) → (Nat → ByteArray) → (Nat → Int) → (Nat → Int) → Int → ByteArray → Int → Int → α) (x : (Nat × Nat × Nat × (Nat → Int) × (Nat → ByteArray) × (Nat → Int) × (Nat → Int) × Unit) × ((Int × ByteArray × Int × Int × Unit) × Unit) × Unit) : α := g x.1.1 x.1.2.1 x.1.2.2.1 x.1.2.2.2.1 x.1.2.2.2.2.1 x.1.2.2.2.2.2.1 x.1.2.2.2.2.2.2.1 x.2.1.1.1 x.2.1.1.2.1 x.2.1.1.2.2.1 x.2.1.1.2.2.2.1
noncomputable def k520  : Con := ⟨20, [.one (.list [.int .i64, .str, .int .i64, .int .i64]), .fn 61 [.cell [.int .i64, .str, .int .i64, .int .i64]]], w520 (fun ad nd md td vd gd wd tc vc gc wc => decide (ad + nd ≤ md ∧ nd ≤ 1000000)), w520 (fun ad nd md td vd gd wd tc vc gc wc => (V520 ad nd md td vd gd wd tc vc gc wc) (S.any (fun j => decide (td (j + ad) = tc)) nd)), w520 (fun ad nd md td vd gd wd tc vc gc wc => (N520 ad nd md td vd gd wd tc vc gc wc) (S.any (fun j => decide (td (j + ad) = tc)) nd)), fun _ _ => .dead⟩
theorem s520 (ad nd md : Nat) (td : Nat → Int) (vd : Nat → ByteArray) (gd wd : Nat → Int) (tc : Int) (vc : ByteArray) (gc wc : Int) (hp : ad + nd ≤ md ∧ nd ≤ 1000000) : Goes ((q520 ad nd md td vd gd wd tc vc gc wc)) ((p520 ad nd md td vd gd wd tc vc gc wc)) (S.any (fun j => decide (td (j + ad) = tc)) nd) := by
  have hp' := hp
  obtain ⟨hp1, hp2⟩ := hp
  rw [← idx_any (p := (fun j => decide (td (j + ad) = tc))) (n := nd)]
  show Goes _ _ _
  unfold p520
  repeat' (first | with_reducible refine goes_if (fun h => ?_) (fun h => ?_) <;> (try simp only [SH] at h) | exact goes_none.mpr (by omega))
  all_goals first | (exfalso; omega) | (exfalso; simp_all; done) | (refine goes_inr.mpr ?_; first | rfl | (symm; simp_all; done) | (symm; simp_all; omega))
theorem k520_ok  : k520.ok Try.prog := by
  intro x hx
  obtain ⟨⟨ad, nd, md, td, vd, gd, wd, _⟩, ⟨⟨tc, vc, gc, wc, _⟩, _⟩, _⟩ := x
  obtain ⟨h1, h2⟩ := a520 ad nd md td vd gd wd tc vc gc wc (s520 ad nd md td vd gd wd tc vc gc wc (of_dec hx rfl))
  exact ⟨⟨400, (by decide : 2 + 1 + 0 ≤ 400), h1⟩, h2⟩
abbrev St620  := Empty
abbrev Rt620  := Bool
noncomputable def V620 (ad nd md : Nat) (td : NI) (vd : Nat → ByteArray) (gd wd : NI) (r : Rt620) : PV := PV.bool r
noncomputable def N620 (ad nd md : Nat) (td : NI) (vd : Nat → ByteArray) (gd wd : NI) (r : Rt620) : List Blk := []
noncomputable def I620 (ad nd md : Nat) (td : NI) (vd : Nat → ByteArray) (gd wd : NI) : St620 → Hd := fun s => s.elim
noncomputable def q620 (ad nd md : Nat) (td : NI) (vd : Nat → ByteArray) (gd wd : NI) : St620 → Option (St620 ⊕ Rt620) := fun s => s.elim
noncomputable def p620 (ad nd md : Nat) (td : NI) (vd : Nat → ByteArray) (gd wd : NI) : Option (St620 ⊕ Rt620) := bif (decide (ad + nd ≤ md ∧ nd ≤ 1000000)) then (bif (decide (S.idx (fun j => decide ((↑(ByteArray.size (vd (j + ad))) : Int) > 40)) (0) nd ≥ 0)) then (some (.inr (true))) else (some (.inr (false)))) else (none)
def Te620 (test : TT) (Kst : KS) (Kret : KR) (ad nd md : Nat) (td : NI) (vd : Nat → ByteArray) (gd wd : NI) : Prop := test (decide (ad + nd ≤ md ∧ nd ≤ 1000000)) (test (decide (S.idx (fun j => decide ((↑(ByteArray.size (vd (j + ad))) : Int) > 40)) (0) nd ≥ 0)) (Kret (PV.tf true) ([[(0, false, Blk.cols md [Col.int .i64 td, Col.str vd, Col.int .i64 gd, Col.int .i64 wd])]]) (2)) (Kret (PV.tf false) ([[(0, false, Blk.cols md [Col.int .i64 td, Col.str vd, Col.int .i64 gd, Col.int .i64 wd])]]) (2))) (False)
theorem te620 (test : TT) (Kst : KS) (Kret : KR) (ad nd md : Nat) (td : NI) (vd : Nat → ByteArray) (gd wd : NI) : run test Try.env true (xI1 test) true 400 ⟨20, [.cd (mkFn Try.f20).body], argT 0 [.loose ⟨0, 4, ad, 0⟩ nd, .fn (.func 21) [] []], [[], [(0, (false, .cols md [.int .i64 td, .str vd, .int .i64 gd, .int .i64 wd]))]], 1⟩ (proj 1 [] Kst Kret) =
  Te620 test Kst Kret ad nd md td vd gd wd := by kernel_rfl
noncomputable abbrev J620 (ad nd md : Nat) (td : NI) (vd : Nat → ByteArray) (gd : NI) (wd : NI) : Rt620 → Heap := fun r => [newL (1 + 1) ((N620 ad nd md td vd gd wd) r) ++ [(0, (false, .cols md [.int .i64 td, .str vd, .int .i64 gd, .int .i64 wd]))]]
attribute [local irreducible] Int.subNatNat in
theorem be620 (ad nd md : Nat) (td : NI) (vd : Nat → ByteArray) (gd wd : NI) (Kst : KS) (Kret : KR) (x : St620 ⊕ Rt620) (hS : HS 1 400 ((I620 ad nd md td vd gd wd)) Kst x) (hR : HR 1 400 ((V620 ad nd md td vd gd wd)) (J620 ad nd md td vd gd wd) Kret x) (h : p620 ad nd md td vd gd wd = some x) : Te620 cond Kst Kret ad nd md td vd gd wd := by
  unfold Te620
  unfold p620 at h
  exact bif_split h (fun c0 h => bif_split h (fun c1 h => ret_at hR _ h (fun n => n) rfl rfl rfl (rn_bool_tf rfl) rfl (entl_bor (use_lo rfl) rfl rfl entl_nil)) (fun c1 h => ret_at hR _ h (fun n => n) rfl rfl rfl (rn_bool_tf rfl) rfl (entl_bor (use_lo rfl) rfl rfl entl_nil))) (fun c0 h => no_some h)
theorem a620 (ad nd md : Nat) (td : NI) (vd : Nat → ByteArray) (gd wd : NI) {r : Rt620} (h : Goes ((q620 ad nd md td vd gd wd)) ((p620 ad nd md td vd gd wd)) r) : CallR Try.prog 20 [.loose ⟨0, 4, ad, 0⟩ nd, .fn (.func 21) [] []] [[(0, (false, .cols md [.int .i64 td, .str vd, .int .i64 gd, .int .i64 wd]))]] 1 ((V620 ad nd md td vd gd wd) r) ((J620 ad nd md td vd gd wd) r) 400 ∧ ∃ F, Try.prog.funcs[20]? = some F ∧ F.body.isSome = true ∧ (F.name == "runtime.NumGoroutine") = false := by
  refine dec_calls (sy := true) (f := 20) (lo := 1) (hi := 400) (H := [[(0, (false, .cols md [.int .i64 td, .str vd, .int .i64 gd, .int .i64 wd]))]]) (args := [.loose ⟨0, 4, ad, 0⟩ nd, .fn (.func 21) [] []]) Try.envOk Try.mixed xI1_ok ((I620 ad nd md td vd gd wd)) ((V620 ad nd md td vd gd wd)) (J620 ad nd md td vd gd wd) (fn := mkFn Try.f20) (ts := []) (n := 400) rfl (by decide) (by simp) (names_of rfl) ?_ ?_ ?_ h
  · intro s; exact s.elim
  · intro Kst Kret x hS hR h
    exact Holds.eq (te620 cond Kst Kret ad nd md td vd gd wd) (be620 ad nd md td vd gd wd Kst Kret x hS hR h)
  · intro Kst Kret x hS hR s h; exact s.elim
noncomputable abbrev w620 {α : Type} (g : Nat → Nat → Nat → (Nat → Int) → (Nat → ByteArray) → (Nat → Int) → (Nat → Int) → α) (x : (Nat × Nat × Nat × (Nat → Int) × (Nat → ByteArray) × (Nat → Int) × (Nat → Int) × Unit) × (Unit) × Unit) : α := g x.1.1 x.1.2.1 x.1.2.2.1 x.1.2.2.2.1 x.1.2.2.2.2.1 x.1.2.2.2.2.2.1 x.1.2.2.2.2.2.2.1
noncomputable def k620  : Con := ⟨20, [.one (.list [.int .i64, .str, .int .i64, .int .i64]), .fn 21 []], w620 (fun ad nd md td vd gd wd => decide (ad + nd ≤ md ∧ nd ≤ 1000000)), w620 (fun ad nd md td vd gd wd => (V620 ad nd md td vd gd wd) (S.any (fun j => decide (((vd (j + ad)).size : Int) > 40)) nd)), w620 (fun ad nd md td vd gd wd => (N620 ad nd md td vd gd wd) (S.any (fun j => decide (((vd (j + ad)).size : Int) > 40)) nd)), fun _ _ => .dead⟩
theorem s620 (ad nd md : Nat) (td : Nat → Int) (vd : Nat → ByteArray) (gd wd : Nat → Int) (hp : ad + nd ≤ md ∧ nd ≤ 1000000) : Goes ((q620 ad nd md td vd gd wd)) ((p620 ad nd md td vd gd wd)) (S.any (fun j => decide (((vd (j + ad)).size : Int) > 40)) nd) := by
  have hp' := hp
  obtain ⟨hp1, hp2⟩ := hp
  rw [← idx_any (p := (fun j => decide (((vd (j + ad)).size : Int) > 40))) (n := nd)]
  show Goes _ _ _
  unfold p620
  repeat' (first | with_reducible refine goes_if (fun h => ?_) (fun h => ?_) <;> (try simp only [SH] at h) | exact goes_none.mpr (by omega))
  all_goals first | (exfalso; omega) | (exfalso; simp_all; done) | (refine goes_inr.mpr ?_; first | rfl | (symm; simp_all; done) | (symm; simp_all; omega))
theorem k620_ok  : k620.ok Try.prog := by
  intro x hx
  obtain ⟨⟨ad, nd, md, td, vd, gd, wd, _⟩, ⟨_⟩, _⟩ := x
  obtain ⟨h1, h2⟩ := a620 ad nd md td vd gd wd (s620 ad nd md td vd gd wd (of_dec hx rfl))
  exact ⟨⟨400, (by decide : 1 + 1 + 0 ≤ 400), h1⟩, h2⟩
noncomputable def xI2 (test : Bool → Prop → Prop → Prop) : Ext := consX test [k560, k562, k520, k620]
theorem xI2_ok  : ExtOk Try.prog (xI2 cond) := consX_ok ⟨k560_ok, k562_ok, k520_ok, k620_ok, trivial⟩
section
variable {P : Program} {E : Env} (ok : EnvOk P E) (hm : P.follows .mixedOrders = true) {X : Ext} (hX : ExtOk P X)
include ok hm hX
theorem dec_free  {sy : Bool} {lo hi : Nat} {R : Type} {q : Empty → Option (Empty ⊕ R)} {p : Option (Empty ⊕ R)} {r : R} (I : Empty → Hd) (V : R → PV) (H1 : R → Heap) {f : FuncId} {fn : FnI} {args : List PV} {H : Heap} {n : Nat} (hf : nthFn E.fs f = some fn) (hl : lo ≤ hi) (hne : H ≠ []) (hN : Names H lo)
    (entry : ∀ Kst Kret x, HS lo hi I Kst x → HR lo hi V H1 Kret x → p = some x → Holds (run cond E sy X false n ⟨f, [.cd fn.body], argT 0 args, [] :: H, lo⟩ (proj lo [] Kst Kret)))
    (h : Goes q p r) : CallR P f args H lo (V r) (H1 r) hi ∧ ∃ F, P.funcs[f]? = some F ∧ F.body.isSome = true ∧ (F.name == "runtime.NumGoroutine") = false := by
  cases hp : p with
  | none => rw [hp] at h; exact h.elim
  | some x =>
    rw [hp] at h
    cases x with
    | inl s => exact s.elim
    | inr r' =>
      cases h
      exact calls_free ok hm hX hf hl hne hN (entry (fun _ _ _ _ => False) _ (.inr _) (fun s => s.elim) (fun r hr v' H' fr' h => by cases hr; exact h) hp)
end
theorem cmpN_k (a b : Int) : (a < b ∧ S.cmpN a b = -1) ∨ (a = b ∧ S.cmpN a b = 0) ∨ (a > b ∧ S.cmpN a b = 1) := by
  unfold S.cmpN
  rcases Int.lt_trichotomy a b with h | h | h
  · left; exact ⟨h, if_pos h⟩
  · right; left; exact ⟨h, by rw [if_neg (by omega), if_neg (by omega)]⟩
  · right; right; exact ⟨h, by rw [if_neg (by omega), if_pos h]⟩
theorem or0_0  {x : Int} : S.or0 0 x = x := rfl
abbrev St13  := Empty
abbrev Rt13  := Int
noncomputable def V13 (ta tn tc ts tp ua un uc us up : Int) (r : Rt13) : PV := PV.int .i64 r
noncomputable def N13 (ta tn tc ts tp ua un uc us up : Int) (r : Rt13) : List Blk := []
noncomputable def I13 (ta tn tc ts tp ua un uc us up : Int) : St13 → Hd := fun s => s.elim
noncomputable def q13 (ta tn tc ts tp ua un uc us up : Int) : St13 → Option (St13 ⊕ Rt13) := fun s => s.elim
noncomputable def p13 (ta tn tc ts tp ua un uc us up : Int) : Option (St13 ⊕ Rt13) := bif (S.cmpN ta ua != 0) then (some (.inr (S.cmpN ta ua))) else (bif (S.cmpN ts us != 0) then (some (.inr (S.cmpN ts us))) else (bif (S.cmpN tn un != 0) then (some (.inr (S.cmpN tn un))) else (bif (S.cmpN tc uc != 0) then (some (.inr (S.cmpN tc uc))) else (bif (S.cmpN tp up != 0) then (some (.inr (S.cmpN tp up))) else (some (.inr ((0 : Int))))))))
def Te13 (test : TT) (Kst : KS) (Kret : KR) (ta tn tc ts tp ua un uc us up : Int) : Prop := test (true) (test (true) (test (true) (test (true) (test (true) (test (true) (test (true) (test (S.cmpN ta ua != 0) (Kret (PV.int .i64 (S.cmpN ta ua)) ([[]]) (8)) (test (true) (test (true) (test (true) (test (S.cmpN ts us != 0) (Kret (PV.int .i64 (S.cmpN ts us)) ([[]]) (8)) (test (true) (test (true) (test (true) (test (S.cmpN tn un != 0) (Kret (PV.int .i64 (S.cmpN tn un)) ([[]]) (8)) (test (true) (test (true) (test (true) (test (S.cmpN tc uc != 0) (Kret (PV.int .i64 (S.cmpN tc uc)) ([[]]) (8)) (test (true) (test (true) (test (true) (test (S.cmpN tp up != 0) (Kret (PV.int .i64 (S.cmpN tp up)) ([[]]) (8)) (test (true) (test (false) (test (false) (False) (False)) (Kret (PV.int .i64 (0 : Int)) ([[]]) (8))) (False))) (False)) (Kret (PV.int .i64 (0 : Int)) ([[]]) (8))) (False))) (False)) (Kret (PV.int .i64 (0 : Int)) ([[]]) (8))) (False))) (False)) (Kret (PV.int .i64 (0 : Int)) ([[]]) (8))) (False))) (False)) (Kret (PV.int .i64 (0 : Int)) ([[]]) (8))) (False))) (False)) (Kret (PV.int .i64 (0 : Int)) ([[]]) (8))) (False)) (False)) (False)) (False)) (False)
theorem te13 (test : TT) (Kst : KS) (Kret : KR) (ta tn tc ts tp ua un uc us up : Int) : run test Try.env true (xA0 test) true 400 ⟨27, [.cd (mkFn Try.f27).body], argT 0 [.agg [.int .i64 ta, .int .i64 tn, .int .i64 tc, .int .i64 ts, .int .i64 tp], .agg [.int .i64 ua, .int .i64 un, .int .i64 uc, .int .i64 us, .int .i64 up]], [[], []], 0⟩ (proj 0 [] Kst Kret) =
  Te13 test Kst Kret ta tn tc ts tp ua un uc us up := by kernel_rfl
attribute [local irreducible] Int.subNatNat in
theorem be13 (ta tn tc ts tp ua un uc us up : Int) (Kst : KS) (Kret : KR) (x : St13 ⊕ Rt13) (hS : HS 0 400 ((I13 ta tn tc ts tp ua un uc us up)) Kst x) (hR : HR 0 400 ((V13 ta tn tc ts tp ua un uc us up)) (fun r => [newL (0 + 1) ((N13 ta tn tc ts tp ua un uc us up) r) ++ []]) Kret x) (h : p13 ta tn tc ts tp ua un uc us up = some x) : Te13 cond Kst Kret ta tn tc ts tp ua un uc us up := by
  unfold Te13
  unfold p13 at h
  exact cond_yes rfl (cond_yes rfl (cond_yes rfl (cond_yes rfl (cond_yes rfl (cond_yes rfl (cond_yes rfl (bif_split h (fun c0 h => ret_at hR _ h (fun n => n) rfl rfl rfl (rn_int rfl) rfl entl_nil) (fun c0 h => cond_yes rfl (cond_yes rfl (cond_yes rfl (bif_split h (fun c1 h => ret_at hR _ h (fun n => n) rfl rfl rfl (rn_int rfl) rfl entl_nil) (fun c1 h => cond_yes rfl (cond_yes rfl (cond_yes rfl (bif_split h (fun c2 h => ret_at hR _ h (fun n => n) rfl rfl rfl (rn_int rfl) rfl entl_nil) (fun c2 h => cond_yes rfl (cond_yes rfl (cond_yes rfl (bif_split h (fun c3 h => ret_at hR _ h (fun n => n) rfl rfl rfl (rn_int rfl) rfl entl_nil) (fun c3 h => cond_yes rfl (cond_yes rfl (cond_yes rfl (bif_split h (fun c4 h => ret_at hR _ h (fun n => n) rfl rfl rfl (rn_int rfl) rfl entl_nil) (fun c4 h => cond_yes rfl (cond_no rfl (ret_at hR _ h (fun n => n) rfl rfl rfl (rn_int rfl) rfl entl_nil))))))))))))))))))))))))))
theorem a13 (ta tn tc ts tp ua un uc us up : Int) {r : Rt13} (h : Goes ((q13 ta tn tc ts tp ua un uc us up)) ((p13 ta tn tc ts tp ua un uc us up)) r) : CallR Try.prog 27 [.agg [.int .i64 ta, .int .i64 tn, .int .i64 tc, .int .i64 ts, .int .i64 tp], .agg [.int .i64 ua, .int .i64 un, .int .i64 uc, .int .i64 us, .int .i64 up]] [[]] 0 ((V13 ta tn tc ts tp ua un uc us up) r) ((fun r => [newL (0 + 1) ((N13 ta tn tc ts tp ua un uc us up) r) ++ []]) r) 400 ∧ ∃ F, Try.prog.funcs[27]? = some F ∧ F.body.isSome = true ∧ (F.name == "runtime.NumGoroutine") = false := by
  refine dec_calls (sy := true) (f := 27) (lo := 0) (hi := 400) (H := [[]]) (args := [.agg [.int .i64 ta, .int .i64 tn, .int .i64 tc, .int .i64 ts, .int .i64 tp], .agg [.int .i64 ua, .int .i64 un, .int .i64 uc, .int .i64 us, .int .i64 up]]) Try.envOk Try.mixed xA0_ok ((I13 ta tn tc ts tp ua un uc us up)) ((V13 ta tn tc ts tp ua un uc us up)) (fun r => [newL (0 + 1) ((N13 ta tn tc ts tp ua un uc us up) r) ++ []]) (fn := mkFn Try.f27) (ts := []) (n := 400) rfl (by decide) (by simp) (names_of rfl) ?_ ?_ ?_ h
  · intro s; exact s.elim
  · intro Kst Kret x hS hR h
    exact Holds.eq (te13 cond Kst Kret ta tn tc ts tp ua un uc us up) (be13 ta tn tc ts tp ua un uc us up Kst Kret x hS hR h)
  · intro Kst Kret x hS hR s h; exact s.elim
noncomputable abbrev w13 {α : Type} (g : Int → Int → Int → Int → Int → Int → Int → Int → Int → Int → α) (x : (Int × Int × Int × Int × Int × Unit) × (Int × Int × Int × Int × Int × Unit) × Unit) : α := g x.1.1 x.1.2.1 x.1.2.2.1 x.1.2.2.2.1 x.1.2.2.2.2.1 x.2.1.1 x.2.1.2.1 x.2.1.2.2.1 x.2.1.2.2.2.1 x.2.1.2.2.2.2.1
noncomputable def k13  : Con := ⟨27, [.agg [.plain (.int .i64), .plain (.int .i64), .plain (.int .i64), .plain (.int .i64), .plain (.int .i64)], .agg [.plain (.int .i64), .plain (.int .i64), .plain (.int .i64), .plain (.int .i64), .plain (.int .i64)]], w13 (fun ta tn tc ts tp ua un uc us up => decide (True)), w13 (fun ta tn tc ts tp ua un uc us up => (V13 ta tn tc ts tp ua un uc us up) (S.ecmp ta tn tc ts tp ua un uc us up)), w13 (fun ta tn tc ts tp ua un uc us up => (N13 ta tn tc ts tp ua un uc us up) (S.ecmp ta tn tc ts tp ua un uc us up)), fun _ _ => .dead⟩
theorem s13 (ta tn tc ts tp ua un uc us up : Int) (hp : True) : Goes ((q13 ta tn tc ts tp ua un uc us up)) ((p13 ta tn tc ts tp ua un uc us up)) (S.ecmp ta tn tc ts tp ua un uc us up) := by
  unfold S.ecmp
  unfold p13
  rcases cmpN_k ta ua with ⟨h0, e⟩ | ⟨h0, e⟩ | ⟨h0, e⟩
  · rw [e]; exact goes_ok rfl (goes_inr.mpr rfl)
  rotate_left
  · rw [e]; exact goes_ok rfl (goes_inr.mpr rfl)
  rw [e]
  refine goes_no rfl ?_
  rw [or0_0]
  rcases cmpN_k ts us with ⟨h1, e⟩ | ⟨h1, e⟩ | ⟨h1, e⟩
  · rw [e]; exact goes_ok rfl (goes_inr.mpr rfl)
  rotate_left
  · rw [e]; exact goes_ok rfl (goes_inr.mpr rfl)
  rw [e]
  refine goes_no rfl ?_
  rw [or0_0]
  rcases cmpN_k tn un with ⟨h2, e⟩ | ⟨h2, e⟩ | ⟨h2, e⟩
  · rw [e]; exact goes_ok rfl (goes_inr.mpr rfl)
  rotate_left
  · rw [e]; exact goes_ok rfl (goes_inr.mpr rfl)
  rw [e]
  refine goes_no rfl ?_
  rw [or0_0]
  rcases cmpN_k tc uc with ⟨h3, e⟩ | ⟨h3, e⟩ | ⟨h3, e⟩
  · rw [e]; exact goes_ok rfl (goes_inr.mpr rfl)
  rotate_left
  · rw [e]; exact goes_ok rfl (goes_inr.mpr rfl)
  rw [e]
  refine goes_no rfl ?_
  rw [or0_0]
  rcases cmpN_k tp up with ⟨h4, e⟩ | ⟨h4, e⟩ | ⟨h4, e⟩
  · rw [e]; exact goes_ok rfl (goes_inr.mpr rfl)
  rotate_left
  · rw [e]; exact goes_ok rfl (goes_inr.mpr rfl)
  rw [e]
  refine goes_no rfl ?_
  exact goes_inr.mpr rfl
theorem k13_ok  : k13.ok Try.prog := by
  intro x hx
  obtain ⟨⟨ta, tn, tc, ts, tp, _⟩, ⟨ua, un, uc, us, up, _⟩, _⟩ := x
  obtain ⟨h1, h2⟩ := a13 ta tn tc ts tp ua un uc us up (s13 ta tn tc ts tp ua un uc us up (of_dec hx rfl))
  exact ⟨⟨400, (by decide : 0 + 1 + 0 ≤ 400), h1⟩, h2⟩
abbrev St16  := Empty
abbrev Rt16  := Int
noncomputable def V16 (ta tn tc ts tp ua un uc us up : Int) (r : Rt16) : PV := PV.int .i64 r
noncomputable def N16 (ta tn tc ts tp ua un uc us up : Int) (r : Rt16) : List Blk := []
noncomputable def I16 (ta tn tc ts tp ua un uc us up : Int) : St16 → Hd := fun s => s.elim
noncomputable def q16 (ta tn tc ts tp ua un uc us up : Int) : St16 → Option (St16 ⊕ Rt16) := fun s => s.elim
noncomputable def p16 (ta tn tc ts tp ua un uc us up : Int) : Option (St16 ⊕ Rt16) := bif (decide (ta < ua)) then (some (.inr ((-1 : Int)))) else (bif (decide (ta > ua)) then (some (.inr ((1 : Int)))) else (bif (decide (ts < us)) then (some (.inr ((-1 : Int)))) else (bif (decide (ts > us)) then (some (.inr ((1 : Int)))) else (bif (decide (tn < un)) then (some (.inr ((-1 : Int)))) else (bif (decide (tn > un)) then (some (.inr ((1 : Int)))) else (bif (decide (tc < uc)) then (some (.inr ((-1 : Int)))) else (bif (decide (tc > uc)) then (some (.inr ((1 : Int)))) else (bif (decide (tp < up)) then (some (.inr ((-1 : Int)))) else (bif (decide (tp > up)) then (some (.inr ((1 : Int)))) else (some (.inr ((0 : Int)))))))))))))
def Te16 (test : TT) (Kst : KS) (Kret : KR) (ta tn tc ts tp ua un uc us up : Int) : Prop := test (decide (ta < ua)) (Kret (PV.int .i64 (-1 : Int)) ([[]]) (4)) (test (decide (ta > ua)) (Kret (PV.int .i64 (1 : Int)) ([[]]) (4)) (test (decide (ts < us)) (Kret (PV.int .i64 (-1 : Int)) ([[]]) (4)) (test (decide (ts > us)) (Kret (PV.int .i64 (1 : Int)) ([[]]) (4)) (test (decide (tn < un)) (Kret (PV.int .i64 (-1 : Int)) ([[]]) (4)) (test (decide (tn > un)) (Kret (PV.int .i64 (1 : Int)) ([[]]) (4)) (test (decide (tc < uc)) (Kret (PV.int .i64 (-1 : Int)) ([[]]) (4)) (test (decide (tc > uc)) (Kret (PV.int .i64 (1 : Int)) ([[]]) (4)) (test (decide (tp < up)) (Kret (PV.int .i64 (-1 : Int)) ([[]]) (4)) (test (decide (tp > up)) (Kret (PV.int .i64 (1 : Int)) ([[]]) (4)) (Kret (PV.int .i64 (0 : Int)) ([[]]) (4)))))))))))
theorem te16 (Kst : KS) (Kret : KR) (ta tn tc ts tp ua un uc us up : Int) : run cond Try.env true (xA0 cond) false 400 ⟨48, [.cd (mkFn Try.f48).body], argT 0 [.agg [.int .i64 ta, .int .i64 tn, .int .i64 tc, .int .i64 ts, .int .i64 tp], .agg [.int .i64 ua, .int .i64 un, .int .i64 uc, .int .i64 us, .int .i64 up]], [[], []], 0⟩ (proj 0 [] Kst Kret) =
  Te16 cond Kst Kret ta tn tc ts tp ua un uc us up := by kernel_rfl
attribute [local irreducible] Int.subNatNat in
theorem be16 (ta tn tc ts tp ua un uc us up : Int) (Kst : KS) (Kret : KR) (x : St16 ⊕ Rt16) (hS : HS 0 400 ((I16 ta tn tc ts tp ua un uc us up)) Kst x) (hR : HR 0 400 ((V16 ta tn tc ts tp ua un uc us up)) (fun r => [newL (0 + 1) ((N16 ta tn tc ts tp ua un uc us up) r) ++ []]) Kret x) (h : p16 ta tn tc ts tp ua un uc us up = some x) : Te16 cond Kst Kret ta tn tc ts tp ua un uc us up := by
  unfold Te16
  unfold p16 at h
  refine bif_split h (fun c0 h => ?_) (fun c0 h => bif_split h (fun c1 h => ?_) (fun c1 h => bif_split h (fun c2 h => ?_) (fun c2 h => bif_split h (fun c3 h => ?_) (fun c3 h => bif_split h (fun c4 h => ?_) (fun c4 h => bif_split h (fun c5 h => ?_) (fun c5 h => bif_split h (fun c6 h => ?_) (fun c6 h => bif_split h (fun c7 h => ?_) (fun c7 h => bif_split h (fun c8 h => ?_) (fun c8 h => bif_split h (fun c9 h => ?_) (fun c9 h => ?_))))))))))
  all_goals first
    | exact ret_at hR _ h (fun n => n) rfl rfl rfl (rn_int rfl) rfl entl_nil
theorem a16 (ta tn tc ts tp ua un uc us up : Int) {r : Rt16} (h : Goes ((q16 ta tn tc ts tp ua un uc us up)) ((p16 ta tn tc ts tp ua un uc us up)) r) : CallR Try.prog 48 [.agg [.int .i64 ta, .int .i64 tn, .int .i64 tc, .int .i64 ts, .int .i64 tp], .agg [.int .i64 ua, .int .i64 un, .int .i64 uc, .int .i64 us, .int .i64 up]] [[]] 0 ((V16 ta tn tc ts tp ua un uc us up) r) ((fun r => [newL (0 + 1) ((N16 ta tn tc ts tp ua un uc us up) r) ++ []]) r) 400 ∧ ∃ F, Try.prog.funcs[48]? = some F ∧ F.body.isSome = true ∧ (F.name == "runtime.NumGoroutine") = false := by
  refine dec_free (sy := true) (f := 48) (lo := 0) (hi := 400) (H := [[]]) (args := [.agg [.int .i64 ta, .int .i64 tn, .int .i64 tc, .int .i64 ts, .int .i64 tp], .agg [.int .i64 ua, .int .i64 un, .int .i64 uc, .int .i64 us, .int .i64 up]]) Try.envOk Try.mixed xA0_ok ((I16 ta tn tc ts tp ua un uc us up)) ((V16 ta tn tc ts tp ua un uc us up)) (fun r => [newL (0 + 1) ((N16 ta tn tc ts tp ua un uc us up) r) ++ []]) (fn := mkFn Try.f48) (n := 400) rfl (by decide) (by simp) (names_of rfl) ?_ h
  · intro Kst Kret x hS hR h
    exact Holds.eq (te16 Kst Kret ta tn tc ts tp ua un uc us up) (be16 ta tn tc ts tp ua un uc us up Kst Kret x hS hR h)
noncomputable abbrev w16 {α : Type} (g : Int → Int → Int → Int → Int → Int → Int → Int → Int → Int → α) (x : (Int × Int × Int × Int × Int × Unit) × (Int × Int × Int × Int × Int × Unit) × Unit) : α := g x.1.1 x.1.2.1 x.1.2.2.1 x.1.2.2.2.1 x.1.2.2.2.2.1 x.2.1.1 x.2.1.2.1 x.2.1.2.2.1 x.2.1.2.2.2.1 x.2.1.2.2.2.2.1
noncomputable def k16  : Con := ⟨48, [.agg [.plain (.int .i64), .plain (.int .i64), .plain (.int .i64), .plain (.int .i64), .plain (.int .i64)], .agg [.plain (.int .i64), .plain (.int .i64), .plain (.int .i64), .plain (.int .i64), .plain (.int .i64)]], w16 (fun ta tn tc ts tp ua un uc us up => decide (True)), w16 (fun ta tn tc ts tp ua un uc us up => (V16 ta tn tc ts tp ua un uc us up) (S.ecmp ta tn tc ts tp ua un uc us up)), w16 (fun ta tn tc ts tp ua un uc us up => (N16 ta tn tc ts tp ua un uc us up) (S.ecmp ta tn tc ts tp ua un uc us up)), fun _ _ => .dead⟩
theorem s16 (ta tn tc ts tp ua un uc us up : Int) (hp : True) : Goes ((q16 ta tn tc ts tp ua un uc us up)) ((p16 ta tn tc ts tp ua un uc us up)) (S.ecmp ta tn tc ts tp ua un uc us up) := by
  unfold S.ecmp
  unfold p16
  rcases cmpN_k ta ua with ⟨h0, e⟩ | ⟨h0, e⟩ | ⟨h0, e⟩
  · rw [e]; exact goes_ok (decide_eq_true h0) (goes_inr.mpr rfl)
  rotate_left
  · rw [e]; exact goes_no (decide_eq_false (by omega)) (goes_ok (decide_eq_true h0) (goes_inr.mpr rfl))
  rw [e]
  refine goes_no (decide_eq_false (by omega)) (goes_no (decide_eq_false (by omega)) ?_)
  rw [or0_0]
  rcases cmpN_k ts us with ⟨h1, e⟩ | ⟨h1, e⟩ | ⟨h1, e⟩
  · rw [e]; exact goes_ok (decide_eq_true h1) (goes_inr.mpr rfl)
  rotate_left
  · rw [e]; exact goes_no (decide_eq_false (by omega)) (goes_ok (decide_eq_true h1) (goes_inr.mpr rfl))
  rw [e]
  refine goes_no (decide_eq_false (by omega)) (goes_no (decide_eq_false (by omega)) ?_)
  rw [or0_0]
  rcases cmpN_k tn un with ⟨h2, e⟩ | ⟨h2, e⟩ | ⟨h2, e⟩
  · rw [e]; exact goes_ok (decide_eq_true h2) (goes_inr.mpr rfl)
  rotate_left
  · rw [e]; exact goes_no (decide_eq_false (by omega)) (goes_ok (decide_eq_true h2) (goes_inr.mpr rfl))
  rw [e]
  refine goes_no (decide_eq_false (by omega)) (goes_no (decide_eq_false (by omega)) ?_)
  rw [or0_0]
  rcases cmpN_k tc uc with ⟨h3, e⟩ | ⟨h3, e⟩ | ⟨h3, e⟩
  · rw [e]; exact goes_ok (decide_eq_true h3) (goes_inr.mpr rfl)
  rotate_left
  · rw [e]; exact goes_no (decide_eq_false (by omega)) (goes_ok (decide_eq_true h3) (goes_inr.mpr rfl))
  rw [e]
  refine goes_no (decide_eq_false (by omega)) (goes_no (decide_eq_false (by omega)) ?_)
  rw [or0_0]
  rcases cmpN_k tp up with ⟨h4, e⟩ | ⟨h4, e⟩ | ⟨h4, e⟩
  · rw [e]; exact goes_ok (decide_eq_true h4) (goes_inr.mpr rfl)
  rotate_left
  · rw [e]; exact goes_no (decide_eq_false (by omega)) (goes_ok (decide_eq_true h4) (goes_inr.mpr rfl))
  rw [e]
  refine goes_no (decide_eq_false (by omega)) (goes_no (decide_eq_false (by omega)) ?_)
  exact goes_inr.mpr rfl
theorem k16_ok  : k16.ok Try.prog := by
  intro x hx
  obtain ⟨⟨ta, tn, tc, ts, tp, _⟩, ⟨ua, un, uc, us, up, _⟩, _⟩ := x
  obtain ⟨h1, h2⟩ := a16 ta tn tc ts tp ua un uc us up (s16 ta tn tc ts tp ua un uc us up (of_dec hx rfl))
  exact ⟨⟨400, (by decide : 0 + 1 + 0 ≤ 400), h1⟩, h2⟩
noncomputable def k12  : Con := ⟨7, [], fun _ => true, fun _ => .bool true, fun _ => [], fun _ _ => .dead⟩
theorem te12 (Kst : KS) (Kret : KR) : run cond Try.env true noX false 4000 ⟨7, [.cd (mkFn Try.f7).body], [], [[], []], 0⟩ (proj 0 [] Kst Kret) = Kret (.tf true) [[]] 75 := by kernel_rfl
theorem k12_ok  : k12.ok Try.prog := awake_ok (fn := mkFn Try.f7) (hi := 76) (n := 4000) Try.envOk Try.mixed noX_ok rfl (by decide) (by decide : Nat.ble 75 76 = true) te12
theorem or0_neg  {x y X Y : Int} (h : y = -x) (h2 : Y = -X) : S.or0 y Y = - S.or0 x X := by unfold S.or0; (repeat' split) <;> omega
theorem cmpN_neg  {a b : Int} : S.cmpN b a = - S.cmpN a b := by have := cmpN_k a b; have := cmpN_k b a; omega
theorem or0_z  {x X : Int} (h : S.or0 x X = 0) : x = 0 ∧ X = 0 := by unfold S.or0 at h; split at h <;> omega
theorem cmpN_z  {a b : Int} (h : S.cmpN a b = 0) : a = b := by have := cmpN_k a b; omega
theorem or0_tr  {a b c X Y Z : Int} (h : X ≤ 0 → Y ≤ 0 → Z ≤ 0) (h1 : S.or0 (S.cmpN a b) X ≤ 0) (h2 : S.or0 (S.cmpN b c) Y ≤ 0) : S.or0 (S.cmpN a c) Z ≤ 0 := by
  have k1 := cmpN_k a b
  have k2 := cmpN_k b c
  have k3 := cmpN_k a c
  unfold S.or0 at *
  (repeat' split at *) <;> first | omega | (have := h (by omega) (by omega); omega)
section
variable {a n c s p a' n' c' s' p' a2 n2 c2 s2 p2 : Int}
theorem ecmp_neg  : S.ecmp a' n' c' s' p' a n c s p = - S.ecmp a n c s p a' n' c' s' p' := or0_neg cmpN_neg (or0_neg cmpN_neg (or0_neg cmpN_neg (or0_neg cmpN_neg cmpN_neg)))
theorem ecmp_z (h : S.ecmp a n c s p a' n' c' s' p' = 0) : a = a' ∧ n = n' ∧ c = c' ∧ s = s' ∧ p = p' := by
  obtain ⟨h1, h⟩ := or0_z h
  obtain ⟨h2, h⟩ := or0_z h
  obtain ⟨h3, h⟩ := or0_z h
  obtain ⟨h4, h5⟩ := or0_z h
  exact ⟨cmpN_z h1, cmpN_z h3, cmpN_z h4, cmpN_z h2, cmpN_z h5⟩
theorem ecmp_tr (h1 : S.ecmp a n c s p a' n' c' s' p' ≤ 0) (h2 : S.ecmp a' n' c' s' p' a2 n2 c2 s2 p2 ≤ 0) : S.ecmp a n c s p a2 n2 c2 s2 p2 ≤ 0 := by
  refine or0_tr (or0_tr (or0_tr (or0_tr (fun h1 h2 => ?_)))) h1 h2
  have k1 := cmpN_k p p'
  have k2 := cmpN_k p' p2
  have k3 := cmpN_k p p2
  omega
end
namespace S
def samL (n : Nat) (a b c d e : Nat → Int) (m : Nat) (a' b' c' d' e' : Nat → Int) : Bool := decide (mkl n (fun j => (a j, b j, c j, d j, e j)) = mkl m (fun j => (a' j, b' j, c' j, d' j, e' j)))
end S
inductive St21 where
  | h0 (x0 : Int)
abbrev Rt21  := Bool
noncomputable def V21 (al nl ml : Nat) (tl vl gl wl xl : NI) (am nm mm : Nat) (tm vm gm wm xm : NI) (r : Rt21) : PV := PV.bool r
noncomputable def N21 (al nl ml : Nat) (tl vl gl wl xl : NI) (am nm mm : Nat) (tm vm gm wm xm : NI) (r : Rt21) : List Blk := []
noncomputable def I21 (al nl ml : Nat) (tl vl gl wl xl : NI) (am nm mm : Nat) (tm vm gm wm xm : NI) : St21 → Hd
  | .h0 x0 => ⟨hd Try.f12 0, [PV.loose (PA.mk (0) (5) al (0)) nl,
 PV.loose (PA.mk (1) (5) am (0)) nm, PV.int .i64 x0], [[], [(0, (false, .cols ml [.int .i64 tl, .int .i64 vl, .int .i64 gl, .int .i64 wl, .int .i64 xl])), (1, (false, .cols mm [.int .i64 tm, .int .i64 vm, .int .i64 gm, .int .i64 wm, .int .i64 xm]))]], 2⟩
noncomputable def q21 (al nl ml : Nat) (tl vl gl wl xl : NI) (am nm mm : Nat) (tm vm gm wm xm : NI) : St21 → Option (St21 ⊕ Rt21) | .h0 x0 => bif (decide (x0 < (↑nl : Int))) then (bif (decide ((0 : Int) ≤ x0 ∧ x0 < (↑nl : Int))) then (bif (decide (Int.toNat x0 + al < ml)) then (bif (decide ((0 : Int) ≤ x0 ∧ x0 < (↑nm : Int))) then (bif (decide (Int.toNat x0 + am < mm)) then (bif (!(tl (Int.toNat x0 + al) == tm (Int.toNat x0 + am) && (vl (Int.toNat x0 + al) == vm (Int.toNat x0 + am) && (gl (Int.toNat x0 + al) == gm (Int.toNat x0 + am) && (wl (Int.toNat x0 + al) == wm (Int.toNat x0 + am) && (xl (Int.toNat x0 + al) == xm (Int.toNat x0 + am) && true)))))) then (some (.inr (false))) else (bif (lim .i64 (x0 + 1)) then (some (.inl (.h0 (x0 + 1)))) else (none))) else (none)) else (none)) else (none)) else (none)) else (some (.inr (true)))
noncomputable def p21 (al nl ml : Nat) (tl vl gl wl xl : NI) (am nm mm : Nat) (tm vm gm wm xm : NI) : Option (St21 ⊕ Rt21) := bif ((↑nl : Int) != (↑nm : Int)) then (some (.inr (false))) else (some (.inl (.h0 ((0 : Int)))))
def Te21 (test : TT) (Kst : KS) (Kret : KR) (al nl ml : Nat) (tl vl gl wl xl : NI) (am nm mm : Nat) (tm vm gm wm xm : NI) : Prop := test ((↑nl : Int) != (↑nm : Int)) (Kret (PV.tf false) ([[(1, false, Blk.cols mm [Col.int .i64 tm, Col.int .i64 vm, Col.int .i64 gm, Col.int .i64 wm, Col.int .i64 xm]), (0, false, Blk.cols ml [Col.int .i64 tl, Col.int .i64 vl, Col.int .i64 gl, Col.int .i64 wl, Col.int .i64 xl])]]) (2)) (Kst (hd Try.f12 0) ([PV.loose (PA.mk (0) (5) al (0)) nl, PV.loose (PA.mk (1) (5) am (0)) nm, PV.int .i64 (0 : Int)]) ([[(1, false, Blk.cols mm [Col.int .i64 tm, Col.int .i64 vm, Col.int .i64 gm, Col.int .i64 wm, Col.int .i64 xm]), (0, false, Blk.cols ml [Col.int .i64 tl, Col.int .i64 vl, Col.int .i64 gl, Col.int .i64 wl, Col.int .i64 xl])]]) (2))
theorem te21 (test : TT) (Kst : KS) (Kret : KR) (al nl ml : Nat) (tl vl gl wl xl : NI) (am nm mm : Nat) (tm vm gm wm xm : NI) : run test Try.env true noX true 400 ⟨12, [.cd (mkFn Try.f12).body], argT 0 [.loose ⟨0, 5, al, 0⟩ nl, .loose ⟨1, 5, am, 0⟩ nm], [[], [(0, (false, .cols ml [.int .i64 tl, .int .i64 vl, .int .i64 gl, .int .i64 wl, .int .i64 xl])), (1, (false, .cols mm [.int .i64 tm, .int .i64 vm, .int .i64 gm, .int .i64 wm, .int .i64 xm]))]], 2⟩ (proj 2 [0, 1, 5] Kst Kret) =
  Te21 test Kst Kret al nl ml tl vl gl wl xl am nm mm tm vm gm wm xm := by kernel_rfl
noncomputable abbrev u21_0_0 (ml : Nat) (tl vl gl wl xl : Nat → Int) (mm : Nat) (tm vm gm wm xm : Nat → Int) := ([[(1, false, Blk.cols mm [Col.int IntKind.i64 tm, Col.int IntKind.i64 vm, Col.int IntKind.i64 gm, Col.int IntKind.i64 wm, Col.int IntKind.i64 xm]), (0, false, Blk.cols ml [Col.int IntKind.i64 tl, Col.int IntKind.i64 vl, Col.int IntKind.i64 gl, Col.int IntKind.i64 wl, Col.int IntKind.i64 xl])]])
def T21_0 (test : TT) (Kst : KS) (Kret : KR) (al nl ml : Nat) (tl vl gl wl xl : NI) (am nm mm : Nat) (tm vm gm wm xm : NI) (x0 : Int) : Prop := test (decide (x0 < (↑nl : Int))) (test (decide ((0 : Int) ≤ x0 ∧ x0 < (↑nl : Int))) (test (decide (Int.toNat x0 + al < ml)) (test (decide (Int.toNat x0 + al < ml)) (test (decide (Int.toNat x0 + al < ml)) (test (decide (Int.toNat x0 + al < ml)) (test (decide (Int.toNat x0 + al < ml)) (test (decide ((0 : Int) ≤ x0 ∧ x0 < (↑nm : Int))) (test (decide (Int.toNat x0 + am < mm)) (test (decide (Int.toNat x0 + am < mm)) (test (decide (Int.toNat x0 + am < mm)) (test (decide (Int.toNat x0 + am < mm)) (test (decide (Int.toNat x0 + am < mm)) (test (!(tl (Int.toNat x0 + al) == tm (Int.toNat x0 + am) && (vl (Int.toNat x0 + al) == vm (Int.toNat x0 + am) && (gl (Int.toNat x0 + al) == gm (Int.toNat x0 + am) && (wl (Int.toNat x0 + al) == wm (Int.toNat x0 + am) && (xl (Int.toNat x0 + al) == xm (Int.toNat x0 + am) && true)))))) (Kret (PV.tf false) (u21_0_0 ml tl vl gl wl xl mm tm vm gm wm xm) (2)) (test (lim .i64 (x0 + 1)) (Kst (hd Try.f12 0) ([PV.loose (PA.mk (0) (5) al (0)) nl, PV.loose (PA.mk (1) (5) am (0)) nm, PV.int .i64 (x0 + 1)]) (u21_0_0 ml tl vl gl wl xl mm tm vm gm wm xm) (2)) (False))) (False)) (False)) (False)) (False)) (False)) (False)) (False)) (False)) (False)) (False)) (False)) (False)) (Kret (PV.tf true) (u21_0_0 ml tl vl gl wl xl mm tm vm gm wm xm) (2))
theorem t21_0 (test : TT) (Kst : KS) (Kret : KR) (al nl ml : Nat) (tl vl gl wl xl : NI) (am nm mm : Nat) (tm vm gm wm xm : NI) (x0 : Int) : run test Try.env true noX true 400 ⟨12, hd Try.f12 0, zipT [0, 1, 5] [PV.loose (PA.mk (0) (5) al (0)) nl,
 PV.loose (PA.mk (1) (5) am (0)) nm, PV.int .i64 x0], [[], [(0, (false, .cols ml [.int .i64 tl, .int .i64 vl, .int .i64 gl, .int .i64 wl, .int .i64 xl])), (1, (false, .cols mm [.int .i64 tm, .int .i64 vm, .int .i64 gm, .int .i64 wm, .int .i64 xm]))]], 2⟩ (proj 2 [0, 1, 5] Kst Kret) =
  T21_0 test Kst Kret al nl ml tl vl gl wl xl am nm mm tm vm gm wm xm x0 := by kernel_rfl
noncomputable abbrev J21 (al nl ml : Nat) (tl : NI) (vl : NI) (gl : NI) (wl : NI) (xl : NI) (am nm mm : Nat) (tm : NI) (vm : NI) (gm : NI) (wm : NI) (xm : NI) : Rt21 → Heap := fun r => [newL (2 + 1) ((N21 al nl ml tl vl gl wl xl am nm mm tm vm gm wm xm) r) ++ [(0, (false, .cols ml [.int .i64 tl, .int .i64 vl, .int .i64 gl, .int .i64 wl, .int .i64 xl])), (1, (false, .cols mm [.int .i64 tm, .int .i64 vm, .int .i64 gm, .int .i64 wm, .int .i64 xm]))]]
attribute [local irreducible] Int.subNatNat in
theorem be21 (al nl ml : Nat) (tl vl gl wl xl : NI) (am nm mm : Nat) (tm vm gm wm xm : NI) (Kst : KS) (Kret : KR) (x : St21 ⊕ Rt21) (hS : HS 2 400 ((I21 al nl ml tl vl gl wl xl am nm mm tm vm gm wm xm)) Kst x) (hR : HR 2 400 ((V21 al nl ml tl vl gl wl xl am nm mm tm vm gm wm xm)) (J21 al nl ml tl vl gl wl xl am nm mm tm vm gm wm xm) Kret x) (h : p21 al nl ml tl vl gl wl xl am nm mm tm vm gm wm xm = some x) : Te21 cond Kst Kret al nl ml tl vl gl wl xl am nm mm tm vm gm wm xm := by
  unfold Te21
  unfold p21 at h
  exact bif_split h (fun c0 h => ret_at hR _ h (fun n => n) rfl rfl rfl (rn_bool_tf rfl) rfl (entl_bor (use_lo rfl) rfl rfl (entl_bor (use_lo rfl) rfl rfl entl_nil))) (fun c0 h => stop_at hS _ h (fun n => n) rfl rfl rfl ⟨(rn_loose (use_lo rfl) rfl rfl rfl), ⟨(rn_loose (use_lo rfl) rfl rfl rfl), ⟨(rn_int rfl), trivial⟩⟩⟩ rfl (entl_bor (use_lo rfl) rfl rfl (entl_bor (use_lo rfl) rfl rfl entl_nil)))
attribute [local irreducible] Int.subNatNat in
theorem b21_0 (al nl ml : Nat) (tl vl gl wl xl : NI) (am nm mm : Nat) (tm vm gm wm xm : NI) (Kst : KS) (Kret : KR) (x : St21 ⊕ Rt21) (hS : HS 2 400 ((I21 al nl ml tl vl gl wl xl am nm mm tm vm gm wm xm)) Kst x) (hR : HR 2 400 ((V21 al nl ml tl vl gl wl xl am nm mm tm vm gm wm xm)) (J21 al nl ml tl vl gl wl xl am nm mm tm vm gm wm xm) Kret x) (x0 : Int) (h : q21 al nl ml tl vl gl wl xl am nm mm tm vm gm wm xm (.h0 x0) = some x) : T21_0 cond Kst Kret al nl ml tl vl gl wl xl am nm mm tm vm gm wm xm x0 := by
  unfold T21_0
  rw [q21] at h
  exact bif_split h (fun c0 h => bif_split h (fun c1 h => bif_split h (fun c2 h => cond_yes c2 (cond_yes c2 (cond_yes c2 (cond_yes c2 (bif_split h (fun c3 h => bif_split h (fun c4 h => cond_yes c4 (cond_yes c4 (cond_yes c4 (cond_yes c4 (bif_split h (fun c5 h => ret_at hR _ h (fun n => n) rfl rfl rfl (rn_bool_tf rfl) rfl (entl_bor (use_lo rfl) rfl rfl (entl_bor (use_lo rfl) rfl rfl entl_nil))) (fun c5 h => bif_split h (fun c6 h => stop_at hS _ h (fun n => n) rfl rfl rfl ⟨(rn_loose (use_lo rfl) rfl rfl rfl), ⟨(rn_loose (use_lo rfl) rfl rfl rfl), ⟨(rn_int rfl), trivial⟩⟩⟩ rfl (entl_bor (use_lo rfl) rfl rfl (entl_bor (use_lo rfl) rfl rfl entl_nil))) (fun c6 h => no_some h))))))) (fun c4 h => no_some h)) (fun c3 h => no_some h)))))) (fun c2 h => no_some h)) (fun c1 h => no_some h)) (fun c0 h => ret_at hR _ h (fun n => n) rfl rfl rfl (rn_bool_tf rfl) rfl (entl_bor (use_lo rfl) rfl rfl (entl_bor (use_lo rfl) rfl rfl entl_nil)))
theorem a21 (al nl ml : Nat) (tl vl gl wl xl : NI) (am nm mm : Nat) (tm vm gm wm xm : NI) {r : Rt21} (h : Goes ((q21 al nl ml tl vl gl wl xl am nm mm tm vm gm wm xm)) ((p21 al nl ml tl vl gl wl xl am nm mm tm vm gm wm xm)) r) : CallR Try.prog 12 [.loose ⟨0, 5, al, 0⟩ nl, .loose ⟨1, 5, am, 0⟩ nm] [[(0, (false, .cols ml [.int .i64 tl, .int .i64 vl, .int .i64 gl, .int .i64 wl, .int .i64 xl])), (1, (false, .cols mm [.int .i64 tm, .int .i64 vm, .int .i64 gm, .int .i64 wm, .int .i64 xm]))]] 2 ((V21 al nl ml tl vl gl wl xl am nm mm tm vm gm wm xm) r) ((J21 al nl ml tl vl gl wl xl am nm mm tm vm gm wm xm) r) 400 ∧ ∃ F, Try.prog.funcs[12]? = some F ∧ F.body.isSome = true ∧ (F.name == "runtime.NumGoroutine") = false := by
  refine dec_calls (sy := true) (f := 12) (lo := 2) (hi := 400) (H := [[(0, (false, .cols ml [.int .i64 tl, .int .i64 vl, .int .i64 gl, .int .i64 wl, .int .i64 xl])), (1, (false, .cols mm [.int .i64 tm, .int .i64 vm, .int .i64 gm, .int .i64 wm, .int .i64 xm]))]]) (args := [.loose ⟨0, 5, al, 0⟩ nl, .loose ⟨1, 5, am, 0⟩ nm]) Try.envOk Try.mixed noX_ok ((I21 al nl ml tl vl gl wl xl am nm mm tm vm gm wm xm)) ((V21 al nl ml tl vl gl wl xl am nm mm tm vm gm wm xm)) (J21 al nl ml tl vl gl wl xl am nm mm tm vm gm wm xm) (fn := mkFn Try.f12) (ts := [0, 1, 5]) (n := 400) rfl (by decide) (by simp) (names_of rfl) ?_ ?_ ?_ h
  · intro s; cases s <;> exact ⟨hd_ok _ _, by simp [I21], names_of rfl, Nat.le_of_ble_eq_true rfl⟩
  · intro Kst Kret x hS hR h
    exact Holds.eq (te21 cond Kst Kret al nl ml tl vl gl wl xl am nm mm tm vm gm wm xm) (be21 al nl ml tl vl gl wl xl am nm mm tm vm gm wm xm Kst Kret x hS hR h)
  · intro Kst Kret x hS hR s h
    cases s with
    | h0 x0 => exact Holds.eq (t21_0 cond Kst Kret al nl ml tl vl gl wl xl am nm mm tm vm gm wm xm x0) (b21_0 al nl ml tl vl gl wl xl am nm mm tm vm gm wm xm Kst Kret x hS hR x0 h)
noncomputable abbrev w21 {α : Type} (g : Nat → Nat → Nat → (Nat → Int) → (Nat → Int) → (Nat → Int) → (Nat → Int) → (Nat → Int) → Nat → Nat → Nat → (Nat → Int) → (Nat → Int) → (Nat → Int) → (Nat → Int) → (Nat → Int) → α) (x : (Nat × Nat × Nat × (Nat → Int) × (Nat → Int) × (Nat → Int) × (Nat → Int) × (Nat → Int) × Unit) × (Nat × Nat × Nat × (Nat → Int) × (Nat → Int) × (Nat → Int) × (Nat → Int) × (Nat → Int) × Unit) × Unit) : α := g x.1.1 x.1.2.1 x.1.2.2.1 x.1.2.2.2.1 x.1.2.2.2.2.1 x.1.2.2.2.2.2.1 x.1.2.2.2.2.2.2.1 x.1.2.2.2.2.2.2.2.1 x.2.1.1 x.2.1.2.1 x.2.1.2.2.1 x.2.1.2.2.2.1 x.2.1.2.2.2.2.1 x.2.1.2.2.2.2.2.1 x.2.1.2.2.2.2.2.2.1 x.2.1.2.2.2.2.2.2.2.1
noncomputable def k21  : Con := ⟨12, [.one (.list [.int .i64, .int .i64, .int .i64, .int .i64, .int .i64]), .one (.list [.int .i64, .int .i64, .int .i64, .int .i64, .int .i64])], w21 (fun al nl ml tl vl gl wl xl am nm mm tm vm gm wm xm => decide (al + nl ≤ ml ∧ nl ≤ 1000000 ∧ am + nm ≤ mm ∧ nm ≤ 1000000)), w21 (fun al nl ml tl vl gl wl xl am nm mm tm vm gm wm xm => (V21 al nl ml tl vl gl wl xl am nm mm tm vm gm wm xm) (S.samL nl (fun j => tl (j + al)) (fun j => vl (j + al)) (fun j => gl (j + al)) (fun j => wl (j + al)) (fun j => xl (j + al)) nm (fun j => tm (j + am)) (fun j => vm (j + am)) (fun j => gm (j + am)) (fun j => wm (j + am)) (fun j => xm (j + am)))), w21 (fun al nl ml tl vl gl wl xl am nm mm tm vm gm wm xm => (N21 al nl ml tl vl gl wl xl am nm mm tm vm gm wm xm) (S.samL nl (fun j => tl (j + al)) (fun j => vl (j + al)) (fun j => gl (j + al)) (fun j => wl (j + al)) (fun j => xl (j + al)) nm (fun j => tm (j + am)) (fun j => vm (j + am)) (fun j => gm (j + am)) (fun j => wm (j + am)) (fun j => xm (j + am)))), fun _ _ => .dead⟩
theorem e21 (al nl ml : Nat) (tl vl gl wl xl : Nat → Int) (am nm mm : Nat) (tm vm gm wm xm : Nat → Int) (h : nl = nm) : S.samL nl (fun j => tl (j + al)) (fun j => vl (j + al)) (fun j => gl (j + al)) (fun j => wl (j + al)) (fun j => xl (j + al)) nm (fun j => tm (j + am)) (fun j => vm (j + am)) (fun j => gm (j + am)) (fun j => wm (j + am)) (fun j => xm (j + am)) = true ↔ ∀ j, j < nl → tl (j + al) = tm (j + am) ∧ vl (j + al) = vm (j + am) ∧ gl (j + al) = gm (j + am) ∧ wl (j + al) = wm (j + am) ∧ xl (j + al) = xm (j + am) := by
  unfold S.samL
  rw [decide_eq_true_eq, mkl_inj]
  simp only [h, true_and, Prod.mk.injEq]
theorem s21' (al nl ml : Nat) (tl vl gl wl xl : Nat → Int) (am nm mm : Nat) (tm vm gm wm xm : Nat → Int) (hp : al + nl ≤ ml ∧ nl ≤ 1000000 ∧ am + nm ≤ mm ∧ nm ≤ 1000000) (he : nl = nm) : ∀ k i : Nat, i + k = nl → (∀ j, j < i → tl (j + al) = tm (j + am) ∧ vl (j + al) = vm (j + am) ∧ gl (j + al) = gm (j + am) ∧ wl (j + al) = wm (j + am) ∧ xl (j + al) = xm (j + am)) → Comes (q21 al nl ml tl vl gl wl xl am nm mm tm vm gm wm xm) (.h0 (i : Int)) (S.samL nl (fun j => tl (j + al)) (fun j => vl (j + al)) (fun j => gl (j + al)) (fun j => wl (j + al)) (fun j => xl (j + al)) nm (fun j => tm (j + am)) (fun j => vm (j + am)) (fun j => gm (j + am)) (fun j => wm (j + am)) (fun j => xm (j + am))) := by
  obtain ⟨hp1, hp2, hp3, hp4⟩ := hp
  have hq := e21 al nl ml tl vl gl wl xl am nm mm tm vm gm wm xm he
  generalize S.samL nl (fun j => tl (j + al)) (fun j => vl (j + al)) (fun j => gl (j + al)) (fun j => wl (j + al)) (fun j => xl (j + al)) nm (fun j => tm (j + am)) (fun j => vm (j + am)) (fun j => gm (j + am)) (fun j => wm (j + am)) (fun j => xm (j + am)) = R at hq ⊢
  intro k
  induction k with
  | zero =>
    intro i hi hj
    obtain rfl : nl = i := by omega
    rw [hq.mpr hj]
    apply Comes.of
    show Goes _ _ _
    (first | rw [q21] | unfold q21)
    repeat' (first | with_reducible refine goes_if (fun h => ?_) (fun h => ?_) <;> (try simp only [SH] at h) | exact goes_none.mpr (by omega))
    all_goals first | (exfalso; omega) | exact goes_inr.mpr rfl
  | succ k ih =>
    intro i hi hj
    by_cases h0 : tl (i + al) = tm (i + am) ∧ vl (i + al) = vm (i + am) ∧ gl (i + al) = gm (i + am) ∧ wl (i + al) = wm (i + am) ∧ xl (i + al) = xm (i + am)
    · have ih := ih (i + 1) (by omega) (fun j h => by
        by_cases hji : j = i
        · subst hji; exact h0
        · exact hj j (by omega))
      obtain ⟨e1, e2, e3, e4, e5⟩ := h0
      apply Comes.of
      show Goes _ _ _
      rw [q21]
      simp only [Int.toNat_natCast, e1, e2, e3, e4, e5, beq_self_eq_true, Bool.and_self, Bool.not_true]
      repeat' (first | with_reducible refine goes_if (fun h => ?_) (fun h => ?_) <;> (try simp only [SH] at h) | exact goes_none.mpr (by omega))
      all_goals first | (exfalso; omega) | exact ih
    · have hR : R = false := by
        cases R
        · rfl
        · exact absurd (hq.mp rfl i (by omega)) h0
      rw [hR]
      have hb : (!(tl (i + al) == tm (i + am) && (vl (i + al) == vm (i + am) && (gl (i + al) == gm (i + am) && (wl (i + al) == wm (i + am) && (xl (i + al) == xm (i + am) && true)))))) = true := by
        rw [Bool.not_eq_true']
        simp only [Bool.and_true, Bool.and_eq_false_iff, beq_eq_false_iff_ne, ne_eq]
        omega
      apply Comes.of
      show Goes _ _ _
      rw [q21]
      simp only [Int.toNat_natCast, hb]
      repeat' (first | with_reducible refine goes_if (fun h => ?_) (fun h => ?_) <;> (try simp only [SH] at h) | exact goes_none.mpr (by omega))
      all_goals first | (exfalso; omega) | exact goes_inr.mpr rfl
theorem s21 (al nl ml : Nat) (tl vl gl wl xl : Nat → Int) (am nm mm : Nat) (tm vm gm wm xm : Nat → Int) (hp : al + nl ≤ ml ∧ nl ≤ 1000000 ∧ am + nm ≤ mm ∧ nm ≤ 1000000) : Goes ((q21 al nl ml tl vl gl wl xl am nm mm tm vm gm wm xm)) ((p21 al nl ml tl vl gl wl xl am nm mm tm vm gm wm xm)) (S.samL nl (fun j => tl (j + al)) (fun j => vl (j + al)) (fun j => gl (j + al)) (fun j => wl (j + al)) (fun j => xl (j + al)) nm (fun j => tm (j + am)) (fun j => vm (j + am)) (fun j => gm (j + am)) (fun j => wm (j + am)) (fun j => xm (j + am))) := by
  by_cases he : nl = nm
  · have hm := s21' al nl ml tl vl gl wl xl am nm mm tm vm gm wm xm hp he nl 0 (by omega) (fun j h => by omega)
    generalize S.samL nl (fun j => tl (j + al)) (fun j => vl (j + al)) (fun j => gl (j + al)) (fun j => wl (j + al)) (fun j => xl (j + al)) nm (fun j => tm (j + am)) (fun j => vm (j + am)) (fun j => gm (j + am)) (fun j => wm (j + am)) (fun j => xm (j + am)) = R at *
    obtain ⟨hp1, hp2, hp3, hp4⟩ := hp
    show Goes _ _ _
    unfold p21
    repeat' (first | with_reducible refine goes_if (fun h => ?_) (fun h => ?_) <;> (try simp only [SH] at h) | exact goes_none.mpr (by omega))
    all_goals first | (exfalso; omega) | exact hm
  · have hd : S.samL nl (fun j => tl (j + al)) (fun j => vl (j + al)) (fun j => gl (j + al)) (fun j => wl (j + al)) (fun j => xl (j + al)) nm (fun j => tm (j + am)) (fun j => vm (j + am)) (fun j => gm (j + am)) (fun j => wm (j + am)) (fun j => xm (j + am)) = false := decide_eq_false (fun e => he (mkl_inj.mp e).1)
    rw [hd]
    show Goes _ _ _
    unfold p21
    repeat' (first | with_reducible refine goes_if (fun h => ?_) (fun h => ?_) <;> (try simp only [SH] at h) | exact goes_none.mpr (by omega))
    all_goals first | (exfalso; omega) | exact goes_inr.mpr rfl
theorem k21_ok  : k21.ok Try.prog := by
  intro x hx
  obtain ⟨⟨al, nl, ml, tl, vl, gl, wl, xl, _⟩, ⟨am, nm, mm, tm, vm, gm, wm, xm, _⟩, _⟩ := x
  obtain ⟨h1, h2⟩ := a21 al nl ml tl vl gl wl xl am nm mm tm vm gm wm xm (s21 al nl ml tl vl gl wl xl am nm mm tm vm gm wm xm (of_dec hx rfl))
  exact ⟨⟨400, (by decide : 2 + 1 + 0 ≤ 400), h1⟩, h2⟩
namespace S
def encE (x : Int × Int × Int × Int × Int) : List Value := [.int .i64 x.1, .int .i64 x.2.1, .int .i64 x.2.2.1, .int .i64 x.2.2.2.1, .int .i64 x.2.2.2.2]
def pvE (x : Int × Int × Int × Int × Int) : List PV := [.int .i64 x.1, .int .i64 x.2.1, .int .i64 x.2.2.1, .int .i64 x.2.2.2.1, .int .i64 x.2.2.2.2]
def cfE (x y : Int × Int × Int × Int × Int) : Int := ecmp x.1 x.2.1 x.2.2.1 x.2.2.2.1 x.2.2.2.2 y.1 y.2.1 y.2.2.1 y.2.2.2.1 y.2.2.2.2
end S
theorem cfE_neg  {x y : Int × Int × Int × Int × Int} : S.cfE y x = - S.cfE x y := ecmp_neg
theorem cfE_tr  {x y z : Int × Int × Int × Int × Int} (h1 : S.cfE x y ≤ 0) (h2 : S.cfE y z ≤ 0) : S.cfE x z ≤ 0 := ecmp_tr h1 h2
theorem cfE_z  {x y : Int × Int × Int × Int × Int} (h : S.cfE x y = 0) : x = y := by
  obtain ⟨a, b, c, d, e⟩ := x
  obtain ⟨a', b', c', d', e'⟩ := y
  obtain ⟨h1, h2, h3, h4, h5⟩ := ecmp_z h
  dsimp only at *
  subst h1 h2 h3 h4 h5
  rfl
theorem ltE  {x y : Int × Int × Int × Int × Int} : ltOf S.cfE x y = decide (S.cfE x y < 0) := rfl
theorem swoE  : SWO (ltOf S.cfE) where
  irrefl x := by
    have h := cfE_neg (x := x) (y := x)
    rw [ltE]; simp; omega
  trans x y z h1 h2 := by
    rw [ltE] at *
    simp only [decide_eq_true_eq] at *
    have h3 := cfE_tr (x := x) (y := y) (z := z) (by omega) (by omega)
    have h4 := cfE_neg (x := x) (y := z)
    have h5 := cfE_neg (x := y) (y := z)
    by_cases h : S.cfE x z = 0
    · exfalso
      have := cfE_tr (x := z) (y := x) (z := y) (by omega) (by omega)
      omega
    · omega
  ntrans x y z h1 h2 := by
    rw [ltE] at *
    simp only [decide_eq_false_iff_not] at *
    have h3 := cfE_tr (x := z) (y := y) (z := x)
    have h4 := cfE_neg (x := x) (y := z)
    have h5 := cfE_neg (x := y) (y := z)
    have h6 := cfE_neg (x := x) (y := y)
    have := h3 (by omega) (by omega)
    omega
theorem vrE (x : Int × Int × Int × Int × Int) σ : VRs σ (S.pvE x) (S.encE x) := .cons _ _ _ _ (.int _ _) (.cons _ _ _ _ (.int _ _) (.cons _ _ _ _ (.int _ _) (.cons _ _ _ _ (.int _ _) (.cons _ _ _ _ (.int _ _) .nil))))
theorem cmpE (blk off size : Nat) (w : World) : CmpLays Try.prog 27 #[] S.encE 5 S.cfE blk off size w :=
  cmp_callR (cf := S.cfE) S.pvE vrE _ _ (fun x y => (a13 x.1 x.2.1 x.2.2.1 x.2.2.2.1 x.2.2.2.2 y.1 y.2.1 y.2.2.1 y.2.2.2.1 y.2.2.2.2 (s13 x.1 x.2.1 x.2.2.1 x.2.2.2.1 x.2.2.2.2 y.1 y.2.1 y.2.2.1 y.2.2.2.1 y.2.2.2.2 trivial)).1) blk off size w
namespace S
noncomputable def sortE (l : List (Int × Int × Int × Int × Int)) : List (Int × Int × Int × Int × Int) := (Go.Ev.S.srt cfE l.toArray).toList
end S
theorem perm_arr  {α : Type} {d d' : Array α} [Inhabited α] (h : Go.Sort.PermIn 0 d.size d d') : d'.toList.Perm d.toList := by
  have h3 := h.2.2
  rw [show d'.extract 0 d.size = d' by rw [← h.1]; simp, show d.extract 0 d.size = d by simp] at h3
  exact h3
theorem at_arr  {α : Type} [Inhabited α] {d : Array α} {j : Nat} : S.at' d.toList j = d[j]! := by
  unfold S.at'
  rw [List.getD_eq_getElem?_getD, Array.getElem?_toList, getElem!_def]
  cases d[j]? <;> rfl
theorem sortE_perm  {l : List (Int × Int × Int × Int × Int)} : (S.sortE l).Perm l := by
  have := perm_arr (srt_ok swoE l.toArray).1
  rw [List.toList_toArray] at this
  exact this
theorem sortE_len  {l : List (Int × Int × Int × Int × Int)} : (S.sortE l).length = l.length := sortE_perm.length_eq
theorem sortE_asc  {l : List (Int × Int × Int × Int × Int)} : (S.sortE l).Pairwise (fun x y => S.cfE x y ≤ 0) := by
  have h := (srt_ok swoE l.toArray).2
  have hl := @sortE_len l
  rw [List.pairwise_iff_getElem]
  intro i j hi hj hij
  have h1 := h i j (Nat.zero_le _) hij (by simp only [List.size_toArray]; omega)
  rw [ltE, decide_eq_false_iff_not] at h1
  have e : ∀ k (hk : k < (S.sortE l).length), (S.sortE l)[k] = (S.srt S.cfE l.toArray)[k]! := fun k hk => by
    rw [← at_arr]
    unfold S.at'
    rw [List.getD_eq_getElem?_getD]
    show _ = ((S.sortE l)[k]?).getD _
    rw [List.getElem?_eq_getElem hk]; rfl
  rw [e i hi, e j hj]
  have := cfE_neg (x := (S.srt S.cfE l.toArray)[i]!) (y := (S.srt S.cfE l.toArray)[j]!)
  omega
theorem sortE_uniq  {l m : List (Int × Int × Int × Int × Int)} (hp : m.Perm l) (ha : m.Pairwise (fun x y => S.cfE x y ≤ 0)) : m = S.sortE l :=
  (hp.trans sortE_perm.symm).eq_of_pairwise (fun x y _ _ h1 h2 => cfE_z (by have := cfE_neg (x := x) (y := y); omega)) ha sortE_asc
abbrev St526z  := Empty
abbrev Rt526z  := List (Int × Int × Int × Int × Int)
noncomputable def V526z (nl ml : Nat) (tl vl gl wl xl : NI) (r : Rt526z) : PV := PV.tup []
noncomputable def N526z (nl ml : Nat) (tl vl gl wl xl : NI) (r : Rt526z) : List Blk := []
noncomputable def W526z (nl ml : Nat) (tl vl gl wl xl : Nat → Int) (r : Rt526z) : Nat → Blk := fun n => bif Nat.beq n 0 then Blk.cols (List.length r)
 [Col.int IntKind.i64 fun j => (S.at' r j).1,
 Col.int IntKind.i64 fun j => (S.at' r j).2.1,
 Col.int IntKind.i64 fun j => (S.at' r j).2.2.1,
 Col.int IntKind.i64 fun j => (S.at' r j).2.2.2.1,
 Col.int IntKind.i64 fun j => (S.at' r j).2.2.2.2] else .dead
noncomputable def I526z (nl ml : Nat) (tl vl gl wl xl : NI) : St526z → Hd := fun s => s.elim
noncomputable def q526z (nl ml : Nat) (tl vl gl wl xl : NI) : St526z → Option (St526z ⊕ Rt526z) := fun s => s.elim
noncomputable def p526z (nl ml : Nat) (tl vl gl wl xl : NI) : Option (St526z ⊕ Rt526z) := some (.inr (S.mkl (0) fun j => (tl j, vl j, gl j, wl j, xl j)))
def Te526z (test : TT) (Kst : KS) (Kret : KR) (nl ml : Nat) (tl vl gl wl xl : NI) : Prop := Kret (PV.tup []) ([[(0, true, Blk.cols (0) [Col.int .i64 tl, Col.int .i64 vl, Col.int .i64 gl, Col.int .i64 wl, Col.int .i64 xl])]]) (1)
theorem te526z (Kst : KS) (Kret : KR) (nl ml : Nat) (tl vl gl wl xl : NI) : run cond Try.env true noX false 400 ⟨26, [.cd (mkFn Try.f26).body], argT 0 [.own 0 5 0, .fn (.func 27) [] []], [[], [(0, (true, .cols 0 [.int .i64 tl, .int .i64 vl, .int .i64 gl, .int .i64 wl, .int .i64 xl]))]], 1⟩ (proj 1 [] Kst Kret) =
  Te526z cond Kst Kret nl ml tl vl gl wl xl := by kernel_rfl
attribute [local irreducible] Int.subNatNat in
theorem be526z (nl ml : Nat) (tl vl gl wl xl : NI) (Kst : KS) (Kret : KR) (x : St526z ⊕ Rt526z) (hS : HS 1 400 ((I526z nl ml tl vl gl wl xl)) Kst x) (hR : HR 1 400 ((V526z nl ml tl vl gl wl xl)) (fun r => [newL (1 + 1) ((N526z nl ml tl vl gl wl xl) r) ++ [(0, (true, ((W526z nl ml tl vl gl wl xl) r 0)))]]) Kret x) (h : (some (.inr (S.mkl (0) fun j => (tl j, vl j, gl j, wl j, xl j))) : Option (St526z ⊕ Rt526z)) = some x) : Te526z cond Kst Kret nl ml tl vl gl wl xl := by
  unfold Te526z
  exact ret_at hR _ h (fun n => n) rfl rfl rfl (rn_tup trivial) rfl (entl_new (use_lo rfl) rfl (Nat.le_of_eq mkl_len) (rcs_int (fun _ hj => col_mkl (fun (t : Int × Int × Int × Int × Int) => t.1) hj) (rcs_int (fun _ hj => col_mkl (fun (t : Int × Int × Int × Int × Int) => t.2.1) hj) (rcs_int (fun _ hj => col_mkl (fun (t : Int × Int × Int × Int × Int) => t.2.2.1) hj) (rcs_int (fun _ hj => col_mkl (fun (t : Int × Int × Int × Int × Int) => t.2.2.2.1) hj) (rcs_int (fun _ hj => col_mkl (fun (t : Int × Int × Int × Int × Int) => t.2.2.2.2) hj) rcs_nil))))) entl_nil)
theorem a526z (nl ml : Nat) (tl vl gl wl xl : NI) {r : Rt526z} (h : Goes ((q526z nl ml tl vl gl wl xl)) ((p526z nl ml tl vl gl wl xl)) r) : CallR Try.prog 26 [.own 0 5 0, .fn (.func 27) [] []] [[(0, (true, .cols 0 [.int .i64 tl, .int .i64 vl, .int .i64 gl, .int .i64 wl, .int .i64 xl]))]] 1 ((V526z nl ml tl vl gl wl xl) r) ((fun r => [newL (1 + 1) ((N526z nl ml tl vl gl wl xl) r) ++ [(0, (true, ((W526z nl ml tl vl gl wl xl) r 0)))]]) r) 400 ∧ ∃ F, Try.prog.funcs[26]? = some F ∧ F.body.isSome = true ∧ (F.name == "runtime.NumGoroutine") = false := by
  refine dec_free (sy := true) (f := 26) (lo := 1) (hi := 400) (H := [[(0, (true, .cols 0 [.int .i64 tl, .int .i64 vl, .int .i64 gl, .int .i64 wl, .int .i64 xl]))]]) (args := [.own 0 5 0, .fn (.func 27) [] []]) Try.envOk Try.mixed noX_ok ((I526z nl ml tl vl gl wl xl)) ((V526z nl ml tl vl gl wl xl)) (fun r => [newL (1 + 1) ((N526z nl ml tl vl gl wl xl) r) ++ [(0, (true, ((W526z nl ml tl vl gl wl xl) r 0)))]]) (fn := mkFn Try.f26) (n := 400) rfl (by decide) (by simp) (names_of rfl) ?_ h
  · intro Kst Kret x hS hR h
    exact Holds.eq (te526z Kst Kret nl ml tl vl gl wl xl) (be526z nl ml tl vl gl wl xl Kst Kret x hS hR h)
noncomputable def W526 (nl ml : Nat) (tl vl gl wl xl : Nat → Int) (r : List (Int × Int × Int × Int × Int)) : Nat → Blk := fun n => bif Nat.beq n 0 then .cols (List.length r) [Col.int IntKind.i64 fun j => (S.at' r j).1, Col.int IntKind.i64 fun j => (S.at' r j).2.1, Col.int IntKind.i64 fun j => (S.at' r j).2.2.1, Col.int IntKind.i64 fun j => (S.at' r j).2.2.2.1, Col.int IntKind.i64 fun j => (S.at' r j).2.2.2.2] else .dead
noncomputable abbrev w526 {α : Type} (g : Nat → Nat → (Nat → Int) → (Nat → Int) → (Nat → Int) → (Nat → Int) → (Nat → Int) → α) (x : (Nat × Nat × (Nat → Int) × (Nat → Int) × (Nat → Int) × (Nat → Int) × (Nat → Int) × Unit) × (Unit) × Unit) : α := g x.1.1 x.1.2.1 x.1.2.2.1 x.1.2.2.2.1 x.1.2.2.2.2.1 x.1.2.2.2.2.2.1 x.1.2.2.2.2.2.2.1
noncomputable def k526  : Con := ⟨26, [.one (.own [.int .i64, .int .i64, .int .i64, .int .i64, .int .i64]), .fn 27 []], w526 (fun nl ml tl vl gl wl xl => decide (nl ≤ 1000000)), w526 (fun nl ml tl vl gl wl xl => PV.tup []), w526 (fun nl ml tl vl gl wl xl => []), w526 (fun nl ml tl vl gl wl xl => W526 nl ml tl vl gl wl xl (S.mkl nl fun j => S.at' (S.sortE (S.mkl nl fun j => (tl j, vl j, gl j, wl j, xl j))) j))⟩
theorem sort526 (nl : Nat) (tl vl gl wl xl : Nat → Int) (h0 : 0 < nl) (h1 : nl ≤ 1000000) : CallR Try.prog 26 [.own 0 5 nl, .fn (.func 27) [] []] [[(0, (true, .cols nl [.int .i64 tl, .int .i64 vl, .int .i64 gl, .int .i64 wl, .int .i64 xl]))]] 1 (.tup []) [[(0, (true, .cols nl [Col.int IntKind.i64 fun j => (S.at' (S.mkl nl fun j => S.at' (S.sortE (S.mkl nl fun j => (tl j, vl j, gl j, wl j, xl j))) j) j).1, Col.int IntKind.i64 fun j => (S.at' (S.mkl nl fun j => S.at' (S.sortE (S.mkl nl fun j => (tl j, vl j, gl j, wl j, xl j))) j) j).2.1, Col.int IntKind.i64 fun j => (S.at' (S.mkl nl fun j => S.at' (S.sortE (S.mkl nl fun j => (tl j, vl j, gl j, wl j, xl j))) j) j).2.2.1, Col.int IntKind.i64 fun j => (S.at' (S.mkl nl fun j => S.at' (S.sortE (S.mkl nl fun j => (tl j, vl j, gl j, wl j, xl j))) j) j).2.2.2.1, Col.int IntKind.i64 fun j => (S.at' (S.mkl nl fun j => S.at' (S.sortE (S.mkl nl fun j => (tl j, vl j, gl j, wl j, xl j))) j) j).2.2.2.2]))]] 2 := by
  have hsz : (S.mkl nl fun j => (tl j, vl j, gl j, wl j, xl j)).toArray.size = nl := by rw [List.size_toArray, mkl_len]
  have key := sort_callR Try.srtT 5 (by decide) (fun w => by kernel_rfl) (fun w => by kernel_rfl) S.encE (fun _ => rfl) (fun x v hv => by simp [S.encE] at hv; rcases hv with rfl | rfl | rfl | rfl | rfl <;> rfl) S.cfE swoE 27 (enters_of Try.func27 (by kernel_rfl) rfl) cmpE [.int .i64 tl, .int .i64 vl, .int .i64 gl, .int .i64 wl, .int .i64 xl] [Col.int IntKind.i64 fun j => (S.at' (S.mkl nl fun j => S.at' (S.sortE (S.mkl nl fun j => (tl j, vl j, gl j, wl j, xl j))) j) j).1, Col.int IntKind.i64 fun j => (S.at' (S.mkl nl fun j => S.at' (S.sortE (S.mkl nl fun j => (tl j, vl j, gl j, wl j, xl j))) j) j).2.1, Col.int IntKind.i64 fun j => (S.at' (S.mkl nl fun j => S.at' (S.sortE (S.mkl nl fun j => (tl j, vl j, gl j, wl j, xl j))) j) j).2.2.1, Col.int IntKind.i64 fun j => (S.at' (S.mkl nl fun j => S.at' (S.sortE (S.mkl nl fun j => (tl j, vl j, gl j, wl j, xl j))) j) j).2.2.2.1, Col.int IntKind.i64 fun j => (S.at' (S.mkl nl fun j => S.at' (S.sortE (S.mkl nl fun j => (tl j, vl j, gl j, wl j, xl j))) j) j).2.2.2.2] rfl rfl (S.mkl nl fun j => (tl j, vl j, gl j, wl j, xl j)).toArray (by rw [hsz]; exact h0) (by rw [hsz]; exact h1) ?_ ?_
  · rw [hsz] at key
    exact key
  · intro j i c hj hc σ u hu
    rw [hsz] at hj
    have e : (S.mkl nl fun j => (tl j, vl j, gl j, wl j, xl j)).toArray[j]! = (tl j, vl j, gl j, wl j, xl j) := by
      have := at_arr (d := (S.mkl nl fun j => (tl j, vl j, gl j, wl j, xl j)).toArray) (j := j)
      rw [← this]; exact at_mkl hj
    rw [e]
    match i, hc with
    | 0, hc => cases hc; cases hu; rfl
    | 1, hc => cases hc; cases hu; rfl
    | 2, hc => cases hc; cases hu; rfl
    | 3, hc => cases hc; cases hu; rfl
    | 4, hc => cases hc; cases hu; rfl
    | i + 5, hc => cases hc
  · intro j i c hj hc σ
    rw [hsz] at hj
    have e : S.at' (S.sortE (S.mkl nl fun j => (tl j, vl j, gl j, wl j, xl j))) j = (S.srt S.cfE (S.mkl nl fun j => (tl j, vl j, gl j, wl j, xl j)).toArray)[j]! := at_arr
    have e4 : S.at' (S.mkl nl fun j => S.at' (S.sortE (S.mkl nl fun j => (tl j, vl j, gl j, wl j, xl j))) j) j = S.at' (S.sortE (S.mkl nl fun j => (tl j, vl j, gl j, wl j, xl j))) j := at_mkl hj
    rw [← e, ← e4]
    match i, hc with
    | 0, hc => cases hc; exact .int _ _
    | 1, hc => cases hc; exact .int _ _
    | 2, hc => cases hc; exact .int _ _
    | 3, hc => cases hc; exact .int _ _
    | 4, hc => cases hc; exact .int _ _
    | i + 5, hc => cases hc
theorem sort526l (nl : Nat) (tl vl gl wl xl : Nat → Int) (h0 : 0 < nl) (h1 : nl ≤ 1000000) : CallR Try.prog 26 [.own 0 5 nl, .fn (.func 27) [] []] [[(0, (true, .cols nl [.int .i64 tl, .int .i64 vl, .int .i64 gl, .int .i64 wl, .int .i64 xl]))]] 1 (.tup []) [[(0, (true, .cols (List.length (S.mkl nl fun j => S.at' (S.sortE (S.mkl nl fun j => (tl j, vl j, gl j, wl j, xl j))) j)) [Col.int IntKind.i64 fun j => (S.at' (S.mkl nl fun j => S.at' (S.sortE (S.mkl nl fun j => (tl j, vl j, gl j, wl j, xl j))) j) j).1, Col.int IntKind.i64 fun j => (S.at' (S.mkl nl fun j => S.at' (S.sortE (S.mkl nl fun j => (tl j, vl j, gl j, wl j, xl j))) j) j).2.1, Col.int IntKind.i64 fun j => (S.at' (S.mkl nl fun j => S.at' (S.sortE (S.mkl nl fun j => (tl j, vl j, gl j, wl j, xl j))) j) j).2.2.1, Col.int IntKind.i64 fun j => (S.at' (S.mkl nl fun j => S.at' (S.sortE (S.mkl nl fun j => (tl j, vl j, gl j, wl j, xl j))) j) j).2.2.2.1, Col.int IntKind.i64 fun j => (S.at' (S.mkl nl fun j => S.at' (S.sortE (S.mkl nl fun j => (tl j, vl j, gl j, wl j, xl j))) j) j).2.2.2.2]))]] 2 := by
  have key := sort526 nl tl vl gl wl xl h0 h1
  have e : (S.mkl nl fun j => S.at' (S.sortE (S.mkl nl fun j => (tl j, vl j, gl j, wl j, xl j))) j).length = nl := mkl_len
  rw [e]
  exact key
theorem k526_ok  : k526.ok Try.prog := by
  intro x hx
  obtain ⟨⟨nl, ml, tl, vl, gl, wl, xl, _⟩, ⟨_⟩, _⟩ := x
  have h1 : nl ≤ 1000000 := of_dec hx rfl
  obtain ⟨z1, z2⟩ := a526z 0 0 tl vl gl wl xl (r := []) rfl
  rcases Nat.eq_zero_or_pos nl with h0 | h0
  · subst h0
    refine ⟨⟨400, (by decide : 1 + 1 + 0 ≤ 400), ?_⟩, z2⟩
    have e3 : W526z 0 0 tl vl gl wl xl [] 0 = Blk.cols (List.length (S.mkl 0 fun j => S.at' (S.sortE (S.mkl 0 fun j => (tl j, vl j, gl j, wl j, xl j))) j)) [Col.int IntKind.i64 fun j => (S.at' (S.mkl 0 fun j => S.at' (S.sortE (S.mkl 0 fun j => (tl j, vl j, gl j, wl j, xl j))) j) j).1, Col.int IntKind.i64 fun j => (S.at' (S.mkl 0 fun j => S.at' (S.sortE (S.mkl 0 fun j => (tl j, vl j, gl j, wl j, xl j))) j) j).2.1, Col.int IntKind.i64 fun j => (S.at' (S.mkl 0 fun j => S.at' (S.sortE (S.mkl 0 fun j => (tl j, vl j, gl j, wl j, xl j))) j) j).2.2.1, Col.int IntKind.i64 fun j => (S.at' (S.mkl 0 fun j => S.at' (S.sortE (S.mkl 0 fun j => (tl j, vl j, gl j, wl j, xl j))) j) j).2.2.2.1, Col.int IntKind.i64 fun j => (S.at' (S.mkl 0 fun j => S.at' (S.sortE (S.mkl 0 fun j => (tl j, vl j, gl j, wl j, xl j))) j) j).2.2.2.2] := rfl
    have z1 : CallR Try.prog 26 [.own 0 5 0, .fn (.func 27) [] []] [[(0, (true, .cols 0 [.int .i64 tl, .int .i64 vl, .int .i64 gl, .int .i64 wl, .int .i64 xl]))]] 1 (.tup []) [[(0, (true, W526z 0 0 tl vl gl wl xl [] 0))]] 400 := z1
    rw [e3] at z1
    exact z1
  · refine ⟨⟨2, (by decide : 1 + 1 + 0 ≤ 2), ?_⟩, z2⟩
    exact sort526l nl tl vl gl wl xl h0 h1
noncomputable def xP (test : Bool → Prop → Prop → Prop) : Ext := consX test [k40, k14, k13, k16, k21, k12, k526]
theorem xP_ok  : ExtOk Try.prog (xP cond) := consX_ok ⟨k40_ok, k14_ok, k13_ok, k16_ok, k21_ok, k12_ok, k526_ok, trivial⟩
namespace S
def inF (F : Nat → Int × Int × Int × Int × Int) (e : Int × Int × Int × Int × Int) (p j : Nat) : Int × Int × Int × Int × Int := if j < p then F j else if j = p then e else F (j - 1)
def posE (F : Nat → Int × Int × Int × Int × Int) (e : Int × Int × Int × Int × Int) : Nat → Nat
  | 0 => 0
  | n + 1 => if cfE (F n) e > 0 then posE F e n else n + 1
end S
theorem inF_lt  {F : Nat → Int × Int × Int × Int × Int} {e : Int × Int × Int × Int × Int} {p j : Nat} (h : j < p) : S.inF F e p j = F j := if_pos h
theorem inF_eq  {F : Nat → Int × Int × Int × Int × Int} {e : Int × Int × Int × Int × Int} {p : Nat} : S.inF F e p p = e := by unfold S.inF; rw [if_neg (Nat.lt_irrefl p), if_pos rfl]
theorem inF_gt  {F : Nat → Int × Int × Int × Int × Int} {e : Int × Int × Int × Int × Int} {p j : Nat} (h : p < j) : S.inF F e p j = F (j - 1) := by unfold S.inF; rw [if_neg (by omega), if_neg (by omega)]
theorem posE_le  {F : Nat → Int × Int × Int × Int × Int} {e : Int × Int × Int × Int × Int} : ∀ {n : Nat}, S.posE F e n ≤ n
  | 0 => Nat.le_refl _
  | n + 1 => by
    have := posE_le (F := F) (e := e) (n := n)
    simp only [S.posE]
    split <;> omega
theorem insX_swap  {F : Nat → Int × Int × Int × Int × Int} {e : Int × Int × Int × Int × Int} {n i : Nat} (hi : i + 1 ≤ n) (G : Nat → Int × Int × Int × Int × Int)
    (h1 : G (i + 1) = S.at' (S.mkl (n + 1) fun j => S.inF F e (i + 1) j) i) (h2 : G i = S.at' (S.mkl (n + 1) fun j => S.inF F e (i + 1) j) (i + 1)) (h3 : ∀ j, j ≠ i → j ≠ i + 1 → G j = S.at' (S.mkl (n + 1) fun j => S.inF F e (i + 1) j) j) :
    (S.mkl (n + 1) fun j => G j) = S.mkl (n + 1) fun j => S.inF F e i j := by
  rw [mkl_inj]
  refine ⟨rfl, fun j hj => ?_⟩
  rw [at_mkl (by omega), inF_lt (by omega)] at h1
  rw [at_mkl (by omega), inF_eq] at h2
  by_cases e1 : j = i
  · subst e1; rw [h2, inF_eq]
  by_cases e2 : j = i + 1
  · subst e2; rw [h1, inF_gt (by omega)]; rfl
  rw [h3 j e1 e2, at_mkl hj]
  by_cases e3 : j < i
  · rw [inF_lt (by omega), inF_lt e3]
  · rw [inF_gt (by omega), inF_gt (by omega)]
theorem bqt  {α : Type} {x y : α} {n : Nat} : (bif Nat.beq n n then x else y) = x := by rw [Nat.beq_refl]; rfl
theorem bqf  {α : Type} {x y : α} {n m : Nat} (h : n ≠ m) : (bif Nat.beq n m then x else y) = y := by
  have : Nat.beq n m = false := by
    cases e : Nat.beq n m
    · rfl
    · exact absurd (Nat.eq_of_beq_eq_true e) h
  rw [this]; rfl
inductive St530 where
  | h0 (x0 : Int) (x1 : List (Int × Int × Int × Int × Int))
abbrev Rt530  := List (Int × Int × Int × Int × Int)
noncomputable def V530 (nl ml : Nat) (tl vl gl wl xl : NI) (ta tn tc ts tp : Int) (r : Rt530) : PV := PV.own (2) (5) (List.length r)
noncomputable def N530 (nl ml : Nat) (tl vl gl wl xl : NI) (ta tn tc ts tp : Int) (r : Rt530) : List Blk := [Blk.cols (List.length r) [Col.int .i64 fun j => (S.at' r j).1, Col.int .i64 fun j => (S.at' r j).2.1, Col.int .i64 fun j => (S.at' r j).2.2.1, Col.int .i64 fun j => (S.at' r j).2.2.2.1, Col.int .i64 fun j => (S.at' r j).2.2.2.2]]
noncomputable def W530 (nl ml : Nat) (tl vl gl wl xl : Nat → Int) (ta tn tc ts tp : Int) (r : Rt530) : Nat → Blk := fun n => bif Nat.beq n 0 then Blk.dead else .dead
noncomputable def I530 (nl ml : Nat) (tl vl gl wl xl : NI) (ta tn tc ts tp : Int) : St530 → Hd
  | .h0 x0 x1 => ⟨hd Try.f30 0, [PV.own (1) (5) (List.length x1), PV.int .i64 x0], [[(1, (true, Blk.cols (List.length x1)
 [Col.int .i64 fun j => (S.at' x1 j).1,
 Col.int .i64 fun j => (S.at' x1 j).2.1,
 Col.int .i64 fun j => (S.at' x1 j).2.2.1,
 Col.int .i64 fun j => (S.at' x1 j).2.2.2.1,
 Col.int .i64 fun j => (S.at' x1 j).2.2.2.2]))], [(0, (true, Blk.dead))]], 2⟩
noncomputable def q530 (nl ml : Nat) (tl vl gl wl xl : NI) (ta tn tc ts tp : Int) : St530 → Option (St530 ⊕ Rt530) | .h0 x0 x1 => bif (decide (x0 > 0)) then (bif (lim .i64 (x0 - 1)) then (bif (decide ((0 : Int) ≤ x0 - 1 ∧ x0 - 1 < (↑(List.length x1) : Int))) then (bif (decide (Int.toNat (x0 - 1) < List.length x1)) then (bif (decide ((0 : Int) ≤ x0 ∧ x0 < (↑(List.length x1) : Int))) then (bif (decide (Int.toNat x0 < List.length x1)) then (bif (decide (S.ecmp ((S.at' x1 (Int.toNat (x0 - 1))).1) ((S.at' x1 (Int.toNat (x0 - 1))).2.1) ((S.at' x1 (Int.toNat (x0 - 1))).2.2.1) ((S.at' x1 (Int.toNat (x0 - 1))).2.2.2.1) ((S.at' x1 (Int.toNat (x0 - 1))).2.2.2.2) ((S.at' x1 (Int.toNat x0)).1) ((S.at' x1 (Int.toNat x0)).2.1) ((S.at' x1 (Int.toNat x0)).2.2.1) ((S.at' x1 (Int.toNat x0)).2.2.2.1) ((S.at' x1 (Int.toNat x0)).2.2.2.2) > 0)) then (some (.inl (.h0 (x0 - 1) (S.mkl (List.length x1) fun j => (bif Nat.beq j (Int.toNat x0) then (S.at' x1 (Int.toNat (x0 - 1))).1 else bif Nat.beq j (Int.toNat (x0 - 1)) then (S.at' x1 (Int.toNat x0)).1 else (S.at' x1 j).1, bif Nat.beq j (Int.toNat x0) then (S.at' x1 (Int.toNat (x0 - 1))).2.1 else bif Nat.beq j (Int.toNat (x0 - 1)) then (S.at' x1 (Int.toNat x0)).2.1 else (S.at' x1 j).2.1, bif Nat.beq j (Int.toNat x0) then (S.at' x1 (Int.toNat (x0 - 1))).2.2.1 else bif Nat.beq j (Int.toNat (x0 - 1)) then (S.at' x1 (Int.toNat x0)).2.2.1 else (S.at' x1 j).2.2.1, bif Nat.beq j (Int.toNat x0) then (S.at' x1 (Int.toNat (x0 - 1))).2.2.2.1 else bif Nat.beq j (Int.toNat (x0 - 1)) then (S.at' x1 (Int.toNat x0)).2.2.2.1 else (S.at' x1 j).2.2.2.1, bif Nat.beq j (Int.toNat x0) then (S.at' x1 (Int.toNat (x0 - 1))).2.2.2.2 else bif Nat.beq j (Int.toNat (x0 - 1)) then (S.at' x1 (Int.toNat x0)).2.2.2.2 else (S.at' x1 j).2.2.2.2))))) else (some (.inr (x1)))) else (none)) else (none)) else (none)) else (none)) else (none)) else (some (.inr (x1)))
noncomputable def p530 (nl ml : Nat) (tl vl gl wl xl : NI) (ta tn tc ts tp : Int) : Option (St530 ⊕ Rt530) := bif (decide (nl + 1 ≤ 1000000)) then (bif (decide (nl ≤ nl)) then (bif (lim .i64 ((↑(nl + 1) : Int) - 1)) then (some (.inl (.h0 ((↑(nl + 1) : Int) - 1) (S.snoc (S.mkl nl fun j => (tl j, vl j, gl j, wl j, xl j)) (ta, tn, tc, ts, tp))))) else (none)) else (none)) else (none)
def Te530 (test : TT) (Kst : KS) (Kret : KR) (nl ml : Nat) (tl vl gl wl xl : NI) (ta tn tc ts tp : Int) : Prop := test (decide (nl + 1 ≤ 1000000)) (test (decide (nl ≤ nl)) (test (true) (test (lim .i64 ((↑(nl + 1) : Int) - 1)) (Kst (hd Try.f30 0) ([PV.own (3) (5) (nl + 1), PV.int .i64 ((↑(nl + 1) : Int) - 1)]) ([[(0, false, Blk.dead), (3, true, Blk.cols (nl + 1) [Col.int .i64 fun j => bif Nat.blt j nl then tl j else ta, Col.int .i64 fun j => bif Nat.blt j nl then vl j else tn, Col.int .i64 fun j => bif Nat.blt j nl then gl j else tc, Col.int .i64 fun j => bif Nat.blt j nl then wl j else ts, Col.int .i64 fun j => bif Nat.blt j nl then xl j else tp])]]) (4)) (False)) (False)) (False)) (False)
theorem te530 (test : TT) (Kst : KS) (Kret : KR) (nl ml : Nat) (tl vl gl wl xl : NI) (ta tn tc ts tp : Int) : run test Try.env true (xP test) true 400 ⟨30, [.cd (mkFn Try.f30).body], argT 0 [.own 0 5 nl, .agg [.int .i64 ta, .int .i64 tn, .int .i64 tc, .int .i64 ts, .int .i64 tp]], [[], [(0, (true, .cols nl [.int .i64 tl, .int .i64 vl, .int .i64 gl, .int .i64 wl, .int .i64 xl]))]], 1⟩ (proj 1 [0, 5] Kst Kret) =
  Te530 test Kst Kret nl ml tl vl gl wl xl ta tn tc ts tp := by kernel_rfl
noncomputable abbrev u530_0_0 (x0 : Int) (x1 : List (Int × Int × Int × Int × Int)) := decide (Int.toNat (x0 - (1 : Int)) < List.length x1)
noncomputable abbrev u530_0_1 (x1 : List (Int × Int × Int × Int × Int)) := ([[(0, true, Blk.dead), (1, true, Blk.cols (List.length x1) [Col.int IntKind.i64 fun j => (S.at' x1 j).1, Col.int IntKind.i64 fun j => (S.at' x1 j).2.1, Col.int IntKind.i64 fun j => (S.at' x1 j).2.2.1, Col.int IntKind.i64 fun j => (S.at' x1 j).2.2.2.1, Col.int IntKind.i64 fun j => (S.at' x1 j).2.2.2.2])]])
def T530_0 (test : TT) (Kst : KS) (Kret : KR) (nl ml : Nat) (tl vl gl wl xl : NI) (ta tn tc ts tp x0 : Int) (x1 : List (Int × Int × Int × Int × Int)) : Prop := test (decide (x0 > 0)) (test (lim .i64 (x0 - 1)) (test (decide ((0 : Int) ≤ x0 - 1 ∧ x0 - 1 < (↑(List.length x1) : Int))) (test (u530_0_0 x0 x1) (test (u530_0_0 x0 x1) (test (u530_0_0 x0 x1) (test (u530_0_0 x0 x1) (test (u530_0_0 x0 x1) (test (decide ((0 : Int) ≤ x0 ∧ x0 < (↑(List.length x1) : Int))) (test (decide (Int.toNat x0 < List.length x1)) (test (decide (Int.toNat x0 < List.length x1)) (test (decide (Int.toNat x0 < List.length x1)) (test (decide (Int.toNat x0 < List.length x1)) (test (decide (Int.toNat x0 < List.length x1)) (test (true) (test (decide (S.ecmp (S.at' x1 (Int.toNat (x0 - 1))).1 (S.at' x1 (Int.toNat (x0 - 1))).2.1 (S.at' x1 (Int.toNat (x0 - 1))).2.2.1 (S.at' x1 (Int.toNat (x0 - 1))).2.2.2.1 (S.at' x1 (Int.toNat (x0 - 1))).2.2.2.2 (S.at' x1 (Int.toNat x0)).1 (S.at' x1 (Int.toNat x0)).2.1 (S.at' x1 (Int.toNat x0)).2.2.1 (S.at' x1 (Int.toNat x0)).2.2.2.1 (S.at' x1 (Int.toNat x0)).2.2.2.2 > 0)) (test (lim .i64 (x0 - 1)) (test (decide ((0 : Int) ≤ x0 ∧ x0 < (↑(List.length x1) : Int))) (test (decide (Int.toNat x0 < List.length x1)) (test (decide (Int.toNat x0 < List.length x1)) (test (decide (Int.toNat x0 < List.length x1)) (test (decide (Int.toNat x0 < List.length x1)) (test (decide (Int.toNat x0 < List.length x1)) (test (lim .i64 (x0 - 1)) (test (decide ((0 : Int) ≤ x0 - 1 ∧ x0 - 1 < (↑(List.length x1) : Int))) (test (u530_0_0 x0 x1) (test (u530_0_0 x0 x1) (test (u530_0_0 x0 x1) (test (u530_0_0 x0 x1) (test (u530_0_0 x0 x1) (test (decide ((0 : Int) ≤ x0 - 1 ∧ x0 - 1 < (↑(List.length x1) : Int))) (test (u530_0_0 x0 x1) (test (decide ((0 : Int) ≤ x0 ∧ x0 < (↑(List.length x1) : Int))) (test (decide (Int.toNat x0 < List.length x1)) (test (lim .i64 (x0 - 1)) (Kst (hd Try.f30 0) ([PV.own (1) (5) (List.length x1), PV.int .i64 (x0 - 1)]) ([[(0, true, Blk.dead), (1, true, Blk.cols (List.length x1) [Col.int .i64 fun j => bif Nat.beq j (Int.toNat x0) then (S.at' x1 (Int.toNat (x0 - 1))).1 else bif Nat.beq j (Int.toNat (x0 - 1)) then (S.at' x1 (Int.toNat x0)).1 else (S.at' x1 j).1, Col.int .i64 fun j => bif Nat.beq j (Int.toNat x0) then (S.at' x1 (Int.toNat (x0 - 1))).2.1 else bif Nat.beq j (Int.toNat (x0 - 1)) then (S.at' x1 (Int.toNat x0)).2.1 else (S.at' x1 j).2.1, Col.int .i64 fun j => bif Nat.beq j (Int.toNat x0) then (S.at' x1 (Int.toNat (x0 - 1))).2.2.1 else bif Nat.beq j (Int.toNat (x0 - 1)) then (S.at' x1 (Int.toNat x0)).2.2.1 else (S.at' x1 j).2.2.1, Col.int .i64 fun j => bif Nat.beq j (Int.toNat x0) then (S.at' x1 (Int.toNat (x0 - 1))).2.2.2.1 else bif Nat.beq j (Int.toNat (x0 - 1)) then (S.at' x1 (Int.toNat x0)).2.2.2.1 else (S.at' x1 j).2.2.2.1, Col.int .i64 fun j => bif Nat.beq j (Int.toNat x0) then (S.at' x1 (Int.toNat (x0 - 1))).2.2.2.2 else bif Nat.beq j (Int.toNat (x0 - 1)) then (S.at' x1 (Int.toNat x0)).2.2.2.2 else (S.at' x1 j).2.2.2.2])]]) (3)) (False)) (False)) (False)) (False)) (False)) (False)) (False)) (False)) (False)) (False)) (False)) (False)) (False)) (False)) (False)) (False)) (False)) (False)) (False)) (Kret (PV.own (1) (5) (List.length x1)) (u530_0_1 x1) (3))) (False)) (False)) (False)) (False)) (False)) (False)) (False)) (False)) (False)) (False)) (False)) (False)) (False)) (False)) (Kret (PV.own (1) (5) (List.length x1)) (u530_0_1 x1) (2))
theorem t530_0 (test : TT) (Kst : KS) (Kret : KR) (nl ml : Nat) (tl vl gl wl xl : NI) (ta tn tc ts tp x0 : Int) (x1 : List (Int × Int × Int × Int × Int)) : run test Try.env true (xP test) true 400 ⟨30, hd Try.f30 0, zipT [0, 5] [PV.own (1) (5) (List.length x1), PV.int .i64 x0], [[(1, (true, Blk.cols (List.length x1)
 [Col.int .i64 fun j => (S.at' x1 j).1,
 Col.int .i64 fun j => (S.at' x1 j).2.1,
 Col.int .i64 fun j => (S.at' x1 j).2.2.1,
 Col.int .i64 fun j => (S.at' x1 j).2.2.2.1,
 Col.int .i64 fun j => (S.at' x1 j).2.2.2.2]))], [(0, (true, Blk.dead))]], 2⟩ (proj 1 [0, 5] Kst Kret) =
  T530_0 test Kst Kret nl ml tl vl gl wl xl ta tn tc ts tp x0 x1 := by kernel_rfl
noncomputable abbrev J530 (nl ml : Nat) (tl : NI) (vl : NI) (gl : NI) (wl : NI) (xl : NI) (ta : Int) (tn : Int) (tc : Int) (ts : Int) (tp : Int) : Rt530 → Heap := fun r => [newL (1 + 1) ((N530 nl ml tl vl gl wl xl ta tn tc ts tp) r) ++ [(0, (true, ((W530 nl ml tl vl gl wl xl ta tn tc ts tp) r 0)))]]
attribute [local irreducible] Int.subNatNat in
theorem be530 (nl ml : Nat) (tl vl gl wl xl : NI) (ta tn tc ts tp : Int) (Kst : KS) (Kret : KR) (x : St530 ⊕ Rt530) (hS : HS 1 400 ((I530 nl ml tl vl gl wl xl ta tn tc ts tp)) Kst x) (hR : HR 1 400 ((V530 nl ml tl vl gl wl xl ta tn tc ts tp)) (J530 nl ml tl vl gl wl xl ta tn tc ts tp) Kret x) (h : p530 nl ml tl vl gl wl xl ta tn tc ts tp = some x) : Te530 cond Kst Kret nl ml tl vl gl wl xl ta tn tc ts tp := by
  unfold Te530
  unfold p530 at h
  exact bif_split h (fun c0 h => bif_split h (fun c1 h => cond_yes rfl (bif_split h (fun c2 h => stop_at hS _ h (fun n => bif Nat.beq n 1 then 3 else n) rfl rfl rfl ⟨(rn_own (use_own rfl) rfl (snoc_len' mkl_len)), ⟨(rn_int rfl), trivial⟩⟩ rfl (entl_new (use_own rfl) rfl (Nat.le_of_eq (snoc_len' mkl_len)) (rcs_int (col_snoc' (fun (t : Int × Int × Int × Int × Int) => t.1) mkl_len (fun _ hj => col_mkl (fun (t : Int × Int × Int × Int × Int) => t.1) hj)) (rcs_int (col_snoc' (fun (t : Int × Int × Int × Int × Int) => t.2.1) mkl_len (fun _ hj => col_mkl (fun (t : Int × Int × Int × Int × Int) => t.2.1) hj)) (rcs_int (col_snoc' (fun (t : Int × Int × Int × Int × Int) => t.2.2.1) mkl_len (fun _ hj => col_mkl (fun (t : Int × Int × Int × Int × Int) => t.2.2.1) hj)) (rcs_int (col_snoc' (fun (t : Int × Int × Int × Int × Int) => t.2.2.2.1) mkl_len (fun _ hj => col_mkl (fun (t : Int × Int × Int × Int × Int) => t.2.2.2.1) hj)) (rcs_int (col_snoc' (fun (t : Int × Int × Int × Int × Int) => t.2.2.2.2) mkl_len (fun _ hj => col_mkl (fun (t : Int × Int × Int × Int × Int) => t.2.2.2.2) hj)) rcs_nil))))) (entl_dead entl_nil))) (fun c2 h => no_some h))) (fun c1 h => no_some h)) (fun c0 h => no_some h)
attribute [local irreducible] Int.subNatNat in
theorem b530_0 (nl ml : Nat) (tl vl gl wl xl : NI) (ta tn tc ts tp : Int) (Kst : KS) (Kret : KR) (x : St530 ⊕ Rt530) (hS : HS 1 400 ((I530 nl ml tl vl gl wl xl ta tn tc ts tp)) Kst x) (hR : HR 1 400 ((V530 nl ml tl vl gl wl xl ta tn tc ts tp)) (J530 nl ml tl vl gl wl xl ta tn tc ts tp) Kret x) (x0 : Int) (x1 : List (Int × Int × Int × Int × Int)) (h : q530 nl ml tl vl gl wl xl ta tn tc ts tp (.h0 x0 x1) = some x) : T530_0 cond Kst Kret nl ml tl vl gl wl xl ta tn tc ts tp x0 x1 := by
  unfold T530_0
  rw [q530] at h
  refine bif_split h (fun c0 h => bif_split h (fun c1 h => bif_split h (fun c2 h => bif_split h (fun c3 h => cond_yes c3 (cond_yes c3 (cond_yes c3 (cond_yes c3 (bif_split h (fun c4 h => bif_split h (fun c5 h => cond_yes c5 (cond_yes c5 (cond_yes c5 (cond_yes c5 (cond_yes rfl (bif_split h (fun c6 h => cond_yes c1 (cond_yes c4 (cond_yes c5 (cond_yes c5 (cond_yes c5 (cond_yes c5 (cond_yes c5 (cond_yes c1 (cond_yes c2 (cond_yes c3 (cond_yes c3 (cond_yes c3 (cond_yes c3 (cond_yes c3 (cond_yes c2 (cond_yes c3 (cond_yes c4 (cond_yes c5 (cond_yes c1 (stop_at hS _ h (fun n => bif Nat.beq n 1 then 1 else n) rfl rfl rfl ⟨(rn_own (use_own rfl) rfl mkl_len), ⟨(rn_int rfl), trivial⟩⟩ rfl (entl_new (use_own rfl) rfl (Nat.le_of_eq mkl_len) (rcs_int (fun _ hj => col_mkl (fun (t : Int × Int × Int × Int × Int) => t.1) hj) (rcs_int (fun _ hj => col_mkl (fun (t : Int × Int × Int × Int × Int) => t.2.1) hj) (rcs_int (fun _ hj => col_mkl (fun (t : Int × Int × Int × Int × Int) => t.2.2.1) hj) (rcs_int (fun _ hj => col_mkl (fun (t : Int × Int × Int × Int × Int) => t.2.2.2.1) hj) (rcs_int (fun _ hj => col_mkl (fun (t : Int × Int × Int × Int × Int) => t.2.2.2.2) hj) rcs_nil))))) (entl_dead entl_nil)))))))))))))))))))))) (fun c6 h => ?_))))))) (fun c5 h => ?_)) (fun c4 h => ?_)))))) (fun c3 h => ?_)) (fun c2 h => ?_)) (fun c1 h => ?_)) (fun c0 h => ?_)
  all_goals first
    | exact no_some h
    | exact ret_at hR _ h (fun n => bif Nat.beq n 2 then 1 else n) rfl rfl rfl (rn_own (use_own rfl) rfl rfl) rfl (entl_new (use_own rfl) rfl (Nat.le_of_eq rfl) (rcs_int (fun _ _ => rfl) (rcs_int (fun _ _ => rfl) (rcs_int (fun _ _ => rfl) (rcs_int (fun _ _ => rfl) (rcs_int (fun _ _ => rfl) rcs_nil))))) (entl_dead entl_nil))
theorem a530 (nl ml : Nat) (tl vl gl wl xl : NI) (ta tn tc ts tp : Int) {r : Rt530} (h : Goes ((q530 nl ml tl vl gl wl xl ta tn tc ts tp)) ((p530 nl ml tl vl gl wl xl ta tn tc ts tp)) r) : CallR Try.prog 30 [.own 0 5 nl, .agg [.int .i64 ta, .int .i64 tn, .int .i64 tc, .int .i64 ts, .int .i64 tp]] [[(0, (true, .cols nl [.int .i64 tl, .int .i64 vl, .int .i64 gl, .int .i64 wl, .int .i64 xl]))]] 1 ((V530 nl ml tl vl gl wl xl ta tn tc ts tp) r) ((J530 nl ml tl vl gl wl xl ta tn tc ts tp) r) 400 ∧ ∃ F, Try.prog.funcs[30]? = some F ∧ F.body.isSome = true ∧ (F.name == "runtime.NumGoroutine") = false := by
  refine dec_calls (sy := true) (f := 30) (lo := 1) (hi := 400) (H := [[(0, (true, .cols nl [.int .i64 tl, .int .i64 vl, .int .i64 gl, .int .i64 wl, .int .i64 xl]))]]) (args := [.own 0 5 nl, .agg [.int .i64 ta, .int .i64 tn, .int .i64 tc, .int .i64 ts, .int .i64 tp]]) Try.envOk Try.mixed xP_ok ((I530 nl ml tl vl gl wl xl ta tn tc ts tp)) ((V530 nl ml tl vl gl wl xl ta tn tc ts tp)) (J530 nl ml tl vl gl wl xl ta tn tc ts tp) (fn := mkFn Try.f30) (ts := [0, 5]) (n := 400) rfl (by decide) (by simp) (names_of rfl) ?_ ?_ ?_ h
  · intro s; cases s <;> exact ⟨hd_ok _ _, by simp [I530], names_of rfl, Nat.le_of_ble_eq_true rfl⟩
  · intro Kst Kret x hS hR h
    exact Holds.eq (te530 cond Kst Kret nl ml tl vl gl wl xl ta tn tc ts tp) (be530 nl ml tl vl gl wl xl ta tn tc ts tp Kst Kret x hS hR h)
  · intro Kst Kret x hS hR s h
    cases s with
    | h0 x0 x1 => exact Holds.eq (t530_0 cond Kst Kret nl ml tl vl gl wl xl ta tn tc ts tp x0 x1) (b530_0 nl ml tl vl gl wl xl ta tn tc ts tp Kst Kret x hS hR x0 x1 h)
noncomputable abbrev w530 {α : Type} (g : Nat → Nat → (Nat → Int) → (Nat → Int) → (Nat → Int) → (Nat → Int) → (Nat → Int) → Int → Int → Int → Int → Int → α) (x : (Nat × Nat × (Nat → Int) × (Nat → Int) × (Nat → Int) × (Nat → Int) × (Nat → Int) × Unit) × (Int × Int × Int × Int × Int × Unit) × Unit) : α := g x.1.1 x.1.2.1 x.1.2.2.1 x.1.2.2.2.1 x.1.2.2.2.2.1 x.1.2.2.2.2.2.1 x.1.2.2.2.2.2.2.1 x.2.1.1 x.2.1.2.1 x.2.1.2.2.1 x.2.1.2.2.2.1 x.2.1.2.2.2.2.1
noncomputable def k530  : Con := ⟨30, [.one (.own [.int .i64, .int .i64, .int .i64, .int .i64, .int .i64]), .agg [.plain (.int .i64), .plain (.int .i64), .plain (.int .i64), .plain (.int .i64), .plain (.int .i64)]], w530 (fun nl ml tl vl gl wl xl ta tn tc ts tp => decide (nl ≤ 100000)), w530 (fun nl ml tl vl gl wl xl ta tn tc ts tp => (V530 nl ml tl vl gl wl xl ta tn tc ts tp) ((S.mkl (nl + 1) fun j => S.inF (fun j => (tl j, vl j, gl j, wl j, xl j)) (ta, tn, tc, ts, tp) (S.posE (fun j => (tl j, vl j, gl j, wl j, xl j)) (ta, tn, tc, ts, tp) nl) j))), w530 (fun nl ml tl vl gl wl xl ta tn tc ts tp => (N530 nl ml tl vl gl wl xl ta tn tc ts tp) ((S.mkl (nl + 1) fun j => S.inF (fun j => (tl j, vl j, gl j, wl j, xl j)) (ta, tn, tc, ts, tp) (S.posE (fun j => (tl j, vl j, gl j, wl j, xl j)) (ta, tn, tc, ts, tp) nl) j))), w530 (fun nl ml tl vl gl wl xl ta tn tc ts tp => (W530 nl ml tl vl gl wl xl ta tn tc ts tp) ((S.mkl (nl + 1) fun j => S.inF (fun j => (tl j, vl j, gl j, wl j, xl j)) (ta, tn, tc, ts, tp) (S.posE (fun j => (tl j, vl j, gl j, wl j, xl j)) (ta, tn, tc, ts, tp) nl) j)))⟩
theorem s530' (nl ml : Nat) (tl vl gl wl xl : Nat → Int) (ta tn tc ts tp : Int) (hp : nl ≤ 100000) : ∀ i : Nat, i ≤ nl → Comes (q530 nl ml tl vl gl wl xl ta tn tc ts tp) (.h0 (i : Int) (S.mkl (nl + 1) fun j => S.inF (fun j => (tl j, vl j, gl j, wl j, xl j)) (ta, tn, tc, ts, tp) i j)) (S.mkl (nl + 1) fun j => S.inF (fun j => (tl j, vl j, gl j, wl j, xl j)) (ta, tn, tc, ts, tp) (S.posE (fun j => (tl j, vl j, gl j, wl j, xl j)) (ta, tn, tc, ts, tp) i) j) := by
  intro i
  induction i with
  | zero =>
    intro hi
    show Comes _ _ (S.mkl (nl + 1) fun j => S.inF (fun j => (tl j, vl j, gl j, wl j, xl j)) (ta, tn, tc, ts, tp) 0 j)
    generalize (S.mkl (nl + 1) fun j => S.inF (fun j => (tl j, vl j, gl j, wl j, xl j)) (ta, tn, tc, ts, tp) 0 j) = L
    apply Comes.of
    show Goes _ _ _
    (first | rw [q530] | unfold q530)
    repeat' (first | with_reducible refine goes_if (fun h => ?_) (fun h => ?_) <;> (try simp only [SH] at h) | exact goes_none.mpr (by omega))
    all_goals first | (exfalso; omega) | exact goes_inr.mpr rfl
  | succ i ih =>
    intro hi
    have ih := ih (by omega)
    have e1 : (((i + 1 : Nat) : Int) - 1) = i := by omega
    have ht : (((i + 1 : Nat) : Int)).toNat = i + 1 := by omega
    have hl : List.length (S.mkl (nl + 1) fun j => S.inF (fun j => (tl j, vl j, gl j, wl j, xl j)) (ta, tn, tc, ts, tp) (i + 1) j) = nl + 1 := mkl_len
    have a1 : S.at' (S.mkl (nl + 1) fun j => S.inF (fun j => (tl j, vl j, gl j, wl j, xl j)) (ta, tn, tc, ts, tp) (i + 1) j) i = (fun j => (tl j, vl j, gl j, wl j, xl j)) i := by rw [at_mkl (by omega), inF_lt (by omega)]
    have a2 : S.at' (S.mkl (nl + 1) fun j => S.inF (fun j => (tl j, vl j, gl j, wl j, xl j)) (ta, tn, tc, ts, tp) (i + 1) j) (i + 1) = (ta, tn, tc, ts, tp) := by rw [at_mkl (by omega), inF_eq]
    have hs := insX_swap (F := (fun j => (tl j, vl j, gl j, wl j, xl j))) (e := (ta, tn, tc, ts, tp)) (n := nl) (i := i) (by omega)
    apply Comes.of
    show Goes _ _ _
    rw [q530]
    simp only [e1, ht, Int.toNat_natCast, hl]
    have hc : S.ecmp (S.at' (S.mkl (nl + 1) fun j => S.inF (fun j => (tl j, vl j, gl j, wl j, xl j)) (ta, tn, tc, ts, tp) (i + 1) j) i).1 (S.at' (S.mkl (nl + 1) fun j => S.inF (fun j => (tl j, vl j, gl j, wl j, xl j)) (ta, tn, tc, ts, tp) (i + 1) j) i).2.1 (S.at' (S.mkl (nl + 1) fun j => S.inF (fun j => (tl j, vl j, gl j, wl j, xl j)) (ta, tn, tc, ts, tp) (i + 1) j) i).2.2.1 (S.at' (S.mkl (nl + 1) fun j => S.inF (fun j => (tl j, vl j, gl j, wl j, xl j)) (ta, tn, tc, ts, tp) (i + 1) j) i).2.2.2.1 (S.at' (S.mkl (nl + 1) fun j => S.inF (fun j => (tl j, vl j, gl j, wl j, xl j)) (ta, tn, tc, ts, tp) (i + 1) j) i).2.2.2.2 (S.at' (S.mkl (nl + 1) fun j => S.inF (fun j => (tl j, vl j, gl j, wl j, xl j)) (ta, tn, tc, ts, tp) (i + 1) j) (i + 1)).1 (S.at' (S.mkl (nl + 1) fun j => S.inF (fun j => (tl j, vl j, gl j, wl j, xl j)) (ta, tn, tc, ts, tp) (i + 1) j) (i + 1)).2.1 (S.at' (S.mkl (nl + 1) fun j => S.inF (fun j => (tl j, vl j, gl j, wl j, xl j)) (ta, tn, tc, ts, tp) (i + 1) j) (i + 1)).2.2.1 (S.at' (S.mkl (nl + 1) fun j => S.inF (fun j => (tl j, vl j, gl j, wl j, xl j)) (ta, tn, tc, ts, tp) (i + 1) j) (i + 1)).2.2.2.1 (S.at' (S.mkl (nl + 1) fun j => S.inF (fun j => (tl j, vl j, gl j, wl j, xl j)) (ta, tn, tc, ts, tp) (i + 1) j) (i + 1)).2.2.2.2 = S.cfE ((fun j => (tl j, vl j, gl j, wl j, xl j)) i) (ta, tn, tc, ts, tp) := by rw [a1, a2]; rfl
    have hP : S.posE (fun j => (tl j, vl j, gl j, wl j, xl j)) (ta, tn, tc, ts, tp) (i + 1) = if S.cfE ((fun j => (tl j, vl j, gl j, wl j, xl j)) i) (ta, tn, tc, ts, tp) > 0 then S.posE (fun j => (tl j, vl j, gl j, wl j, xl j)) (ta, tn, tc, ts, tp) i else i + 1 := rfl
    rw [hP]
    clear hP a1 a2
    generalize hL : (S.mkl (nl + 1) fun j => S.inF (fun j => (tl j, vl j, gl j, wl j, xl j)) (ta, tn, tc, ts, tp) (i + 1) j) = L at *
    simp only [hc]
    clear hc
    generalize S.cfE ((fun j => (tl j, vl j, gl j, wl j, xl j)) i) (ta, tn, tc, ts, tp) = z at *
    by_cases hz : z > 0
    · rw [if_pos hz]
      rw [hs _ ?_ ?_ ?_]
      · generalize (S.mkl (nl + 1) fun j => S.inF (fun j => (tl j, vl j, gl j, wl j, xl j)) (ta, tn, tc, ts, tp) i j) = L2 at *
        clear hs
        focus
          repeat' (first | with_reducible refine goes_if (fun h => ?_) (fun h => ?_) <;> (try simp only [SH] at h) | exact goes_none.mpr (by omega))
          all_goals first | (exfalso; omega) | exact ih
      · simp only [bqt, bqf (Nat.succ_ne_self i)]
      · simp only [bqt, bqf (Nat.succ_ne_self i).symm]
      · intro j j1 j2
        simp only [bqf j1, bqf j2]
    · rw [if_neg hz, hL]
      clear hs
      focus
        repeat' (first | with_reducible refine goes_if (fun h => ?_) (fun h => ?_) <;> (try simp only [SH] at h) | exact goes_none.mpr (by omega))
        all_goals first | (exfalso; omega) | exact goes_inr.mpr rfl
theorem s530 (nl ml : Nat) (tl vl gl wl xl : Nat → Int) (ta tn tc ts tp : Int) (hp : nl ≤ 100000) : Goes ((q530 nl ml tl vl gl wl xl ta tn tc ts tp)) ((p530 nl ml tl vl gl wl xl ta tn tc ts tp)) ((S.mkl (nl + 1) fun j => S.inF (fun j => (tl j, vl j, gl j, wl j, xl j)) (ta, tn, tc, ts, tp) (S.posE (fun j => (tl j, vl j, gl j, wl j, xl j)) (ta, tn, tc, ts, tp) nl) j)) := by
  have hm := s530' nl ml tl vl gl wl xl ta tn tc ts tp hp nl (Nat.le_refl _)
  have e0 : S.snoc (S.mkl nl fun j => (tl j, vl j, gl j, wl j, xl j)) (ta, tn, tc, ts, tp) = (S.mkl (nl + 1) fun j => S.inF (fun j => (tl j, vl j, gl j, wl j, xl j)) (ta, tn, tc, ts, tp) nl j) := by
    rw [mkl_succ, inF_eq]
    refine congrArg (fun x => S.snoc x (ta, tn, tc, ts, tp)) (mkl_inj.mpr ⟨rfl, fun j hj => ?_⟩)
    rw [inF_lt hj]
  have e1 : ((nl + 1 : Nat) : Int) - 1 = nl := by omega
  unfold p530
  rw [e0, e1]
  generalize (S.mkl (nl + 1) fun j => S.inF (fun j => (tl j, vl j, gl j, wl j, xl j)) (ta, tn, tc, ts, tp) nl j) = L0 at *
  generalize (S.mkl (nl + 1) fun j => S.inF (fun j => (tl j, vl j, gl j, wl j, xl j)) (ta, tn, tc, ts, tp) (S.posE (fun j => (tl j, vl j, gl j, wl j, xl j)) (ta, tn, tc, ts, tp) nl) j) = L at *
  repeat' (first | with_reducible refine goes_if (fun h => ?_) (fun h => ?_) <;> (try simp only [SH] at h) | exact goes_none.mpr (by omega))
  all_goals first | (exfalso; omega) | exact hm
theorem k530_ok  : k530.ok Try.prog := by
  intro x hx
  obtain ⟨⟨nl, ml, tl, vl, gl, wl, xl, _⟩, ⟨ta, tn, tc, ts, tp, _⟩, _⟩ := x
  obtain ⟨h1, h2⟩ := a530 nl ml tl vl gl wl xl ta tn tc ts tp (s530 nl ml tl vl gl wl xl ta tn tc ts tp (of_dec hx rfl))
  exact ⟨⟨400, (by decide : 1 + 1 + 1 ≤ 400), h1⟩, h2⟩
section
variable {F : Nat → Int × Int × Int × Int × Int} {e : Int × Int × Int × Int × Int}
theorem mkl_add  {F : Nat → Int × Int × Int × Int × Int} {p : Nat} : ∀ {k : Nat}, S.mkl (p + k) F = S.mkl p F ++ S.mkl k fun j => F (p + j)
  | 0 => by simp [S.mkl]
  | k + 1 => by
    rw [← Nat.add_assoc, mkl_succ, mkl_succ, mkl_add]
    simp [S.snoc]
theorem inX_split  {p : Nat} : ∀ {k : Nat}, (S.mkl (p + k + 1) fun j => S.inF F e p j) = S.mkl p F ++ e :: S.mkl k fun j => F (p + j)
  | 0 => by
    rw [Nat.add_zero, mkl_succ, inF_eq, mkl_congr (g := F) fun j hj => inF_lt hj]
    rfl
  | k + 1 => by
    rw [← Nat.add_assoc, mkl_succ, inX_split, inF_gt (by omega), mkl_succ (n := k)]
    simp [S.snoc]
theorem posE_gt  : ∀ {n : Nat} {j : Nat}, S.posE F e n ≤ j → j < n → S.cfE (F j) e > 0
  | 0, _, _, h => absurd h (Nat.not_lt_zero _)
  | n + 1, j, h1, h2 => by
    simp only [S.posE] at h1
    split at h1
    · rename_i h
      by_cases e1 : j = n
      · subst e1; exact h
      · exact posE_gt (n := n) h1 (by omega)
    · omega
theorem posE_at  : ∀ {n : Nat} {i : Nat}, S.posE F e n = i + 1 → S.cfE (F i) e ≤ 0
  | 0, _, h => by cases h
  | n + 1, i, h => by
    simp only [S.posE] at h
    split at h
    · exact posE_at (n := n) h
    · rename_i h1
      have : n = i := by omega
      subst this
      omega
theorem put_sort  {n : Nat} {l : List (Int × Int × Int × Int × Int)} (h : S.mkl n F = S.sortE l) : (S.mkl (n + 1) fun j => S.inF F e (S.posE F e n) j) = S.sortE (e :: l) := by
  have hle := posE_le (F := F) (e := e) (n := n)
  have hgt := fun j => posE_gt (F := F) (e := e) (n := n) (j := j)
  have hat := fun i => posE_at (F := F) (e := e) (n := n) (i := i)
  generalize S.posE F e n = p at *
  obtain ⟨k, rfl⟩ : ∃ k, n = p + k := ⟨n - p, by omega⟩
  rw [inX_split]
  rw [mkl_add] at h
  have hs := @sortE_asc l
  have hp := @sortE_perm l
  rw [← h] at hs hp
  rw [List.pairwise_append] at hs
  obtain ⟨s1, s2, s3⟩ := hs
  have ha : ∀ a ∈ S.mkl p F, S.cfE a e ≤ 0 := fun a ha => by
    obtain ⟨i, hi, rfl⟩ := List.mem_map.1 ha
    have hi := List.mem_range.1 hi
    obtain ⟨q, rfl⟩ : ∃ q, p = q + 1 := ⟨p - 1, by omega⟩
    have h1 := hat q rfl
    by_cases e1 : i = q
    · subst e1; exact h1
    · refine cfE_tr ?_ h1
      have := List.pairwise_iff_getElem.1 s1 i q (by rw [mkl_len]; omega) (by rw [mkl_len]; omega) (by omega)
      simpa [S.mkl] using this
  have hb : ∀ b ∈ S.mkl k (fun j => F (p + j)), S.cfE e b ≤ 0 := fun b hb => by
    obtain ⟨i, hi, rfl⟩ := List.mem_map.1 hb
    have hi := List.mem_range.1 hi
    have h1 := hgt (p + i) (by omega) (by omega)
    have := cfE_neg (x := F (p + i)) (y := e)
    omega
  refine sortE_uniq (List.perm_middle.trans (List.Perm.cons e hp)) ?_
  rw [List.pairwise_append, List.pairwise_cons]
  refine ⟨s1, ⟨hb, s2⟩, fun a h1 b h2 => ?_⟩
  rcases List.mem_cons.1 h2 with rfl | h2
  · exact ha a h1
  · exact s3 a h1 b h2
end
theorem sortE_congr  {l m : List (Int × Int × Int × Int × Int)} (h : l.Perm m) : S.sortE l = S.sortE m := sortE_uniq (sortE_perm.trans h) sortE_asc
theorem sortE_snoc  {l : List (Int × Int × Int × Int × Int)} {e : Int × Int × Int × Int × Int} : S.sortE (S.snoc l e) = S.sortE (e :: l) := sortE_congr List.perm_append_comm
theorem sortE_of  {l : List (Int × Int × Int × Int × Int)} (h : l.Pairwise (fun x y => S.cfE x y ≤ 0)) : S.sortE l = l := (sortE_uniq (List.Perm.refl l) h).symm
theorem sortE_nil  : S.sortE [] = [] := sortE_of List.Pairwise.nil
theorem sortE_at  {l : List (Int × Int × Int × Int × Int)} {n : Nat} (h : l.length = n) : (S.mkl n fun j => S.at' (S.sortE l) j) = S.sortE l := by
  rw [show n = (S.sortE l).length by rw [sortE_len, h]]
  exact mkl_at _
namespace S
def defN (a : Nat → Int) (b : Nat → ByteArray) (c d : Nat → Int) : Nat → Nat → Int
  | _, 0 => 0
  | i, k + 1 => if 1 ≤ a i ∧ a i ≤ 999 then (if isNam (b i) = true then (if (0 ≤ c i ∧ c i ≤ 1099511627776) ∧ 0 ≤ d i ∧ d i ≤ 99 then (if any (fun j => decide (a j = a i)) i = true then 5 else defN a b c d (i + 1) k) else 6) else 2) else 6
def defS (n : Nat) (a : Nat → Int) (b : Nat → ByteArray) (c d : Nat → Int) : Int := if n > 100 then 3 else defN a b c d 0 n
end S
inductive St541 where
  | h0 (x0 : Int)
abbrev Rt541  := Int
noncomputable def V541 (ad nd md : Nat) (td : NI) (vd : Nat → ByteArray) (gd wd : NI) (r : Rt541) : PV := PV.int .i64 r
noncomputable def N541 (ad nd md : Nat) (td : NI) (vd : Nat → ByteArray) (gd wd : NI) (r : Rt541) : List Blk := []
noncomputable def I541 (ad nd md : Nat) (td : NI) (vd : Nat → ByteArray) (gd wd : NI) : St541 → Hd
  | .h0 x0 => ⟨hd Try.f41 0, [PV.loose (PA.mk (0) (4) ad (0)) nd,
 PV.loose (PA.mk (0) (4) ad (0)) nd, PV.int .i64 (↑nd : Int),
 PV.int .i64 x0], [[], [(0, (false, .cols md [.int .i64 td, .str vd, .int .i64 gd, .int .i64 wd]))]], 1⟩
noncomputable def q541 (ad nd md : Nat) (td : NI) (vd : Nat → ByteArray) (gd wd : NI) : St541 → Option (St541 ⊕ Rt541) | .h0 x0 => bif (decide (x0 < (↑nd : Int))) then (bif (decide ((0 : Int) ≤ x0 ∧ x0 < (↑nd : Int))) then (bif (decide (Int.toNat x0 + ad < md)) then (bif (decide (td (Int.toNat x0 + ad) ≥ 1)) then (bif (decide (td (Int.toNat x0 + ad) ≤ 999)) then (bif (S.isNam (vd (Int.toNat x0 + ad))) then (bif (decide (gd (Int.toNat x0 + ad) ≥ 0)) then (bif (decide (gd (Int.toNat x0 + ad) ≤ 1099511627776)) then (bif (decide (wd (Int.toNat x0 + ad) ≥ 0)) then (bif (decide (wd (Int.toNat x0 + ad) ≤ 99)) then (bif (decide ((0 : Int) ≤ Option.getD Option.none (0 : Int) ∧ (0 : Int) ≤ x0 ∧ x0 ≤ (↑nd : Int))) then (bif (decide (0 + ad + Int.toNat x0 ≤ md ∧ Int.toNat x0 ≤ 1000000)) then (bif (S.any (fun j => decide (td (j + (0 + ad)) = td (Int.toNat x0 + ad))) (Int.toNat x0)) then (some (.inr ((5 : Int)))) else (bif (lim .i64 (x0 + 1)) then (some (.inl (.h0 (x0 + 1)))) else (none))) else (none)) else (none)) else (some (.inr ((6 : Int))))) else (some (.inr ((6 : Int))))) else (some (.inr ((6 : Int))))) else (some (.inr ((6 : Int))))) else (some (.inr ((2 : Int))))) else (some (.inr ((6 : Int))))) else (some (.inr ((6 : Int))))) else (none)) else (none)) else (some (.inr ((0 : Int))))
noncomputable def p541 (ad nd md : Nat) (td : NI) (vd : Nat → ByteArray) (gd wd : NI) : Option (St541 ⊕ Rt541) := bif (decide ((↑nd : Int) > 100)) then (some (.inr ((3 : Int)))) else (some (.inl (.h0 ((0 : Int)))))
def Te541 (test : TT) (Kst : KS) (Kret : KR) (ad nd md : Nat) (td : NI) (vd : Nat → ByteArray) (gd wd : NI) : Prop := test (decide ((↑nd : Int) > 100)) (Kret (PV.int .i64 (3 : Int)) ([[(0, false, Blk.cols md [Col.int .i64 td, Col.str vd, Col.int .i64 gd, Col.int .i64 wd])]]) (1)) (Kst (hd Try.f41 0) ([PV.loose (PA.mk (0) (4) ad (0)) nd, PV.loose (PA.mk (0) (4) ad (0)) nd, PV.int .i64 (↑nd : Int), PV.int .i64 (0 : Int)]) ([[(0, false, Blk.cols md [Col.int .i64 td, Col.str vd, Col.int .i64 gd, Col.int .i64 wd])]]) (1))
theorem te541 (test : TT) (Kst : KS) (Kret : KR) (ad nd md : Nat) (td : NI) (vd : Nat → ByteArray) (gd wd : NI) : run test Try.env true (xI2 test) true 400 ⟨41, [.cd (mkFn Try.f41).body], argT 0 [.loose ⟨0, 4, ad, 0⟩ nd], [[], [(0, (false, .cols md [.int .i64 td, .str vd, .int .i64 gd, .int .i64 wd]))]], 1⟩ (proj 1 [0, 8, 9, 10] Kst Kret) =
  Te541 test Kst Kret ad nd md td vd gd wd := by kernel_rfl
noncomputable abbrev u541_0_0 (md : Nat) (td : Nat → Int) (vd : Nat → ByteArray) (gd wd : Nat → Int) := [[(0, false, Blk.cols md [Col.int IntKind.i64 td, Col.str vd, Col.int IntKind.i64 gd, Col.int IntKind.i64 wd])]]
def T541_0 (test : TT) (Kst : KS) (Kret : KR) (ad nd md : Nat) (td : NI) (vd : Nat → ByteArray) (gd wd : NI) (x0 : Int) : Prop := test (decide (x0 < (↑nd : Int))) (test (decide ((0 : Int) ≤ x0 ∧ x0 < (↑nd : Int))) (test (decide (Int.toNat x0 + ad < md)) (test (decide (Int.toNat x0 + ad < md)) (test (decide (Int.toNat x0 + ad < md)) (test (decide (Int.toNat x0 + ad < md)) (test (decide (td (Int.toNat x0 + ad) ≥ 1)) (test (decide (td (Int.toNat x0 + ad) ≤ 999)) (test (true) (test (S.isNam (vd (Int.toNat x0 + ad))) (test (decide (gd (Int.toNat x0 + ad) ≥ 0)) (test (decide (gd (Int.toNat x0 + ad) ≤ 1099511627776)) (test (decide (wd (Int.toNat x0 + ad) ≥ 0)) (test (decide (wd (Int.toNat x0 + ad) ≤ 99)) (test (decide ((0 : Int) ≤ Option.getD Option.none (0 : Int) ∧ (0 : Int) ≤ x0 ∧ x0 ≤ (↑nd : Int))) (test (decide (0 + ad + Int.toNat x0 ≤ md ∧ Int.toNat x0 ≤ 1000000)) (test (S.any (fun j => decide (td (j + (0 + ad)) = td (Int.toNat x0 + ad))) (Int.toNat x0)) (Kret (PV.int .i64 (5 : Int)) (u541_0_0 md td vd gd wd) (4)) (test (lim .i64 (x0 + 1)) (Kst (hd Try.f41 0) ([PV.loose (PA.mk (0) (4) ad (0)) nd, PV.loose (PA.mk (0) (4) ad (0)) nd, PV.int .i64 (↑nd : Int), PV.int .i64 (x0 + 1)]) (u541_0_0 md td vd gd wd) (4)) (False))) (False)) (False)) (Kret (PV.int .i64 (6 : Int)) (u541_0_0 md td vd gd wd) (3))) (Kret (PV.int .i64 (6 : Int)) (u541_0_0 md td vd gd wd) (3))) (Kret (PV.int .i64 (6 : Int)) (u541_0_0 md td vd gd wd) (3))) (Kret (PV.int .i64 (6 : Int)) (u541_0_0 md td vd gd wd) (3))) (Kret (PV.int .i64 (2 : Int)) (u541_0_0 md td vd gd wd) (3))) (False)) (Kret (PV.int .i64 (6 : Int)) (u541_0_0 md td vd gd wd) (2))) (Kret (PV.int .i64 (6 : Int)) (u541_0_0 md td vd gd wd) (2))) (False)) (False)) (False)) (False)) (False)) (Kret (PV.int .i64 (0 : Int)) (u541_0_0 md td vd gd wd) (1))
theorem t541_0 (test : TT) (Kst : KS) (Kret : KR) (ad nd md : Nat) (td : NI) (vd : Nat → ByteArray) (gd wd : NI) (x0 : Int) : run test Try.env true (xI2 test) true 400 ⟨41, hd Try.f41 0, zipT [0, 8, 9, 10] [PV.loose (PA.mk (0) (4) ad (0)) nd,
 PV.loose (PA.mk (0) (4) ad (0)) nd, PV.int .i64 (↑nd : Int),
 PV.int .i64 x0], [[], [(0, (false, .cols md [.int .i64 td, .str vd, .int .i64 gd, .int .i64 wd]))]], 1⟩ (proj 1 [0, 8, 9, 10] Kst Kret) =
  T541_0 test Kst Kret ad nd md td vd gd wd x0 := by kernel_rfl
noncomputable abbrev J541 (ad nd md : Nat) (td : NI) (vd : Nat → ByteArray) (gd : NI) (wd : NI) : Rt541 → Heap := fun r => [newL (1 + 1) ((N541 ad nd md td vd gd wd) r) ++ [(0, (false, .cols md [.int .i64 td, .str vd, .int .i64 gd, .int .i64 wd]))]]
attribute [local irreducible] Int.subNatNat in
theorem be541 (ad nd md : Nat) (td : NI) (vd : Nat → ByteArray) (gd wd : NI) (Kst : KS) (Kret : KR) (x : St541 ⊕ Rt541) (hS : HS 1 400 ((I541 ad nd md td vd gd wd)) Kst x) (hR : HR 1 400 ((V541 ad nd md td vd gd wd)) (J541 ad nd md td vd gd wd) Kret x) (h : p541 ad nd md td vd gd wd = some x) : Te541 cond Kst Kret ad nd md td vd gd wd := by
  unfold Te541
  unfold p541 at h
  exact bif_split h (fun c0 h => ret_at hR _ h (fun n => n) rfl rfl rfl (rn_int rfl) rfl (entl_bor (use_lo rfl) rfl rfl entl_nil)) (fun c0 h => stop_at hS _ h (fun n => n) rfl rfl rfl ⟨(rn_loose (use_lo rfl) rfl rfl rfl), ⟨(rn_loose (use_lo rfl) rfl rfl rfl), ⟨(rn_int rfl), ⟨(rn_int rfl), trivial⟩⟩⟩⟩ rfl (entl_bor (use_lo rfl) rfl rfl entl_nil))
attribute [local irreducible] Int.subNatNat in
theorem b541_0 (ad nd md : Nat) (td : NI) (vd : Nat → ByteArray) (gd wd : NI) (Kst : KS) (Kret : KR) (x : St541 ⊕ Rt541) (hS : HS 1 400 ((I541 ad nd md td vd gd wd)) Kst x) (hR : HR 1 400 ((V541 ad nd md td vd gd wd)) (J541 ad nd md td vd gd wd) Kret x) (x0 : Int) (h : q541 ad nd md td vd gd wd (.h0 x0) = some x) : T541_0 cond Kst Kret ad nd md td vd gd wd x0 := by
  unfold T541_0
  rw [q541] at h
  refine bif_split h (fun c0 h => bif_split h (fun c1 h => bif_split h (fun c2 h => cond_yes c2 (cond_yes c2 (cond_yes c2 (bif_split h (fun c3 h => bif_split h (fun c4 h => cond_yes rfl (bif_split h (fun c5 h => bif_split h (fun c6 h => bif_split h (fun c7 h => bif_split h (fun c8 h => bif_split h (fun c9 h => bif_split h (fun c10 h => bif_split h (fun c11 h => bif_split h (fun c12 h => ?_) (fun c12 h => bif_split h (fun c13 h => stop_at hS _ h (fun n => n) rfl rfl rfl ⟨(rn_loose (use_lo rfl) rfl rfl rfl), ⟨(rn_loose (use_lo rfl) rfl rfl rfl), ⟨(rn_int rfl), ⟨(rn_int rfl), trivial⟩⟩⟩⟩ rfl (entl_bor (use_lo rfl) rfl rfl entl_nil)) (fun c13 h => ?_))) (fun c11 h => ?_)) (fun c10 h => ?_)) (fun c9 h => ?_)) (fun c8 h => ?_)) (fun c7 h => ?_)) (fun c6 h => ?_)) (fun c5 h => ?_))) (fun c4 h => ?_)) (fun c3 h => ?_))))) (fun c2 h => ?_)) (fun c1 h => ?_)) (fun c0 h => ?_)
  all_goals first
    | exact ret_at hR _ h (fun n => n) rfl rfl rfl (rn_int rfl) rfl (entl_bor (use_lo rfl) rfl rfl entl_nil)
    | exact no_some h
theorem a541 (ad nd md : Nat) (td : NI) (vd : Nat → ByteArray) (gd wd : NI) {r : Rt541} (h : Goes ((q541 ad nd md td vd gd wd)) ((p541 ad nd md td vd gd wd)) r) : CallR Try.prog 41 [.loose ⟨0, 4, ad, 0⟩ nd] [[(0, (false, .cols md [.int .i64 td, .str vd, .int .i64 gd, .int .i64 wd]))]] 1 ((V541 ad nd md td vd gd wd) r) ((J541 ad nd md td vd gd wd) r) 400 ∧ ∃ F, Try.prog.funcs[41]? = some F ∧ F.body.isSome = true ∧ (F.name == "runtime.NumGoroutine") = false := by
  refine dec_calls (sy := true) (f := 41) (lo := 1) (hi := 400) (H := [[(0, (false, .cols md [.int .i64 td, .str vd, .int .i64 gd, .int .i64 wd]))]]) (args := [.loose ⟨0, 4, ad, 0⟩ nd]) Try.envOk Try.mixed xI2_ok ((I541 ad nd md td vd gd wd)) ((V541 ad nd md td vd gd wd)) (J541 ad nd md td vd gd wd) (fn := mkFn Try.f41) (ts := [0, 8, 9, 10]) (n := 400) rfl (by decide) (by simp) (names_of rfl) ?_ ?_ ?_ h
  · intro s; cases s <;> exact ⟨hd_ok _ _, by simp [I541], names_of rfl, Nat.le_of_ble_eq_true rfl⟩
  · intro Kst Kret x hS hR h
    exact Holds.eq (te541 cond Kst Kret ad nd md td vd gd wd) (be541 ad nd md td vd gd wd Kst Kret x hS hR h)
  · intro Kst Kret x hS hR s h
    cases s with
    | h0 x0 => exact Holds.eq (t541_0 cond Kst Kret ad nd md td vd gd wd x0) (b541_0 ad nd md td vd gd wd Kst Kret x hS hR x0 h)
noncomputable abbrev w541 {α : Type} (g : Nat → Nat → Nat → (Nat → Int) → (Nat → ByteArray) → (Nat → Int) → (Nat → Int) → α) (x : (Nat × Nat × Nat × (Nat → Int) × (Nat → ByteArray) × (Nat → Int) × (Nat → Int) × Unit) × Unit) : α := g x.1.1 x.1.2.1 x.1.2.2.1 x.1.2.2.2.1 x.1.2.2.2.2.1 x.1.2.2.2.2.2.1 x.1.2.2.2.2.2.2.1
noncomputable def k541  : Con := ⟨41, [.one (.list [.int .i64, .str, .int .i64, .int .i64])], w541 (fun ad nd md td vd gd wd => decide (ad + nd ≤ md ∧ nd ≤ 1000000)), w541 (fun ad nd md td vd gd wd => (V541 ad nd md td vd gd wd) (S.defS nd (fun j => td (j + ad)) (fun j => vd (j + ad)) (fun j => gd (j + ad)) (fun j => wd (j + ad)))), w541 (fun ad nd md td vd gd wd => (N541 ad nd md td vd gd wd) (S.defS nd (fun j => td (j + ad)) (fun j => vd (j + ad)) (fun j => gd (j + ad)) (fun j => wd (j + ad)))), fun _ _ => .dead⟩
theorem s541' (ad nd md : Nat) (td : Nat → Int) (vd : Nat → ByteArray) (gd wd : Nat → Int) (hp : ad + nd ≤ md ∧ nd ≤ 1000000) (hn : nd ≤ 100) : ∀ k i : Nat, i + k = nd → Comes (q541 ad nd md td vd gd wd) (.h0 (i : Int)) (S.defN (fun j => td (j + ad)) (fun j => vd (j + ad)) (fun j => gd (j + ad)) (fun j => wd (j + ad)) i k) := by
  have hp' := hp
  obtain ⟨hp1, hp2⟩ := hp
  intro k
  induction k with
  | zero =>
    intro i hi
    apply Comes.of
    show Goes _ _ _
    (first | rw [q541] | unfold q541)
    repeat' (first | with_reducible refine goes_if (fun h => ?_) (fun h => ?_) <;> (try simp only [SH] at h) | exact goes_none.mpr (by omega))
    all_goals first | (exfalso; omega) | exact goes_inr.mpr rfl
  | succ k ih =>
    intro i hi
    have ih := ih (i + 1) (by omega)
    have e2 : ((i + 1 : Nat) : Int) = (i : Int) + 1 := by omega
    rw [e2] at ih
    have e : (S.defN (fun j => td (j + ad)) (fun j => vd (j + ad)) (fun j => gd (j + ad)) (fun j => wd (j + ad)) i (k + 1)) = if 1 ≤ td (i + ad) ∧ td (i + ad) ≤ 999 then (if S.isNam (vd (i + ad)) = true then (if (0 ≤ gd (i + ad) ∧ gd (i + ad) ≤ 1099511627776) ∧ 0 ≤ wd (i + ad) ∧ wd (i + ad) ≤ 99 then (if (S.any (fun j => decide (td (j + ad) = td (i + ad))) i) = true then 5 else (S.defN (fun j => td (j + ad)) (fun j => vd (j + ad)) (fun j => gd (j + ad)) (fun j => wd (j + ad)) (i + 1) k)) else 6) else 2) else 6 := rfl
    rw [e]
    clear e
    generalize (S.defN (fun j => td (j + ad)) (fun j => vd (j + ad)) (fun j => gd (j + ad)) (fun j => wd (j + ad)) (i + 1) k) = R at *
    apply Comes.of
    show Goes _ _ _
    rw [q541]
    simp only [Int.toNat_natCast, Nat.zero_add]
    generalize (S.any (fun j => decide (td (j + ad) = td (i + ad))) i) = an at *
    generalize S.isNam (vd (i + ad)) = nm at *
    repeat' (first | with_reducible refine goes_if (fun h => ?_) (fun h => ?_) <;> (try simp only [SH] at h) | exact goes_none.mpr (by omega))
    all_goals first
      | (exfalso; omega)
      | (rw [if_neg (by omega)]; exact goes_inr.mpr rfl)
      | (rw [if_pos (by omega), if_neg (by simp_all)]; exact goes_inr.mpr rfl)
      | (rw [if_pos (by omega), if_pos (by assumption), if_neg (by omega)]; exact goes_inr.mpr rfl)
      | (rw [if_pos (by omega), if_pos (by assumption), if_pos (by omega)]; (first | (rw [if_pos (by assumption)]; exact goes_inr.mpr rfl) | (rw [if_neg (by simp_all)]; exact ih)))
theorem s541 (ad nd md : Nat) (td : Nat → Int) (vd : Nat → ByteArray) (gd wd : Nat → Int) (hp : ad + nd ≤ md ∧ nd ≤ 1000000) : Goes ((q541 ad nd md td vd gd wd)) ((p541 ad nd md td vd gd wd)) (S.defS nd (fun j => td (j + ad)) (fun j => vd (j + ad)) (fun j => gd (j + ad)) (fun j => wd (j + ad))) := by
  unfold S.defS
  by_cases hn : nd > 100
  · rw [if_pos hn]
    unfold p541
    exact goes_ok (decide_eq_true (by omega)) (goes_inr.mpr rfl)
  · rw [if_neg hn]
    have hm := s541' ad nd md td vd gd wd hp (by omega) nd 0 (by omega)
    unfold p541
    exact goes_no (decide_eq_false (by omega)) hm
theorem k541_ok  : k541.ok Try.prog := by
  intro x hx
  obtain ⟨⟨ad, nd, md, td, vd, gd, wd, _⟩, _⟩ := x
  obtain ⟨h1, h2⟩ := a541 ad nd md td vd gd wd (s541 ad nd md td vd gd wd (of_dec hx rfl))
  exact ⟨⟨400, (by decide : 1 + 1 + 0 ≤ 400), h1⟩, h2⟩
inductive St543 where
  | h0 (x0 : Int)
  | h1 (x0 : Int) (x1 : Int) (x2 : Int) (x3 : Nat) (x4 : Nat) (x5 : Int)
abbrev Rt543  := Int
noncomputable def V543 (ad nd md : Nat) (td : NI) (vd : Nat → ByteArray) (gd wd : NI) (r : Rt543) : PV := PV.int .i64 r
noncomputable def N543 (ad nd md : Nat) (td : NI) (vd : Nat → ByteArray) (gd wd : NI) (r : Rt543) : List Blk := []
noncomputable def I543 (ad nd md : Nat) (td : NI) (vd : Nat → ByteArray) (gd wd : NI) : St543 → Hd
  | .h0 x0 => ⟨hd Try.f43 0, [PV.loose (PA.mk (0) (4) ad (0)) nd, PV.int .i64 x0, PV.unk,
 PV.unk, PV.unk, PV.unk, PV.unk, PV.unk, PV.unk, PV.unk], [[], [(0, (false, .cols md [.int .i64 td, .str vd, .int .i64 gd, .int .i64 wd]))]], 1⟩
  | .h1 x0 x1 x2 x3 x4 x5 => ⟨hd Try.f43 1, [PV.loose (PA.mk (0) (4) ad (0)) nd, PV.int .i64 x0,
 PV.int .i64 x1, PV.loose (PA.mk (0) (4) ad (0)) nd,
 PV.int .i64 x2, PV.ptr (PA.mk (0) (4) x3 (0)),
 PV.ptr (PA.mk (0) (4) x4 (3)), PV.int .i64 x5,
 PV.tf true, PV.tf false], [[], [(0, (false, .cols md [.int .i64 td, .str vd, .int .i64 gd, .int .i64 wd]))]], 1⟩
noncomputable def q543 (ad nd md : Nat) (td : NI) (vd : Nat → ByteArray) (gd wd : NI) : St543 → Option (St543 ⊕ Rt543) | .h0 x0 => bif (decide (x0 < (↑nd : Int))) then (bif (decide ((0 : Int) ≤ x0 ∧ x0 < (↑nd : Int))) then (bif (decide (Int.toNat x0 + ad < md)) then (bif (decide (td (Int.toNat x0 + ad) ≥ 1)) then (bif (decide (td (Int.toNat x0 + ad) ≤ 999)) then (bif (S.isNam (vd (Int.toNat x0 + ad))) then (bif (decide (gd (Int.toNat x0 + ad) ≥ 0)) then (bif (decide (gd (Int.toNat x0 + ad) ≤ 1099511627776)) then (bif (decide (wd (Int.toNat x0 + ad) ≥ 0)) then (bif (decide (wd (Int.toNat x0 + ad) ≤ 99)) then (some (.inl (.h1 (x0) ((0 : Int)) (x0) (Int.toNat x0 + ad) (Int.toNat x0 + ad) (wd (Int.toNat x0 + ad))))) else (some (.inr ((6 : Int))))) else (some (.inr ((6 : Int))))) else (some (.inr ((6 : Int))))) else (some (.inr ((6 : Int))))) else (some (.inr ((2 : Int))))) else (some (.inr ((6 : Int))))) else (some (.inr ((6 : Int))))) else (none)) else (none)) else (some (.inr ((0 : Int)))) | .h1 x0 x1 x2 x3 x4 x5 => bif (decide (x1 < x0)) then (bif (decide ((0 : Int) ≤ x1 ∧ x1 < (↑nd : Int))) then (bif (decide (Int.toNat x1 + ad < md)) then (bif (decide ((0 : Int) ≤ x0 ∧ x0 < (↑nd : Int))) then (bif (decide (Int.toNat x0 + ad < md)) then (bif (td (Int.toNat x1 + ad) == td (Int.toNat x0 + ad)) then (some (.inr ((5 : Int)))) else (bif (lim .i64 (x1 + 1)) then (some (.inl (.h1 (x0) (x1 + 1) (x2) (x3) (x4) (x5)))) else (none))) else (none)) else (none)) else (none)) else (none)) else (bif (lim .i64 (x0 + 1)) then (some (.inl (.h0 (x0 + 1)))) else (none))
noncomputable def p543 (ad nd md : Nat) (td : NI) (vd : Nat → ByteArray) (gd wd : NI) : Option (St543 ⊕ Rt543) := bif (decide ((↑nd : Int) > 100)) then (some (.inr ((3 : Int)))) else (some (.inl (.h0 ((0 : Int)))))
def Te543 (test : TT) (Kst : KS) (Kret : KR) (ad nd md : Nat) (td : NI) (vd : Nat → ByteArray) (gd wd : NI) : Prop := test (decide ((↑nd : Int) > 100)) (Kret (PV.int .i64 (3 : Int)) ([[(0, false, Blk.cols md [Col.int .i64 td, Col.str vd, Col.int .i64 gd, Col.int .i64 wd])]]) (1)) (Kst (hd Try.f43 0) ([PV.loose (PA.mk (0) (4) ad (0)) nd, PV.int .i64 (0 : Int), PV.unk, PV.unk, PV.unk, PV.unk, PV.unk, PV.unk, PV.unk, PV.unk]) ([[(0, false, Blk.cols md [Col.int .i64 td, Col.str vd, Col.int .i64 gd, Col.int .i64 wd])]]) (1))
theorem te543 (test : TT) (Kst : KS) (Kret : KR) (ad nd md : Nat) (td : NI) (vd : Nat → ByteArray) (gd wd : NI) : run test Try.env true (xI2 test) true 400 ⟨43, [.cd (mkFn Try.f43).body], argT 0 [.loose ⟨0, 4, ad, 0⟩ nd], [[], [(0, (false, .cols md [.int .i64 td, .str vd, .int .i64 gd, .int .i64 wd]))]], 1⟩ (proj 1 [0, 3, 4, 36, 37, 38, 39, 40, 41, 42] Kst Kret) =
  Te543 test Kst Kret ad nd md td vd gd wd := by kernel_rfl
noncomputable abbrev u543_0_0 (md : Nat) (td : Nat → Int) (vd : Nat → ByteArray) (gd wd : Nat → Int) := [[(0, false, Blk.cols md [Col.int IntKind.i64 td, Col.str vd, Col.int IntKind.i64 gd, Col.int IntKind.i64 wd])]]
def T543_0 (test : TT) (Kst : KS) (Kret : KR) (ad nd md : Nat) (td : NI) (vd : Nat → ByteArray) (gd wd : NI) (x0 : Int) : Prop := test (decide (x0 < (↑nd : Int))) (test (decide ((0 : Int) ≤ x0 ∧ x0 < (↑nd : Int))) (test (decide (Int.toNat x0 + ad < md)) (test (decide (td (Int.toNat x0 + ad) ≥ 1)) (test (decide (td (Int.toNat x0 + ad) ≤ 999)) (test (decide ((0 : Int) ≤ x0 ∧ x0 < (↑nd : Int))) (test (decide (Int.toNat x0 + ad < md)) (test (true) (test (S.isNam (vd (Int.toNat x0 + ad))) (test (decide ((0 : Int) ≤ x0 ∧ x0 < (↑nd : Int))) (test (decide (Int.toNat x0 + ad < md)) (test (decide (gd (Int.toNat x0 + ad) ≥ 0)) (test (decide (gd (Int.toNat x0 + ad) ≤ 1099511627776)) (test (decide ((0 : Int) ≤ x0 ∧ x0 < (↑nd : Int))) (test (decide (Int.toNat x0 + ad < md)) (test (decide (wd (Int.toNat x0 + ad) ≥ 0)) (test (decide (wd (Int.toNat x0 + ad) ≤ 99)) (Kst (hd Try.f43 1) ([PV.loose (PA.mk (0) (4) ad (0)) nd, PV.int .i64 x0, PV.int .i64 (0 : Int), PV.loose (PA.mk (0) (4) ad (0)) nd, PV.int .i64 x0, PV.ptr (PA.mk (0) (4) (Int.toNat x0 + ad) (0)), PV.ptr (PA.mk (0) (4) (Int.toNat x0 + ad) (3)), PV.int .i64 (wd (Int.toNat x0 + ad)), PV.tf true, PV.tf false]) (u543_0_0 md td vd gd wd) (2)) (Kret (PV.int .i64 (6 : Int)) (u543_0_0 md td vd gd wd) (2))) (Kret (PV.int .i64 (6 : Int)) (u543_0_0 md td vd gd wd) (2))) (False)) (False)) (Kret (PV.int .i64 (6 : Int)) (u543_0_0 md td vd gd wd) (2))) (Kret (PV.int .i64 (6 : Int)) (u543_0_0 md td vd gd wd) (2))) (False)) (False)) (Kret (PV.int .i64 (2 : Int)) (u543_0_0 md td vd gd wd) (2))) (False)) (False)) (False)) (Kret (PV.int .i64 (6 : Int)) (u543_0_0 md td vd gd wd) (1))) (Kret (PV.int .i64 (6 : Int)) (u543_0_0 md td vd gd wd) (1))) (False)) (False)) (Kret (PV.int .i64 (0 : Int)) (u543_0_0 md td vd gd wd) (1))
theorem t543_0 (test : TT) (Kst : KS) (Kret : KR) (ad nd md : Nat) (td : NI) (vd : Nat → ByteArray) (gd wd : NI) (x0 : Int) : run test Try.env true (xI2 test) true 400 ⟨43, hd Try.f43 0, zipT [0, 3, 4, 36, 37, 38, 39, 40, 41, 42] [PV.loose (PA.mk (0) (4) ad (0)) nd, PV.int .i64 x0, PV.unk,
 PV.unk, PV.unk, PV.unk, PV.unk, PV.unk, PV.unk, PV.unk], [[], [(0, (false, .cols md [.int .i64 td, .str vd, .int .i64 gd, .int .i64 wd]))]], 1⟩ (proj 1 [0, 3, 4, 36, 37, 38, 39, 40, 41, 42] Kst Kret) =
  T543_0 test Kst Kret ad nd md td vd gd wd x0 := by kernel_rfl
def T543_1 (test : TT) (Kst : KS) (Kret : KR) (ad nd md : Nat) (td : NI) (vd : Nat → ByteArray) (gd wd : NI) (x0 x1 x2 : Int) (x3 x4 : Nat) (x5 : Int) : Prop := test (decide (x1 < x0)) (test (decide ((0 : Int) ≤ x1 ∧ x1 < (↑nd : Int))) (test (decide (Int.toNat x1 + ad < md)) (test (decide ((0 : Int) ≤ x0 ∧ x0 < (↑nd : Int))) (test (decide (Int.toNat x0 + ad < md)) (test (td (Int.toNat x1 + ad) == td (Int.toNat x0 + ad)) (Kret (PV.int .i64 (5 : Int)) ([[(0, false, Blk.cols md [Col.int .i64 td, Col.str vd, Col.int .i64 gd, Col.int .i64 wd])]]) (1)) (test (lim .i64 (x1 + 1)) (Kst (hd Try.f43 1) ([PV.loose (PA.mk (0) (4) ad (0)) nd, PV.int .i64 x0, PV.int .i64 (x1 + 1), PV.loose (PA.mk (0) (4) ad (0)) nd, PV.int .i64 x2, PV.ptr (PA.mk (0) (4) x3 (0)), PV.ptr (PA.mk (0) (4) x4 (3)), PV.int .i64 x5, PV.tf true, PV.tf false]) ([[(0, false, Blk.cols md [Col.int .i64 td, Col.str vd, Col.int .i64 gd, Col.int .i64 wd])]]) (1)) (False))) (False)) (False)) (False)) (False)) (test (lim .i64 (x0 + 1)) (Kst (hd Try.f43 0) ([PV.loose (PA.mk (0) (4) ad (0)) nd, PV.int .i64 (x0 + 1), PV.int .i64 x1, PV.loose (PA.mk (0) (4) ad (0)) nd, PV.int .i64 x2, PV.ptr (PA.mk (0) (4) x3 (0)), PV.ptr (PA.mk (0) (4) x4 (3)), PV.int .i64 x5, PV.tf true, PV.tf false]) ([[(0, false, Blk.cols md [Col.int .i64 td, Col.str vd, Col.int .i64 gd, Col.int .i64 wd])]]) (1)) (False))
theorem t543_1 (test : TT) (Kst : KS) (Kret : KR) (ad nd md : Nat) (td : NI) (vd : Nat → ByteArray) (gd wd : NI) (x0 x1 x2 : Int) (x3 x4 : Nat) (x5 : Int) : run test Try.env true (xI2 test) true 400 ⟨43, hd Try.f43 1, zipT [0, 3, 4, 36, 37, 38, 39, 40, 41, 42] [PV.loose (PA.mk (0) (4) ad (0)) nd, PV.int .i64 x0,
 PV.int .i64 x1, PV.loose (PA.mk (0) (4) ad (0)) nd,
 PV.int .i64 x2, PV.ptr (PA.mk (0) (4) x3 (0)),
 PV.ptr (PA.mk (0) (4) x4 (3)), PV.int .i64 x5,
 PV.tf true, PV.tf false], [[], [(0, (false, .cols md [.int .i64 td, .str vd, .int .i64 gd, .int .i64 wd]))]], 1⟩ (proj 1 [0, 3, 4, 36, 37, 38, 39, 40, 41, 42] Kst Kret) =
  T543_1 test Kst Kret ad nd md td vd gd wd x0 x1 x2 x3 x4 x5 := by kernel_rfl
noncomputable abbrev J543 (ad nd md : Nat) (td : NI) (vd : Nat → ByteArray) (gd : NI) (wd : NI) : Rt543 → Heap := fun r => [newL (1 + 1) ((N543 ad nd md td vd gd wd) r) ++ [(0, (false, .cols md [.int .i64 td, .str vd, .int .i64 gd, .int .i64 wd]))]]
attribute [local irreducible] Int.subNatNat in
theorem be543 (ad nd md : Nat) (td : NI) (vd : Nat → ByteArray) (gd wd : NI) (Kst : KS) (Kret : KR) (x : St543 ⊕ Rt543) (hS : HS 1 400 ((I543 ad nd md td vd gd wd)) Kst x) (hR : HR 1 400 ((V543 ad nd md td vd gd wd)) (J543 ad nd md td vd gd wd) Kret x) (h : p543 ad nd md td vd gd wd = some x) : Te543 cond Kst Kret ad nd md td vd gd wd := by
  unfold Te543
  unfold p543 at h
  exact bif_split h (fun c0 h => ret_at hR _ h (fun n => n) rfl rfl rfl (rn_int rfl) rfl (entl_bor (use_lo rfl) rfl rfl entl_nil)) (fun c0 h => stop_at hS _ h (fun n => n) rfl rfl rfl ⟨(rn_loose (use_lo rfl) rfl rfl rfl), ⟨(rn_int rfl), ⟨(rn_unk _), ⟨(rn_unk _), ⟨(rn_unk _), ⟨(rn_unk _), ⟨(rn_unk _), ⟨(rn_unk _), ⟨(rn_unk _), ⟨(rn_unk _), trivial⟩⟩⟩⟩⟩⟩⟩⟩⟩⟩ rfl (entl_bor (use_lo rfl) rfl rfl entl_nil))
attribute [local irreducible] Int.subNatNat in
theorem b543_0 (ad nd md : Nat) (td : NI) (vd : Nat → ByteArray) (gd wd : NI) (Kst : KS) (Kret : KR) (x : St543 ⊕ Rt543) (hS : HS 1 400 ((I543 ad nd md td vd gd wd)) Kst x) (hR : HR 1 400 ((V543 ad nd md td vd gd wd)) (J543 ad nd md td vd gd wd) Kret x) (x0 : Int) (h : q543 ad nd md td vd gd wd (.h0 x0) = some x) : T543_0 cond Kst Kret ad nd md td vd gd wd x0 := by
  unfold T543_0
  rw [q543] at h
  refine bif_split h (fun c0 h => bif_split h (fun c1 h => bif_split h (fun c2 h => bif_split h (fun c3 h => bif_split h (fun c4 h => cond_yes c1 (cond_yes c2 (cond_yes rfl (bif_split h (fun c5 h => cond_yes c1 (cond_yes c2 (bif_split h (fun c6 h => bif_split h (fun c7 h => cond_yes c1 (cond_yes c2 (bif_split h (fun c8 h => bif_split h (fun c9 h => stop_at hS _ h (fun n => n) rfl rfl rfl ⟨(rn_loose (use_lo rfl) rfl rfl rfl), ⟨(rn_int rfl), ⟨(rn_int rfl), ⟨(rn_loose (use_lo rfl) rfl rfl rfl), ⟨(rn_int rfl), ⟨(rn_ptr (use_lo rfl) rfl rfl), ⟨(rn_ptr (use_lo rfl) rfl rfl), ⟨(rn_int rfl), ⟨(rn_tf rfl), ⟨(rn_tf rfl), trivial⟩⟩⟩⟩⟩⟩⟩⟩⟩⟩ rfl (entl_bor (use_lo rfl) rfl rfl entl_nil)) (fun c9 h => ?_)) (fun c8 h => ?_)))) (fun c7 h => ?_)) (fun c6 h => ?_)))) (fun c5 h => ?_))))) (fun c4 h => ?_)) (fun c3 h => ?_)) (fun c2 h => ?_)) (fun c1 h => ?_)) (fun c0 h => ?_)
  all_goals first
    | exact ret_at hR _ h (fun n => n) rfl rfl rfl (rn_int rfl) rfl (entl_bor (use_lo rfl) rfl rfl entl_nil)
    | exact no_some h
attribute [local irreducible] Int.subNatNat in
theorem b543_1 (ad nd md : Nat) (td : NI) (vd : Nat → ByteArray) (gd wd : NI) (Kst : KS) (Kret : KR) (x : St543 ⊕ Rt543) (hS : HS 1 400 ((I543 ad nd md td vd gd wd)) Kst x) (hR : HR 1 400 ((V543 ad nd md td vd gd wd)) (J543 ad nd md td vd gd wd) Kret x) (x0 x1 x2 : Int) (x3 x4 : Nat) (x5 : Int) (h : q543 ad nd md td vd gd wd (.h1 x0 x1 x2 x3 x4 x5) = some x) : T543_1 cond Kst Kret ad nd md td vd gd wd x0 x1 x2 x3 x4 x5 := by
  unfold T543_1
  rw [q543] at h
  exact bif_split h (fun c0 h => bif_split h (fun c1 h => bif_split h (fun c2 h => bif_split h (fun c3 h => bif_split h (fun c4 h => bif_split h (fun c5 h => ret_at hR _ h (fun n => n) rfl rfl rfl (rn_int rfl) rfl (entl_bor (use_lo rfl) rfl rfl entl_nil)) (fun c5 h => bif_split h (fun c6 h => stop_at hS _ h (fun n => n) rfl rfl rfl ⟨(rn_loose (use_lo rfl) rfl rfl rfl), ⟨(rn_int rfl), ⟨(rn_int rfl), ⟨(rn_loose (use_lo rfl) rfl rfl rfl), ⟨(rn_int rfl), ⟨(rn_ptr (use_lo rfl) rfl rfl), ⟨(rn_ptr (use_lo rfl) rfl rfl), ⟨(rn_int rfl), ⟨(rn_tf rfl), ⟨(rn_tf rfl), trivial⟩⟩⟩⟩⟩⟩⟩⟩⟩⟩ rfl (entl_bor (use_lo rfl) rfl rfl entl_nil)) (fun c6 h => no_some h))) (fun c4 h => no_some h)) (fun c3 h => no_some h)) (fun c2 h => no_some h)) (fun c1 h => no_some h)) (fun c0 h => bif_split h (fun c1 h => stop_at hS _ h (fun n => n) rfl rfl rfl ⟨(rn_loose (use_lo rfl) rfl rfl rfl), ⟨(rn_int rfl), ⟨(rn_unk _), ⟨(rn_unk _), ⟨(rn_unk _), ⟨(rn_unk _), ⟨(rn_unk _), ⟨(rn_unk _), ⟨(rn_unk _), ⟨(rn_unk _), trivial⟩⟩⟩⟩⟩⟩⟩⟩⟩⟩ rfl (entl_bor (use_lo rfl) rfl rfl entl_nil)) (fun c1 h => no_some h))
theorem a543 (ad nd md : Nat) (td : NI) (vd : Nat → ByteArray) (gd wd : NI) {r : Rt543} (h : Goes ((q543 ad nd md td vd gd wd)) ((p543 ad nd md td vd gd wd)) r) : CallR Try.prog 43 [.loose ⟨0, 4, ad, 0⟩ nd] [[(0, (false, .cols md [.int .i64 td, .str vd, .int .i64 gd, .int .i64 wd]))]] 1 ((V543 ad nd md td vd gd wd) r) ((J543 ad nd md td vd gd wd) r) 400 ∧ ∃ F, Try.prog.funcs[43]? = some F ∧ F.body.isSome = true ∧ (F.name == "runtime.NumGoroutine") = false := by
  refine dec_calls (sy := true) (f := 43) (lo := 1) (hi := 400) (H := [[(0, (false, .cols md [.int .i64 td, .str vd, .int .i64 gd, .int .i64 wd]))]]) (args := [.loose ⟨0, 4, ad, 0⟩ nd]) Try.envOk Try.mixed xI2_ok ((I543 ad nd md td vd gd wd)) ((V543 ad nd md td vd gd wd)) (J543 ad nd md td vd gd wd) (fn := mkFn Try.f43) (ts := [0, 3, 4, 36, 37, 38, 39, 40, 41, 42]) (n := 400) rfl (by decide) (by simp) (names_of rfl) ?_ ?_ ?_ h
  · intro s; cases s <;> exact ⟨hd_ok _ _, by simp [I543], names_of rfl, Nat.le_of_ble_eq_true rfl⟩
  · intro Kst Kret x hS hR h
    exact Holds.eq (te543 cond Kst Kret ad nd md td vd gd wd) (be543 ad nd md td vd gd wd Kst Kret x hS hR h)
  · intro Kst Kret x hS hR s h
    cases s with
    | h0 x0 => exact Holds.eq (t543_0 cond Kst Kret ad nd md td vd gd wd x0) (b543_0 ad nd md td vd gd wd Kst Kret x hS hR x0 h)
    | h1 x0 x1 x2 x3 x4 x5 => exact Holds.eq (t543_1 cond Kst Kret ad nd md td vd gd wd x0 x1 x2 x3 x4 x5) (b543_1 ad nd md td vd gd wd Kst Kret x hS hR x0 x1 x2 x3 x4 x5 h)
noncomputable abbrev w543 {α : Type} (g : Nat → Nat → Nat → (Nat → Int) → (Nat → ByteArray) → (Nat → Int) → (Nat → Int) → α) (x : (Nat × Nat × Nat × (Nat → Int) × (Nat → ByteArray) × (Nat → Int) × (Nat → Int) × Unit) × Unit) : α := g x.1.1 x.1.2.1 x.1.2.2.1 x.1.2.2.2.1 x.1.2.2.2.2.1 x.1.2.2.2.2.2.1 x.1.2.2.2.2.2.2.1
noncomputable def k543  : Con := ⟨43, [.one (.list [.int .i64, .str, .int .i64, .int .i64])], w543 (fun ad nd md td vd gd wd => decide (ad + nd ≤ md ∧ nd ≤ 1000000)), w543 (fun ad nd md td vd gd wd => (V543 ad nd md td vd gd wd) (S.defS nd (fun j => td (j + ad)) (fun j => vd (j + ad)) (fun j => gd (j + ad)) (fun j => wd (j + ad)))), w543 (fun ad nd md td vd gd wd => (N543 ad nd md td vd gd wd) (S.defS nd (fun j => td (j + ad)) (fun j => vd (j + ad)) (fun j => gd (j + ad)) (fun j => wd (j + ad)))), fun _ _ => .dead⟩
theorem s543i (ad nd md : Nat) (td : Nat → Int) (vd : Nat → ByteArray) (gd wd : Nat → Int) (hp : ad + nd ≤ md ∧ nd ≤ 1000000) (i : Nat) (hi : i < nd) (hn : nd ≤ 100) (R : Int) (hR : Comes (q543 ad nd md td vd gd wd) (.h0 ((i : Int) + 1)) R) : ∀ k l : Nat, l + k = i → (∀ j, j < l → td (j + ad) ≠ td (i + ad)) → Comes (q543 ad nd md td vd gd wd) (.h1 (i : Int) (l : Int) (i : Int) (i + ad) (i + ad) (wd (i + ad))) (if (S.any (fun j => decide (td (j + ad) = td (i + ad))) i) = true then 5 else R) := by
  obtain ⟨hp1, hp2⟩ := hp
  intro k
  induction k with
  | zero =>
    intro l hl hj
    obtain rfl : l = i := by omega
    rw [if_neg (fun h => by
      obtain ⟨j, h1, h2⟩ := any_iff.1 h
      exact hj j h1 (of_decide_eq_true h2))]
    apply Comes.of
    show Goes _ _ _
    (first | rw [q543] | unfold q543)
    repeat' (first | with_reducible refine goes_if (fun h => ?_) (fun h => ?_) <;> (try simp only [SH] at h) | exact goes_none.mpr (by omega))
    all_goals first | (exfalso; omega) | exact hR
  | succ k ih =>
    intro l hl hj
    by_cases h0 : td (l + ad) = td (i + ad)
    · rw [if_pos (any_iff.2 ⟨l, by omega, decide_eq_true h0⟩)]
      apply Comes.of
      show Goes _ _ _
      rw [q543]
      simp only [Int.toNat_natCast, h0, beq_self_eq_true]
      repeat' (first | with_reducible refine goes_if (fun h => ?_) (fun h => ?_) <;> (try simp only [SH] at h) | exact goes_none.mpr (by omega))
      all_goals first | (exfalso; omega) | exact goes_inr.mpr rfl
    · have ih := ih (l + 1) (by omega) (fun j h => by
        by_cases e : j = l
        · subst e; exact h0
        · exact hj j (by omega))
      have e2 : ((l + 1 : Nat) : Int) = (l : Int) + 1 := by omega
      rw [e2] at ih
      generalize (if (S.any (fun j => decide (td (j + ad) = td (i + ad))) i) = true then 5 else R) = R2 at *
      apply Comes.of
      show Goes _ _ _
      (first | rw [q543] | unfold q543)
      repeat' (first | with_reducible refine goes_if (fun h => ?_) (fun h => ?_) <;> (try simp only [SH] at h) | exact goes_none.mpr (by omega))
      all_goals first | (exfalso; omega) | exact ih
theorem s543' (ad nd md : Nat) (td : Nat → Int) (vd : Nat → ByteArray) (gd wd : Nat → Int) (hp : ad + nd ≤ md ∧ nd ≤ 1000000) (hn : nd ≤ 100) : ∀ k i : Nat, i + k = nd → Comes (q543 ad nd md td vd gd wd) (.h0 (i : Int)) (S.defN (fun j => td (j + ad)) (fun j => vd (j + ad)) (fun j => gd (j + ad)) (fun j => wd (j + ad)) i k) := by
  have hp' := hp
  obtain ⟨hp1, hp2⟩ := hp
  intro k
  induction k with
  | zero =>
    intro i hi
    apply Comes.of
    show Goes _ _ _
    (first | rw [q543] | unfold q543)
    repeat' (first | with_reducible refine goes_if (fun h => ?_) (fun h => ?_) <;> (try simp only [SH] at h) | exact goes_none.mpr (by omega))
    all_goals first | (exfalso; omega) | exact goes_inr.mpr rfl
  | succ k ih =>
    intro i hi
    have ih := ih (i + 1) (by omega)
    have e2 : ((i + 1 : Nat) : Int) = (i : Int) + 1 := by omega
    rw [e2] at ih
    have hI := s543i ad nd md td vd gd wd hp' i (by omega) hn (S.defN (fun j => td (j + ad)) (fun j => vd (j + ad)) (fun j => gd (j + ad)) (fun j => wd (j + ad)) (i + 1) k) ih i 0 (by omega) (fun j h => by omega)
    have e : (S.defN (fun j => td (j + ad)) (fun j => vd (j + ad)) (fun j => gd (j + ad)) (fun j => wd (j + ad)) i (k + 1)) = if 1 ≤ td (i + ad) ∧ td (i + ad) ≤ 999 then (if S.isNam (vd (i + ad)) = true then (if (0 ≤ gd (i + ad) ∧ gd (i + ad) ≤ 1099511627776) ∧ 0 ≤ wd (i + ad) ∧ wd (i + ad) ≤ 99 then (if (S.any (fun j => decide (td (j + ad) = td (i + ad))) i) = true then 5 else (S.defN (fun j => td (j + ad)) (fun j => vd (j + ad)) (fun j => gd (j + ad)) (fun j => wd (j + ad)) (i + 1) k)) else 6) else 2) else 6 := rfl
    rw [e]
    clear e
    generalize (S.defN (fun j => td (j + ad)) (fun j => vd (j + ad)) (fun j => gd (j + ad)) (fun j => wd (j + ad)) (i + 1) k) = R at *
    apply Comes.of
    show Goes _ _ _
    rw [q543]
    simp only [Int.toNat_natCast, Nat.zero_add]
    generalize (S.any (fun j => decide (td (j + ad) = td (i + ad))) i) = an at *
    generalize S.isNam (vd (i + ad)) = nm at *
    repeat' (first | with_reducible refine goes_if (fun h => ?_) (fun h => ?_) <;> (try simp only [SH] at h) | exact goes_none.mpr (by omega))
    all_goals first
      | (exfalso; omega)
      | (rw [if_neg (by omega)]; exact goes_inr.mpr rfl)
      | (rw [if_pos (by omega), if_neg (by simp_all)]; exact goes_inr.mpr rfl)
      | (rw [if_pos (by omega), if_pos (by assumption), if_neg (by omega)]; exact goes_inr.mpr rfl)
      | (rw [if_pos (by omega), if_pos (by assumption), if_pos (by omega)]; exact hI)
theorem s543 (ad nd md : Nat) (td : Nat → Int) (vd : Nat → ByteArray) (gd wd : Nat → Int) (hp : ad + nd ≤ md ∧ nd ≤ 1000000) : Goes ((q543 ad nd md td vd gd wd)) ((p543 ad nd md td vd gd wd)) (S.defS nd (fun j => td (j + ad)) (fun j => vd (j + ad)) (fun j => gd (j + ad)) (fun j => wd (j + ad))) := by
  unfold S.defS
  by_cases hn : nd > 100
  · rw [if_pos hn]
    unfold p543
    exact goes_ok (decide_eq_true (by omega)) (goes_inr.mpr rfl)
  · rw [if_neg hn]
    have hm := s543' ad nd md td vd gd wd hp (by omega) nd 0 (by omega)
    unfold p543
    exact goes_no (decide_eq_false (by omega)) hm
theorem k543_ok  : k543.ok Try.prog := by
  intro x hx
  obtain ⟨⟨ad, nd, md, td, vd, gd, wd, _⟩, _⟩ := x
  obtain ⟨h1, h2⟩ := a543 ad nd md td vd gd wd (s543 ad nd md td vd gd wd (of_dec hx rfl))
  exact ⟨⟨400, (by decide : 1 + 1 + 0 ≤ 400), h1⟩, h2⟩
noncomputable def xT (test : Bool → Prop → Prop → Prop) : Ext := consX test [k560, k562, k520, k620, k541, k543, k526, k530, k21, k12]
theorem xT_ok  : ExtOk Try.prog (xT cond) := consX_ok ⟨k560_ok, k562_ok, k520_ok, k620_ok, k541_ok, k543_ok, k526_ok, k530_ok, k21_ok, k12_ok, trivial⟩
namespace S
def evT (a c d : Nat → Int) (cy st : Int) (j : Nat) : Int × Int × Int × Int × Int := (st + c j, a j, cy, d j, 0)
noncomputable def telS (n : Nat) (a : Nat → Int) (b : Nat → ByteArray) (c d : Nat → Int) (cy st : Int) : Int × List (Int × Int × Int × Int × Int) :=
  if defS n a b c d = 0 then (if (0 ≤ cy ∧ cy ≤ 1048576) ∧ 0 ≤ st ∧ st ≤ 1099511627776 then (if all (fun j => decide (st + c j ≤ 1099511627776)) n = true then (0, sortE (mkl n fun j => evT a c d cy st j)) else (6, [])) else (6, [])) else (defS n a b c d, [])
end S
theorem defN_ok  {a : Nat → Int} {b : Nat → ByteArray} {c d : Nat → Int} : ∀ {k i : Nat}, S.defN a b c d i k = 0 → ∀ j, i ≤ j → j < i + k → 0 ≤ c j ∧ c j ≤ 1099511627776
  | 0, i, _, j, h1, h2 => by omega
  | k + 1, i, h, j, h1, h2 => by
    simp only [S.defN] at h
    split at h
    · split at h
      · split at h
        · rename_i h3
          split at h
          · cases h
          · by_cases e : j = i
            · subst e; exact h3.1
            · exact defN_ok (k := k) h j (by omega) (by omega)
        · cases h
      · cases h
    · cases h
theorem defS_ok  {n : Nat} {a : Nat → Int} {b : Nat → ByteArray} {c d : Nat → Int} (h : S.defS n a b c d = 0) : n ≤ 100 ∧ ∀ j, j < n → 0 ≤ c j ∧ c j ≤ 1099511627776 := by
  unfold S.defS at h
  split at h
  · cases h
  · exact ⟨by omega, fun j hj => defN_ok h j (Nat.zero_le _) (by omega)⟩
theorem srtX  {L : List (Int × Int × Int × Int × Int)} : (S.mkl L.length fun j => ((S.at' (S.mkl L.length fun j => S.at' (S.sortE (S.mkl L.length fun j => ((S.at' L j).1, (S.at' L j).2.1, (S.at' L j).2.2.1, (S.at' L j).2.2.2.1, (S.at' L j).2.2.2.2))) j) j).1, (S.at' (S.mkl L.length fun j => S.at' (S.sortE (S.mkl L.length fun j => ((S.at' L j).1, (S.at' L j).2.1, (S.at' L j).2.2.1, (S.at' L j).2.2.2.1, (S.at' L j).2.2.2.2))) j) j).2.1, (S.at' (S.mkl L.length fun j => S.at' (S.sortE (S.mkl L.length fun j => ((S.at' L j).1, (S.at' L j).2.1, (S.at' L j).2.2.1, (S.at' L j).2.2.2.1, (S.at' L j).2.2.2.2))) j) j).2.2.1, (S.at' (S.mkl L.length fun j => S.at' (S.sortE (S.mkl L.length fun j => ((S.at' L j).1, (S.at' L j).2.1, (S.at' L j).2.2.1, (S.at' L j).2.2.2.1, (S.at' L j).2.2.2.2))) j) j).2.2.2.1, (S.at' (S.mkl L.length fun j => S.at' (S.sortE (S.mkl L.length fun j => ((S.at' L j).1, (S.at' L j).2.1, (S.at' L j).2.2.1, (S.at' L j).2.2.2.1, (S.at' L j).2.2.2.2))) j) j).2.2.2.2)) = S.sortE L := by
  rw [mkl5_at, sortE_at rfl]
  have := mkl5_at (S.sortE L)
  rw [sortE_len] at this
  exact this
inductive St522 where
  | h0 (x0 : Int) (x1 : List (Int × Int × Int × Int × Int))
abbrev Rt522  := Int × List (Int × Int × Int × Int × Int)
noncomputable def V522 (ad nd md : Nat) (td : NI) (vd : Nat → ByteArray) (gd wd : NI) (cy st : Int) (r : Rt522) : PV := PV.tup [PV.own (2) (5) (List.length r.2), PV.int .i64 r.1]
noncomputable def N522 (ad nd md : Nat) (td : NI) (vd : Nat → ByteArray) (gd wd : NI) (cy st : Int) (r : Rt522) : List Blk := [Blk.cols (List.length r.2) [Col.int .i64 fun j => (S.at' r.2 j).1, Col.int .i64 fun j => (S.at' r.2 j).2.1, Col.int .i64 fun j => (S.at' r.2 j).2.2.1, Col.int .i64 fun j => (S.at' r.2 j).2.2.2.1, Col.int .i64 fun j => (S.at' r.2 j).2.2.2.2]]
noncomputable def I522 (ad nd md : Nat) (td : NI) (vd : Nat → ByteArray) (gd wd : NI) (cy st : Int) : St522 → Hd
  | .h0 x0 x1 => ⟨hd Try.f22 0, [PV.int .i64 cy, PV.int .i64 st, PV.own (1) (5) (List.length x1),
 PV.loose (PA.mk (0) (4) ad (0)) nd, PV.int .i64 (↑nd : Int),
 PV.int .i64 x0], [[(1, (true, Blk.cols (List.length x1)
 [Col.int .i64 fun j => (S.at' x1 j).1,
 Col.int .i64 fun j => (S.at' x1 j).2.1,
 Col.int .i64 fun j => (S.at' x1 j).2.2.1,
 Col.int .i64 fun j => (S.at' x1 j).2.2.2.1,
 Col.int .i64 fun j => (S.at' x1 j).2.2.2.2]))], [(0, (false, .cols md [.int .i64 td, .str vd, .int .i64 gd, .int .i64 wd]))]], 2⟩
noncomputable def q522 (ad nd md : Nat) (td : NI) (vd : Nat → ByteArray) (gd wd : NI) (cy st : Int) : St522 → Option (St522 ⊕ Rt522) | .h0 x0 x1 => bif (decide (x0 < (↑nd : Int))) then (bif (decide ((0 : Int) ≤ x0 ∧ x0 < (↑nd : Int))) then (bif (decide (Int.toNat x0 + ad < md)) then (bif (lim .i64 (st + gd (Int.toNat x0 + ad))) then (bif (decide (st + gd (Int.toNat x0 + ad) > 1099511627776)) then (some (.inr ((6 : Int), []))) else (bif (decide (List.length x1 + 1 ≤ 1000000)) then (bif (decide (List.length x1 ≤ List.length x1)) then (bif (lim .i64 (x0 + 1)) then (some (.inl (.h0 (x0 + 1) (S.snoc x1 (st + gd (Int.toNat x0 + ad), td (Int.toNat x0 + ad), cy, wd (Int.toNat x0 + ad), (0 : Int)))))) else (none)) else (none)) else (none))) else (none)) else (none)) else (none)) else (bif (decide (List.length x1 ≤ List.length x1)) then (bif (decide (List.length x1 ≤ 1000000)) then (some (.inr ((0 : Int), S.mkl (List.length x1) fun j => (Prod.fst (S.at' (S.mkl (List.length x1) fun j => S.at' (S.sortE (S.mkl (List.length x1) fun j => ((S.at' x1 j).1, (S.at' x1 j).2.1, (S.at' x1 j).2.2.1, (S.at' x1 j).2.2.2.1, (S.at' x1 j).2.2.2.2))) j) j), Prod.fst (Prod.snd (S.at' (S.mkl (List.length x1) fun j => S.at' (S.sortE (S.mkl (List.length x1) fun j => ((S.at' x1 j).1, (S.at' x1 j).2.1, (S.at' x1 j).2.2.1, (S.at' x1 j).2.2.2.1, (S.at' x1 j).2.2.2.2))) j) j)), Prod.fst (Prod.snd (Prod.snd (S.at' (S.mkl (List.length x1) fun j => S.at' (S.sortE (S.mkl (List.length x1) fun j => ((S.at' x1 j).1, (S.at' x1 j).2.1, (S.at' x1 j).2.2.1, (S.at' x1 j).2.2.2.1, (S.at' x1 j).2.2.2.2))) j) j))), Prod.fst (Prod.snd (Prod.snd (Prod.snd (S.at' (S.mkl (List.length x1) fun j => S.at' (S.sortE (S.mkl (List.length x1) fun j => ((S.at' x1 j).1, (S.at' x1 j).2.1, (S.at' x1 j).2.2.1, (S.at' x1 j).2.2.2.1, (S.at' x1 j).2.2.2.2))) j) j)))), Prod.snd (Prod.snd (Prod.snd (Prod.snd (S.at' (S.mkl (List.length x1) fun j => S.at' (S.sortE (S.mkl (List.length x1) fun j => ((S.at' x1 j).1, (S.at' x1 j).2.1, (S.at' x1 j).2.2.1, (S.at' x1 j).2.2.2.1, (S.at' x1 j).2.2.2.2))) j) j)))))))) else (none)) else (none))
noncomputable def p522 (ad nd md : Nat) (td : NI) (vd : Nat → ByteArray) (gd wd : NI) (cy st : Int) : Option (St522 ⊕ Rt522) := bif (decide (ad + nd ≤ md ∧ nd ≤ 1000000)) then (bif ((S.defS nd (fun j => td (j + ad)) (fun j => vd (j + ad)) (fun j => gd (j + ad)) fun j => wd (j + ad)) != 0) then (some (.inr (S.defS nd (fun j => td (j + ad)) (fun j => vd (j + ad)) (fun j => gd (j + ad)) fun j => wd (j + ad), []))) else (bif (decide (cy ≥ 0)) then (bif (decide (cy ≤ 1048576)) then (bif (decide (st ≥ 0)) then (bif (decide (st ≤ 1099511627776)) then (some (.inl (.h0 ((0 : Int)) ([])))) else (some (.inr ((6 : Int), [])))) else (some (.inr ((6 : Int), [])))) else (some (.inr ((6 : Int), [])))) else (some (.inr ((6 : Int), []))))) else (none)
noncomputable abbrev u522_e_0 (md : Nat) (td : Nat → Int) (vd : Nat → ByteArray) (gd wd : Nat → Int) := [[(0, false, Blk.cols md [Col.int IntKind.i64 td, Col.str vd, Col.int IntKind.i64 gd, Col.int IntKind.i64 wd])]]
def Te522 (test : TT) (Kst : KS) (Kret : KR) (ad nd md : Nat) (td : NI) (vd : Nat → ByteArray) (gd wd : NI) (cy st : Int) : Prop := test (decide (ad + nd ≤ md ∧ nd ≤ 1000000)) (test ((S.defS nd (fun j => td (j + ad)) (fun j => vd (j + ad)) (fun j => gd (j + ad)) fun j => wd (j + ad)) != 0) (Kret (PV.tup [PV.nils, PV.int .i64 (S.defS nd (fun j => td (j + ad)) (fun j => vd (j + ad)) (fun j => gd (j + ad)) fun j => wd (j + ad))]) (u522_e_0 md td vd gd wd) (2)) (test (decide (cy ≥ 0)) (test (decide (cy ≤ 1048576)) (test (decide (st ≥ 0)) (test (decide (st ≤ 1099511627776)) (Kst (hd Try.f22 0) ([PV.int .i64 cy, PV.int .i64 st, PV.nils, PV.loose (PA.mk (0) (4) ad (0)) nd, PV.int .i64 (↑nd : Int), PV.int .i64 (0 : Int)]) (u522_e_0 md td vd gd wd) (2)) (Kret (PV.tup [PV.nils, PV.int .i64 (6 : Int)]) (u522_e_0 md td vd gd wd) (2))) (Kret (PV.tup [PV.nils, PV.int .i64 (6 : Int)]) (u522_e_0 md td vd gd wd) (2))) (Kret (PV.tup [PV.nils, PV.int .i64 (6 : Int)]) (u522_e_0 md td vd gd wd) (2))) (Kret (PV.tup [PV.nils, PV.int .i64 (6 : Int)]) (u522_e_0 md td vd gd wd) (2)))) (False)
theorem te522 (test : TT) (Kst : KS) (Kret : KR) (ad nd md : Nat) (td : NI) (vd : Nat → ByteArray) (gd wd : NI) (cy st : Int) : run test Try.env true (xT test) true 400 ⟨22, [.cd (mkFn Try.f22).body], argT 0 [.loose ⟨0, 4, ad, 0⟩ nd, .int .i64 cy, .int .i64 st], [[], [(0, (false, .cols md [.int .i64 td, .str vd, .int .i64 gd, .int .i64 wd]))]], 1⟩ (proj 1 [1, 2, 9, 25, 26, 27] Kst Kret) =
  Te522 test Kst Kret ad nd md td vd gd wd cy st := by kernel_rfl
noncomputable abbrev u522_0_0 (x1 : List (Int × Int × Int × Int × Int)) := S.mkl (List.length x1) fun j => S.at' (S.sortE (S.mkl (List.length x1) fun j => ((S.at' x1 j).1, (S.at' x1 j).2.1, (S.at' x1 j).2.2.1, (S.at' x1 j).2.2.2.1, (S.at' x1 j).2.2.2.2))) j
def T522_0 (test : TT) (Kst : KS) (Kret : KR) (ad nd md : Nat) (td : NI) (vd : Nat → ByteArray) (gd wd : NI) (cy st x0 : Int) (x1 : List (Int × Int × Int × Int × Int)) : Prop := test (decide (x0 < (↑nd : Int))) (test (decide ((0 : Int) ≤ x0 ∧ x0 < (↑nd : Int))) (test (decide (Int.toNat x0 + ad < md)) (test (decide (Int.toNat x0 + ad < md)) (test (decide (Int.toNat x0 + ad < md)) (test (decide (Int.toNat x0 + ad < md)) (test (lim .i64 (st + gd (Int.toNat x0 + ad))) (test (decide (st + gd (Int.toNat x0 + ad) > 1099511627776)) (Kret (PV.tup [PV.nils, PV.int .i64 (6 : Int)]) ([[(0, false, Blk.cols md [Col.int .i64 td, Col.str vd, Col.int .i64 gd, Col.int .i64 wd])]]) (3)) (test (lim .i64 (st + gd (Int.toNat x0 + ad))) (test (decide (List.length x1 + 1 ≤ 1000000)) (test (decide (List.length x1 ≤ List.length x1)) (test (true) (test (lim .i64 (x0 + 1)) (Kst (hd Try.f22 0) ([PV.int .i64 cy, PV.int .i64 st, PV.own (4) (5) (List.length x1 + 1), PV.loose (PA.mk (0) (4) ad (0)) nd, PV.int .i64 (↑nd : Int), PV.int .i64 (x0 + 1)]) ([[(0, false, Blk.cols md [Col.int .i64 td, Col.str vd, Col.int .i64 gd, Col.int .i64 wd]), (4, true, Blk.cols (List.length x1 + 1) [Col.int .i64 fun j => bif Nat.blt j (List.length x1) then (S.at' x1 j).1 else st + gd (Int.toNat x0 + ad), Col.int .i64 fun j => bif Nat.blt j (List.length x1) then (S.at' x1 j).2.1 else td (Int.toNat x0 + ad), Col.int .i64 fun j => bif Nat.blt j (List.length x1) then (S.at' x1 j).2.2.1 else cy, Col.int .i64 fun j => bif Nat.blt j (List.length x1) then (S.at' x1 j).2.2.2.1 else wd (Int.toNat x0 + ad), Col.int .i64 fun j => bif Nat.blt j (List.length x1) then (S.at' x1 j).2.2.2.2 else (0 : Int)])]]) (5)) (False)) (False)) (False)) (False)) (False))) (False)) (False)) (False)) (False)) (False)) (False)) (test (decide (List.length x1 ≤ List.length x1)) (test (decide (List.length x1 ≤ 1000000)) (Kret (PV.tup [PV.own (1) (5) (List.length x1), PV.int .i64 (0 : Int)]) ([[(0, false, Blk.cols md [Col.int .i64 td, Col.str vd, Col.int .i64 gd, Col.int .i64 wd]), (1, true, Blk.cols (List.length (u522_0_0 x1)) [Col.int .i64 fun j => (S.at' (u522_0_0 x1) j).1, Col.int .i64 fun j => (S.at' (u522_0_0 x1) j).2.1, Col.int .i64 fun j => (S.at' (u522_0_0 x1) j).2.2.1, Col.int .i64 fun j => (S.at' (u522_0_0 x1) j).2.2.2.1, Col.int .i64 fun j => (S.at' (u522_0_0 x1) j).2.2.2.2])]]) (3)) (False)) (False))
theorem t522_0 (test : TT) (Kst : KS) (Kret : KR) (ad nd md : Nat) (td : NI) (vd : Nat → ByteArray) (gd wd : NI) (cy st x0 : Int) (x1 : List (Int × Int × Int × Int × Int)) : run test Try.env true (xT test) true 400 ⟨22, hd Try.f22 0, zipT [1, 2, 9, 25, 26, 27] [PV.int .i64 cy, PV.int .i64 st, PV.own (1) (5) (List.length x1),
 PV.loose (PA.mk (0) (4) ad (0)) nd, PV.int .i64 (↑nd : Int),
 PV.int .i64 x0], [[(1, (true, Blk.cols (List.length x1)
 [Col.int .i64 fun j => (S.at' x1 j).1,
 Col.int .i64 fun j => (S.at' x1 j).2.1,
 Col.int .i64 fun j => (S.at' x1 j).2.2.1,
 Col.int .i64 fun j => (S.at' x1 j).2.2.2.1,
 Col.int .i64 fun j => (S.at' x1 j).2.2.2.2]))], [(0, (false, .cols md [.int .i64 td, .str vd, .int .i64 gd, .int .i64 wd]))]], 2⟩ (proj 1 [1, 2, 9, 25, 26, 27] Kst Kret) =
  T522_0 test Kst Kret ad nd md td vd gd wd cy st x0 x1 := by kernel_rfl
noncomputable abbrev J522 (ad nd md : Nat) (td : NI) (vd : Nat → ByteArray) (gd : NI) (wd : NI) (cy : Int) (st : Int) : Rt522 → Heap := fun r => [newL (1 + 1) ((N522 ad nd md td vd gd wd cy st) r) ++ [(0, (false, .cols md [.int .i64 td, .str vd, .int .i64 gd, .int .i64 wd]))]]
attribute [local irreducible] Int.subNatNat in
theorem be522 (ad nd md : Nat) (td : NI) (vd : Nat → ByteArray) (gd wd : NI) (cy st : Int) (Kst : KS) (Kret : KR) (x : St522 ⊕ Rt522) (hS : HS 1 400 ((I522 ad nd md td vd gd wd cy st)) Kst x) (hR : HR 1 400 ((V522 ad nd md td vd gd wd cy st)) (J522 ad nd md td vd gd wd cy st) Kret x) (h : p522 ad nd md td vd gd wd cy st = some x) : Te522 cond Kst Kret ad nd md td vd gd wd cy st := by
  unfold Te522
  unfold p522 at h
  refine bif_split h (fun c0 h => bif_split h (fun c1 h => ?_) (fun c1 h => bif_split h (fun c2 h => bif_split h (fun c3 h => bif_split h (fun c4 h => bif_split h (fun c5 h => stop_at hS _ h (fun n => bif Nat.beq n 1 then 399 else n) rfl rfl rfl ⟨(rn_int rfl), ⟨(rn_int rfl), ⟨(rn_own_nils rfl), ⟨(rn_loose (use_lo rfl) rfl rfl rfl), ⟨(rn_int rfl), ⟨(rn_int rfl), trivial⟩⟩⟩⟩⟩⟩ rfl (entl_fresh (use_own rfl) (fresh_ok rfl) (entl_bor (use_lo rfl) rfl rfl entl_nil))) (fun c5 h => ?_)) (fun c4 h => ?_)) (fun c3 h => ?_)) (fun c2 h => ?_))) (fun c0 h => no_some h)
  all_goals first
    | exact ret_at hR _ h (fun n => bif Nat.beq n 2 then 399 else n) rfl rfl rfl (rn_tup ⟨(rn_own_nils rfl), (rn_int rfl), trivial⟩) rfl (entl_fresh (use_own rfl) (fresh_ok rfl) (entl_bor (use_lo rfl) rfl rfl entl_nil))
attribute [local irreducible] Int.subNatNat in
theorem b522_0 (ad nd md : Nat) (td : NI) (vd : Nat → ByteArray) (gd wd : NI) (cy st : Int) (Kst : KS) (Kret : KR) (x : St522 ⊕ Rt522) (hS : HS 1 400 ((I522 ad nd md td vd gd wd cy st)) Kst x) (hR : HR 1 400 ((V522 ad nd md td vd gd wd cy st)) (J522 ad nd md td vd gd wd cy st) Kret x) (x0 : Int) (x1 : List (Int × Int × Int × Int × Int)) (h : q522 ad nd md td vd gd wd cy st (.h0 x0 x1) = some x) : T522_0 cond Kst Kret ad nd md td vd gd wd cy st x0 x1 := by
  unfold T522_0
  rw [q522] at h
  exact bif_split h (fun c0 h => bif_split h (fun c1 h => bif_split h (fun c2 h => cond_yes c2 (cond_yes c2 (cond_yes c2 (bif_split h (fun c3 h => bif_split h (fun c4 h => ret_at hR _ h (fun n => bif Nat.beq n 2 then 399 else n) rfl rfl rfl (rn_tup ⟨(rn_own_nils rfl), (rn_int rfl), trivial⟩) rfl (entl_fresh (use_own rfl) (fresh_ok rfl) (entl_bor (use_lo rfl) rfl rfl entl_nil))) (fun c4 h => cond_yes c3 (bif_split h (fun c5 h => bif_split h (fun c6 h => cond_yes rfl (bif_split h (fun c7 h => stop_at hS _ h (fun n => bif Nat.beq n 1 then 4 else n) rfl rfl rfl ⟨(rn_int rfl), ⟨(rn_int rfl), ⟨(rn_own (use_own rfl) rfl (snoc_len' rfl)), ⟨(rn_loose (use_lo rfl) rfl rfl rfl), ⟨(rn_int rfl), ⟨(rn_int rfl), trivial⟩⟩⟩⟩⟩⟩ rfl (entl_new (use_own rfl) rfl (Nat.le_of_eq (snoc_len' rfl)) (rcs_int (col_snoc' (fun (t : Int × Int × Int × Int × Int) => t.1) rfl (fun _ _ => rfl)) (rcs_int (col_snoc' (fun (t : Int × Int × Int × Int × Int) => t.2.1) rfl (fun _ _ => rfl)) (rcs_int (col_snoc' (fun (t : Int × Int × Int × Int × Int) => t.2.2.1) rfl (fun _ _ => rfl)) (rcs_int (col_snoc' (fun (t : Int × Int × Int × Int × Int) => t.2.2.2.1) rfl (fun _ _ => rfl)) (rcs_int (col_snoc' (fun (t : Int × Int × Int × Int × Int) => t.2.2.2.2) rfl (fun _ _ => rfl)) rcs_nil))))) (entl_bor (use_lo rfl) rfl rfl entl_nil))) (fun c7 h => no_some h))) (fun c6 h => no_some h)) (fun c5 h => no_some h)))) (fun c3 h => no_some h))))) (fun c2 h => no_some h)) (fun c1 h => no_some h)) (fun c0 h => bif_split h (fun c1 h => bif_split h (fun c2 h => ret_at hR _ h (fun n => bif Nat.beq n 2 then 1 else n) rfl rfl rfl (rn_tup ⟨(rn_own (use_own rfl) rfl mkl_len), (rn_int rfl), trivial⟩) rfl (entl_new (use_own rfl) rfl (by first | exact Nat.le_of_eq mkl_len | (simp only [mkl_len, snoc_len]; omega)) (rcs_int (fun _ hj => col_mkl (fun (t : Int × Int × Int × Int × Int) => t.1) hj) (rcs_int (fun _ hj => col_mkl (fun (t : Int × Int × Int × Int × Int) => t.2.1) hj) (rcs_int (fun _ hj => col_mkl (fun (t : Int × Int × Int × Int × Int) => t.2.2.1) hj) (rcs_int (fun _ hj => col_mkl (fun (t : Int × Int × Int × Int × Int) => t.2.2.2.1) hj) (rcs_int (fun _ hj => col_mkl (fun (t : Int × Int × Int × Int × Int) => t.2.2.2.2) hj) rcs_nil))))) (entl_bor (use_lo rfl) rfl rfl entl_nil))) (fun c2 h => no_some h)) (fun c1 h => no_some h))
theorem a522 (ad nd md : Nat) (td : NI) (vd : Nat → ByteArray) (gd wd : NI) (cy st : Int) {r : Rt522} (h : Goes ((q522 ad nd md td vd gd wd cy st)) ((p522 ad nd md td vd gd wd cy st)) r) : CallR Try.prog 22 [.loose ⟨0, 4, ad, 0⟩ nd, .int .i64 cy, .int .i64 st] [[(0, (false, .cols md [.int .i64 td, .str vd, .int .i64 gd, .int .i64 wd]))]] 1 ((V522 ad nd md td vd gd wd cy st) r) ((J522 ad nd md td vd gd wd cy st) r) 400 ∧ ∃ F, Try.prog.funcs[22]? = some F ∧ F.body.isSome = true ∧ (F.name == "runtime.NumGoroutine") = false := by
  refine dec_calls (sy := true) (f := 22) (lo := 1) (hi := 400) (H := [[(0, (false, .cols md [.int .i64 td, .str vd, .int .i64 gd, .int .i64 wd]))]]) (args := [.loose ⟨0, 4, ad, 0⟩ nd, .int .i64 cy, .int .i64 st]) Try.envOk Try.mixed xT_ok ((I522 ad nd md td vd gd wd cy st)) ((V522 ad nd md td vd gd wd cy st)) (J522 ad nd md td vd gd wd cy st) (fn := mkFn Try.f22) (ts := [1, 2, 9, 25, 26, 27]) (n := 400) rfl (by decide) (by simp) (names_of rfl) ?_ ?_ ?_ h
  · intro s; cases s <;> exact ⟨hd_ok _ _, by simp [I522], names_of rfl, Nat.le_of_ble_eq_true rfl⟩
  · intro Kst Kret x hS hR h
    exact Holds.eq (te522 cond Kst Kret ad nd md td vd gd wd cy st) (be522 ad nd md td vd gd wd cy st Kst Kret x hS hR h)
  · intro Kst Kret x hS hR s h
    cases s with
    | h0 x0 x1 => exact Holds.eq (t522_0 cond Kst Kret ad nd md td vd gd wd cy st x0 x1) (b522_0 ad nd md td vd gd wd cy st Kst Kret x hS hR x0 x1 h)
noncomputable abbrev w522 {α : Type} (g : Nat → Nat → Nat → (Nat → Int) → (Nat → ByteArray) → (Nat → Int) → (Nat → Int) → Int → Int → α) (x : (Nat × Nat × Nat × (Nat → Int) × (Nat → ByteArray) × (Nat → Int) × (Nat → Int) × Unit) × Int × Int × Unit) : α := g x.1.1 x.1.2.1 x.1.2.2.1 x.1.2.2.2.1 x.1.2.2.2.2.1 x.1.2.2.2.2.2.1 x.1.2.2.2.2.2.2.1 x.2.1 x.2.2.1
noncomputable def k522  : Con := ⟨22, [.one (.list [.int .i64, .str, .int .i64, .int .i64]), .one (.plain (.int .i64)), .one (.plain (.int .i64))], w522 (fun ad nd md td vd gd wd cy st => decide (ad + nd ≤ md ∧ nd ≤ 1000000)), w522 (fun ad nd md td vd gd wd cy st => (V522 ad nd md td vd gd wd cy st) ((S.telS nd (fun j => td (j + ad)) (fun j => vd (j + ad)) (fun j => gd (j + ad)) (fun j => wd (j + ad)) cy st).1, (S.telS nd (fun j => td (j + ad)) (fun j => vd (j + ad)) (fun j => gd (j + ad)) (fun j => wd (j + ad)) cy st).2)), w522 (fun ad nd md td vd gd wd cy st => (N522 ad nd md td vd gd wd cy st) ((S.telS nd (fun j => td (j + ad)) (fun j => vd (j + ad)) (fun j => gd (j + ad)) (fun j => wd (j + ad)) cy st).1, (S.telS nd (fun j => td (j + ad)) (fun j => vd (j + ad)) (fun j => gd (j + ad)) (fun j => wd (j + ad)) cy st).2)), fun _ _ => .dead⟩
theorem s522' (ad nd md : Nat) (td : Nat → Int) (vd : Nat → ByteArray) (gd wd : Nat → Int) (cy st : Int) (hp : ad + nd ≤ md ∧ nd ≤ 1000000) (hn : nd ≤ 100) (hc : ∀ j, j < nd → 0 ≤ gd (j + ad) ∧ gd (j + ad) ≤ 1099511627776) (hst : 0 ≤ st ∧ st ≤ 1099511627776) : ∀ k i : Nat, i + k = nd → (∀ j, j < i → (fun j => decide (st + gd (j + ad) ≤ 1099511627776)) j = true) → Comes (q522 ad nd md td vd gd wd cy st) (.h0 (i : Int) (S.mkl i (fun j => S.evT (fun j => td (j + ad)) (fun j => gd (j + ad)) (fun j => wd (j + ad)) cy st j))) (if S.all (fun j => decide (st + gd (j + ad) ≤ 1099511627776)) nd = true then ((0 : Int), S.sortE (S.mkl nd (fun j => S.evT (fun j => td (j + ad)) (fun j => gd (j + ad)) (fun j => wd (j + ad)) cy st j))) else (6, [])) := by
  obtain ⟨hp1, hp2⟩ := hp
  intro k
  induction k with
  | zero =>
    intro i hi hj
    obtain rfl : nd = i := by omega
    rw [if_pos (all_iff.mpr hj)]
    have hl : List.length (S.mkl nd (fun j => S.evT (fun j => td (j + ad)) (fun j => gd (j + ad)) (fun j => wd (j + ad)) cy st j)) = nd := by rw [mkl_len]
    have hx := srtX (L := (S.mkl nd (fun j => S.evT (fun j => td (j + ad)) (fun j => gd (j + ad)) (fun j => wd (j + ad)) cy st j)))
    generalize (S.mkl nd (fun j => S.evT (fun j => td (j + ad)) (fun j => gd (j + ad)) (fun j => wd (j + ad)) cy st j)) = L at *
    apply Comes.of
    show Goes _ _ _
    rw [q522]
    rw [hx]
    repeat' (first | with_reducible refine goes_if (fun h => ?_) (fun h => ?_) <;> (try simp only [SH] at h) | exact goes_none.mpr (by omega))
    all_goals first | (exfalso; omega) | exact goes_inr.mpr rfl
  | succ k ih =>
    intro i hi hj
    have hci := hc i (by omega)
    by_cases h0 : st + gd (i + ad) ≤ 1099511627776
    · have ih := ih (i + 1) (by omega) (fun j h => by
        by_cases e : j = i
        · subst e; exact decide_eq_true h0
        · exact hj j (by omega))
      have e2 : ((i + 1 : Nat) : Int) = (i : Int) + 1 := by omega
      rw [e2] at ih
      clear hj hc
      have e3 : (S.mkl (i + 1) (fun j => S.evT (fun j => td (j + ad)) (fun j => gd (j + ad)) (fun j => wd (j + ad)) cy st j)) = S.snoc (S.mkl i (fun j => S.evT (fun j => td (j + ad)) (fun j => gd (j + ad)) (fun j => wd (j + ad)) cy st j)) (st + gd (i + ad), td (i + ad), cy, wd (i + ad), 0) := mkl_succ
      rw [e3] at ih
      have hl : List.length (S.mkl i (fun j => S.evT (fun j => td (j + ad)) (fun j => gd (j + ad)) (fun j => wd (j + ad)) cy st j)) = i := mkl_len
      generalize (if S.all (fun j => decide (st + gd (j + ad) ≤ 1099511627776)) nd = true then ((0 : Int), S.sortE (S.mkl nd (fun j => S.evT (fun j => td (j + ad)) (fun j => gd (j + ad)) (fun j => wd (j + ad)) cy st j))) else (6, [])) = R at *
      generalize (S.mkl i (fun j => S.evT (fun j => td (j + ad)) (fun j => gd (j + ad)) (fun j => wd (j + ad)) cy st j)) = L at *
      clear e3
      apply Comes.of
      show Goes _ _ _
      (first | rw [q522] | unfold q522)
      repeat' (first | with_reducible refine goes_if (fun h => ?_) (fun h => ?_) <;> (try simp only [SH] at h) | exact goes_none.mpr (by omega))
      all_goals first | (exfalso; omega) | exact ih
    · rw [if_neg (all_no (i := i) (by omega) (decide_eq_false h0))]
      have hl : List.length (S.mkl i (fun j => S.evT (fun j => td (j + ad)) (fun j => gd (j + ad)) (fun j => wd (j + ad)) cy st j)) = i := by rw [mkl_len]
      clear hj hc
      generalize (S.mkl i (fun j => S.evT (fun j => td (j + ad)) (fun j => gd (j + ad)) (fun j => wd (j + ad)) cy st j)) = L at *
      apply Comes.of
      show Goes _ _ _
      rw [q522]
      simp only [Int.toNat_natCast]
      generalize (S.mkl _ _ : List (Int × Int × Int × Int × Int)) = L2 at *
      repeat' (first | with_reducible refine goes_if (fun h => ?_) (fun h => ?_) <;> (try simp only [SH] at h) | exact goes_none.mpr (by omega))
      all_goals first | (exfalso; omega) | exact goes_inr.mpr rfl
theorem s522 (ad nd md : Nat) (td : Nat → Int) (vd : Nat → ByteArray) (gd wd : Nat → Int) (cy st : Int) (hp : ad + nd ≤ md ∧ nd ≤ 1000000) : Goes ((q522 ad nd md td vd gd wd cy st)) ((p522 ad nd md td vd gd wd cy st)) (((S.telS nd (fun j => td (j + ad)) (fun j => vd (j + ad)) (fun j => gd (j + ad)) (fun j => wd (j + ad)) cy st).1, (S.telS nd (fun j => td (j + ad)) (fun j => vd (j + ad)) (fun j => gd (j + ad)) (fun j => wd (j + ad)) cy st).2)) := by
  have hp' := hp
  have c1 : ad + nd ≤ md ∧ nd ≤ 1000000 := hp
  have hd := defS_ok (n := nd) (a := fun j => td (j + ad)) (b := fun j => vd (j + ad)) (c := fun j => gd (j + ad)) (d := fun j => wd (j + ad))
  have hm := fun h : S.defS nd (fun j => td (j + ad)) (fun j => vd (j + ad)) (fun j => gd (j + ad)) (fun j => wd (j + ad)) = 0 => fun hst => s522' ad nd md td vd gd wd cy st hp' (hd h).1 (hd h).2 hst nd 0 (by omega) (fun j h => by omega)
  have e0 : (S.mkl 0 (fun j => S.evT (fun j => td (j + ad)) (fun j => gd (j + ad)) (fun j => wd (j + ad)) cy st j)) = [] := rfl
  rw [e0] at hm
  show Goes _ _ (S.telS nd (fun j => td (j + ad)) (fun j => vd (j + ad)) (fun j => gd (j + ad)) (fun j => wd (j + ad)) cy st)
  unfold S.telS
  clear hd
  generalize (if S.all (fun j => decide (st + gd (j + ad) ≤ 1099511627776)) nd = true then ((0 : Int), S.sortE (S.mkl nd (fun j => S.evT (fun j => td (j + ad)) (fun j => gd (j + ad)) (fun j => wd (j + ad)) cy st j))) else (6, [])) = R at *
  unfold p522
  generalize S.defS nd (fun j => td (j + ad)) (fun j => vd (j + ad)) (fun j => gd (j + ad)) (fun j => wd (j + ad)) = E at *
  simp only [decide_eq_true c1, cond_true]
  by_cases h0 : E = 0
  · have hm2 := hm h0
    subst h0
    rw [if_pos rfl]
    repeat' (first | with_reducible refine goes_if (fun h => ?_) (fun h => ?_) <;> (try simp only [SH] at h) | exact goes_none.mpr (by omega))
    all_goals first
      | (exfalso; omega)
      | (exfalso; simp at *; done)
      | (rw [if_neg (by omega)]; exact goes_inr.mpr rfl)
      | (rw [if_pos (by omega)]; exact hm2 (by omega))
  · rw [if_neg h0]
    exact goes_ok (by simpa using h0) (goes_inr.mpr rfl)
theorem k522_ok  : k522.ok Try.prog := by
  intro x hx
  obtain ⟨⟨ad, nd, md, td, vd, gd, wd, _⟩, cy, st, _⟩ := x
  obtain ⟨h1, h2⟩ := a522 ad nd md td vd gd wd cy st (s522 ad nd md td vd gd wd cy st (of_dec hx rfl))
  exact ⟨⟨400, (by decide : 1 + 1 + 1 ≤ 400), h1⟩, h2⟩
inductive St524 where
  | h0 (x0 : Int) (x1 : List (Int × Int × Int × Int × Int))
abbrev Rt524  := Int × List (Int × Int × Int × Int × Int)
noncomputable def V524 (ad nd md : Nat) (td : NI) (vd : Nat → ByteArray) (gd wd : NI) (cy st : Int) (r : Rt524) : PV := PV.tup [PV.own (2) (5) (List.length r.2), PV.int .i64 r.1]
noncomputable def N524 (ad nd md : Nat) (td : NI) (vd : Nat → ByteArray) (gd wd : NI) (cy st : Int) (r : Rt524) : List Blk := [Blk.cols (List.length r.2) [Col.int .i64 fun j => (S.at' r.2 j).1, Col.int .i64 fun j => (S.at' r.2 j).2.1, Col.int .i64 fun j => (S.at' r.2 j).2.2.1, Col.int .i64 fun j => (S.at' r.2 j).2.2.2.1, Col.int .i64 fun j => (S.at' r.2 j).2.2.2.2]]
noncomputable def I524 (ad nd md : Nat) (td : NI) (vd : Nat → ByteArray) (gd wd : NI) (cy st : Int) : St524 → Hd
  | .h0 x0 x1 => ⟨hd Try.f24 0, [PV.loose (PA.mk (0) (4) ad (0)) nd, PV.int .i64 cy,
 PV.int .i64 st, PV.own (1) (5) (List.length x1), PV.int .i64 x0], [[(1, (true, Blk.cols (List.length x1)
 [Col.int .i64 fun j => (S.at' x1 j).1,
 Col.int .i64 fun j => (S.at' x1 j).2.1,
 Col.int .i64 fun j => (S.at' x1 j).2.2.1,
 Col.int .i64 fun j => (S.at' x1 j).2.2.2.1,
 Col.int .i64 fun j => (S.at' x1 j).2.2.2.2]))], [(0, (false, .cols md [.int .i64 td, .str vd, .int .i64 gd, .int .i64 wd]))]], 2⟩
noncomputable def q524 (ad nd md : Nat) (td : NI) (vd : Nat → ByteArray) (gd wd : NI) (cy st : Int) : St524 → Option (St524 ⊕ Rt524) | .h0 x0 x1 => bif (decide (x0 < (↑nd : Int))) then (bif (decide ((0 : Int) ≤ x0 ∧ x0 < (↑nd : Int))) then (bif (decide (Int.toNat x0 + ad < md)) then (bif (lim .i64 (st + gd (Int.toNat x0 + ad))) then (bif (decide (st + gd (Int.toNat x0 + ad) > 1099511627776)) then (some (.inr ((6 : Int), []))) else (bif (decide (List.length x1 ≤ List.length x1)) then (bif (decide (List.length x1 ≤ 100000)) then (bif (lim .i64 (x0 + 1)) then (some (.inl (.h0 (x0 + 1) (S.mkl (List.length x1 + 1) fun j => S.inF (fun j => ((S.at' x1 j).1, (S.at' x1 j).2.1, (S.at' x1 j).2.2.1, (S.at' x1 j).2.2.2.1, (S.at' x1 j).2.2.2.2)) (st + gd (Int.toNat x0 + ad), td (Int.toNat x0 + ad), cy, wd (Int.toNat x0 + ad), (0 : Int)) (S.posE (fun j => ((S.at' x1 j).1, (S.at' x1 j).2.1, (S.at' x1 j).2.2.1, (S.at' x1 j).2.2.2.1, (S.at' x1 j).2.2.2.2)) (st + gd (Int.toNat x0 + ad), td (Int.toNat x0 + ad), cy, wd (Int.toNat x0 + ad), (0 : Int)) (List.length x1)) j)))) else (none)) else (none)) else (none))) else (none)) else (none)) else (none)) else (some (.inr ((0 : Int), x1)))
noncomputable def p524 (ad nd md : Nat) (td : NI) (vd : Nat → ByteArray) (gd wd : NI) (cy st : Int) : Option (St524 ⊕ Rt524) := bif (decide (ad + nd ≤ md ∧ nd ≤ 1000000)) then (bif ((S.defS nd (fun j => td (j + ad)) (fun j => vd (j + ad)) (fun j => gd (j + ad)) fun j => wd (j + ad)) != 0) then (some (.inr (S.defS nd (fun j => td (j + ad)) (fun j => vd (j + ad)) (fun j => gd (j + ad)) fun j => wd (j + ad), []))) else (bif (decide (cy ≥ 0)) then (bif (decide (cy ≤ 1048576)) then (bif (decide (st ≥ 0)) then (bif (decide (st ≤ 1099511627776)) then (some (.inl (.h0 ((0 : Int)) ([])))) else (some (.inr ((6 : Int), [])))) else (some (.inr ((6 : Int), [])))) else (some (.inr ((6 : Int), [])))) else (some (.inr ((6 : Int), []))))) else (none)
noncomputable abbrev u524_e_0 (md : Nat) (td : Nat → Int) (vd : Nat → ByteArray) (gd wd : Nat → Int) := [[(0, false, Blk.cols md [Col.int IntKind.i64 td, Col.str vd, Col.int IntKind.i64 gd, Col.int IntKind.i64 wd])]]
def Te524 (test : TT) (Kst : KS) (Kret : KR) (ad nd md : Nat) (td : NI) (vd : Nat → ByteArray) (gd wd : NI) (cy st : Int) : Prop := test (decide (ad + nd ≤ md ∧ nd ≤ 1000000)) (test ((S.defS nd (fun j => td (j + ad)) (fun j => vd (j + ad)) (fun j => gd (j + ad)) fun j => wd (j + ad)) != 0) (Kret (PV.tup [PV.nils, PV.int .i64 (S.defS nd (fun j => td (j + ad)) (fun j => vd (j + ad)) (fun j => gd (j + ad)) fun j => wd (j + ad))]) (u524_e_0 md td vd gd wd) (2)) (test (decide (cy ≥ 0)) (test (decide (cy ≤ 1048576)) (test (decide (st ≥ 0)) (test (decide (st ≤ 1099511627776)) (Kst (hd Try.f24 0) ([PV.loose (PA.mk (0) (4) ad (0)) nd, PV.int .i64 cy, PV.int .i64 st, PV.nils, PV.int .i64 (0 : Int)]) (u524_e_0 md td vd gd wd) (2)) (Kret (PV.tup [PV.nils, PV.int .i64 (6 : Int)]) (u524_e_0 md td vd gd wd) (2))) (Kret (PV.tup [PV.nils, PV.int .i64 (6 : Int)]) (u524_e_0 md td vd gd wd) (2))) (Kret (PV.tup [PV.nils, PV.int .i64 (6 : Int)]) (u524_e_0 md td vd gd wd) (2))) (Kret (PV.tup [PV.nils, PV.int .i64 (6 : Int)]) (u524_e_0 md td vd gd wd) (2)))) (False)
theorem te524 (test : TT) (Kst : KS) (Kret : KR) (ad nd md : Nat) (td : NI) (vd : Nat → ByteArray) (gd wd : NI) (cy st : Int) : run test Try.env true (xT test) true 400 ⟨24, [.cd (mkFn Try.f24).body], argT 0 [.loose ⟨0, 4, ad, 0⟩ nd, .int .i64 cy, .int .i64 st], [[], [(0, (false, .cols md [.int .i64 td, .str vd, .int .i64 gd, .int .i64 wd]))]], 1⟩ (proj 1 [0, 1, 2, 9, 10] Kst Kret) =
  Te524 test Kst Kret ad nd md td vd gd wd cy st := by kernel_rfl
noncomputable abbrev u524_0_0 (ad : Nat) (td gd wd : Nat → Int) (cy st x0 : Int) (x1 : List (Int × Int × Int × Int × Int)) := (S.mkl (List.length x1 + 1) fun j => S.inF (fun j => ((S.at' x1 j).1, (S.at' x1 j).2.1, (S.at' x1 j).2.2.1, (S.at' x1 j).2.2.2.1, (S.at' x1 j).2.2.2.2)) (st + gd (Int.toNat x0 + ad), td (Int.toNat x0 + ad), cy, wd (Int.toNat x0 + ad), (0 : Int)) (S.posE (fun j => ((S.at' x1 j).1, (S.at' x1 j).2.1, (S.at' x1 j).2.2.1, (S.at' x1 j).2.2.2.1, (S.at' x1 j).2.2.2.2)) (st + gd (Int.toNat x0 + ad), td (Int.toNat x0 + ad), cy, wd (Int.toNat x0 + ad), (0 : Int)) (List.length x1)) j)
def T524_0 (test : TT) (Kst : KS) (Kret : KR) (ad nd md : Nat) (td : NI) (vd : Nat → ByteArray) (gd wd : NI) (cy st x0 : Int) (x1 : List (Int × Int × Int × Int × Int)) : Prop := test (decide (x0 < (↑nd : Int))) (test (decide ((0 : Int) ≤ x0 ∧ x0 < (↑nd : Int))) (test (decide (Int.toNat x0 + ad < md)) (test (lim .i64 (st + gd (Int.toNat x0 + ad))) (test (decide ((0 : Int) ≤ x0 ∧ x0 < (↑nd : Int))) (test (decide (Int.toNat x0 + ad < md)) (test (decide ((0 : Int) ≤ x0 ∧ x0 < (↑nd : Int))) (test (decide (Int.toNat x0 + ad < md)) (test (decide (st + gd (Int.toNat x0 + ad) > 1099511627776)) (Kret (PV.tup [PV.nils, PV.int .i64 (6 : Int)]) ([[(0, false, Blk.cols md [Col.int .i64 td, Col.str vd, Col.int .i64 gd, Col.int .i64 wd])]]) (3)) (test (decide (List.length x1 ≤ List.length x1)) (test (decide (List.length x1 ≤ 100000)) (test (lim .i64 (x0 + 1)) (Kst (hd Try.f24 0) ([PV.loose (PA.mk (0) (4) ad (0)) nd, PV.int .i64 cy, PV.int .i64 st, PV.own (4) (5) (List.length (u524_0_0 ad td gd wd cy st x0 x1)), PV.int .i64 (x0 + 1)]) ([[(0, false, Blk.cols md [Col.int .i64 td, Col.str vd, Col.int .i64 gd, Col.int .i64 wd]), (4, true, Blk.cols (List.length (u524_0_0 ad td gd wd cy st x0 x1)) [Col.int .i64 fun j => (S.at' (u524_0_0 ad td gd wd cy st x0 x1) j).1, Col.int .i64 fun j => (S.at' (u524_0_0 ad td gd wd cy st x0 x1) j).2.1, Col.int .i64 fun j => (S.at' (u524_0_0 ad td gd wd cy st x0 x1) j).2.2.1, Col.int .i64 fun j => (S.at' (u524_0_0 ad td gd wd cy st x0 x1) j).2.2.2.1, Col.int .i64 fun j => (S.at' (u524_0_0 ad td gd wd cy st x0 x1) j).2.2.2.2])]]) (5)) (False)) (False)) (False))) (False)) (False)) (False)) (False)) (False)) (False)) (False)) (Kret (PV.tup [PV.own (1) (5) (List.length x1), PV.int .i64 (0 : Int)]) ([[(0, false, Blk.cols md [Col.int .i64 td, Col.str vd, Col.int .i64 gd, Col.int .i64 wd]), (1, true, Blk.cols (List.length x1) [Col.int .i64 fun j => (S.at' x1 j).1, Col.int .i64 fun j => (S.at' x1 j).2.1, Col.int .i64 fun j => (S.at' x1 j).2.2.1, Col.int .i64 fun j => (S.at' x1 j).2.2.2.1, Col.int .i64 fun j => (S.at' x1 j).2.2.2.2])]]) (2))
theorem t524_0 (test : TT) (Kst : KS) (Kret : KR) (ad nd md : Nat) (td : NI) (vd : Nat → ByteArray) (gd wd : NI) (cy st x0 : Int) (x1 : List (Int × Int × Int × Int × Int)) : run test Try.env true (xT test) true 400 ⟨24, hd Try.f24 0, zipT [0, 1, 2, 9, 10] [PV.loose (PA.mk (0) (4) ad (0)) nd, PV.int .i64 cy,
 PV.int .i64 st, PV.own (1) (5) (List.length x1), PV.int .i64 x0], [[(1, (true, Blk.cols (List.length x1)
 [Col.int .i64 fun j => (S.at' x1 j).1,
 Col.int .i64 fun j => (S.at' x1 j).2.1,
 Col.int .i64 fun j => (S.at' x1 j).2.2.1,
 Col.int .i64 fun j => (S.at' x1 j).2.2.2.1,
 Col.int .i64 fun j => (S.at' x1 j).2.2.2.2]))], [(0, (false, .cols md [.int .i64 td, .str vd, .int .i64 gd, .int .i64 wd]))]], 2⟩ (proj 1 [0, 1, 2, 9, 10] Kst Kret) =
  T524_0 test Kst Kret ad nd md td vd gd wd cy st x0 x1 := by kernel_rfl
noncomputable abbrev J524 (ad nd md : Nat) (td : NI) (vd : Nat → ByteArray) (gd : NI) (wd : NI) (cy : Int) (st : Int) : Rt524 → Heap := fun r => [newL (1 + 1) ((N524 ad nd md td vd gd wd cy st) r) ++ [(0, (false, .cols md [.int .i64 td, .str vd, .int .i64 gd, .int .i64 wd]))]]
attribute [local irreducible] Int.subNatNat in
theorem be524 (ad nd md : Nat) (td : NI) (vd : Nat → ByteArray) (gd wd : NI) (cy st : Int) (Kst : KS) (Kret : KR) (x : St524 ⊕ Rt524) (hS : HS 1 400 ((I524 ad nd md td vd gd wd cy st)) Kst x) (hR : HR 1 400 ((V524 ad nd md td vd gd wd cy st)) (J524 ad nd md td vd gd wd cy st) Kret x) (h : p524 ad nd md td vd gd wd cy st = some x) : Te524 cond Kst Kret ad nd md td vd gd wd cy st := by
  unfold Te524
  unfold p524 at h
  refine bif_split h (fun c0 h => bif_split h (fun c1 h => ?_) (fun c1 h => bif_split h (fun c2 h => bif_split h (fun c3 h => bif_split h (fun c4 h => bif_split h (fun c5 h => stop_at hS _ h (fun n => bif Nat.beq n 1 then 399 else n) rfl rfl rfl ⟨(rn_loose (use_lo rfl) rfl rfl rfl), ⟨(rn_int rfl), ⟨(rn_int rfl), ⟨(rn_own_nils rfl), ⟨(rn_int rfl), trivial⟩⟩⟩⟩⟩ rfl (entl_fresh (use_own rfl) (fresh_ok rfl) (entl_bor (use_lo rfl) rfl rfl entl_nil))) (fun c5 h => ?_)) (fun c4 h => ?_)) (fun c3 h => ?_)) (fun c2 h => ?_))) (fun c0 h => no_some h)
  all_goals first
    | exact ret_at hR _ h (fun n => bif Nat.beq n 2 then 399 else n) rfl rfl rfl (rn_tup ⟨(rn_own_nils rfl), (rn_int rfl), trivial⟩) rfl (entl_fresh (use_own rfl) (fresh_ok rfl) (entl_bor (use_lo rfl) rfl rfl entl_nil))
attribute [local irreducible] Int.subNatNat in
theorem b524_0 (ad nd md : Nat) (td : NI) (vd : Nat → ByteArray) (gd wd : NI) (cy st : Int) (Kst : KS) (Kret : KR) (x : St524 ⊕ Rt524) (hS : HS 1 400 ((I524 ad nd md td vd gd wd cy st)) Kst x) (hR : HR 1 400 ((V524 ad nd md td vd gd wd cy st)) (J524 ad nd md td vd gd wd cy st) Kret x) (x0 : Int) (x1 : List (Int × Int × Int × Int × Int)) (h : q524 ad nd md td vd gd wd cy st (.h0 x0 x1) = some x) : T524_0 cond Kst Kret ad nd md td vd gd wd cy st x0 x1 := by
  unfold T524_0
  rw [q524] at h
  exact bif_split h (fun c0 h => bif_split h (fun c1 h => bif_split h (fun c2 h => bif_split h (fun c3 h => cond_yes c1 (cond_yes c2 (cond_yes c1 (cond_yes c2 (bif_split h (fun c4 h => ret_at hR _ h (fun n => bif Nat.beq n 2 then 399 else n) rfl rfl rfl (rn_tup ⟨(rn_own_nils rfl), (rn_int rfl), trivial⟩) rfl (entl_fresh (use_own rfl) (fresh_ok rfl) (entl_bor (use_lo rfl) rfl rfl entl_nil))) (fun c4 h => bif_split h (fun c5 h => bif_split h (fun c6 h => bif_split h (fun c7 h => stop_at hS _ h (fun n => bif Nat.beq n 1 then 4 else n) rfl rfl rfl ⟨(rn_loose (use_lo rfl) rfl rfl rfl), ⟨(rn_int rfl), ⟨(rn_int rfl), ⟨(rn_own (use_own rfl) rfl rfl), ⟨(rn_int rfl), trivial⟩⟩⟩⟩⟩ rfl (entl_new (use_own rfl) rfl (Nat.le_of_eq rfl) (rcs_int (fun _ _ => rfl) (rcs_int (fun _ _ => rfl) (rcs_int (fun _ _ => rfl) (rcs_int (fun _ _ => rfl) (rcs_int (fun _ _ => rfl) rcs_nil))))) (entl_bor (use_lo rfl) rfl rfl entl_nil))) (fun c7 h => no_some h)) (fun c6 h => no_some h)) (fun c5 h => no_some h))))))) (fun c3 h => no_some h)) (fun c2 h => no_some h)) (fun c1 h => no_some h)) (fun c0 h => ret_at hR _ h (fun n => bif Nat.beq n 2 then 1 else n) rfl rfl rfl (rn_tup ⟨(rn_own (use_own rfl) rfl rfl), (rn_int rfl), trivial⟩) rfl (entl_new (use_own rfl) rfl (Nat.le_of_eq rfl) (rcs_int (fun _ _ => rfl) (rcs_int (fun _ _ => rfl) (rcs_int (fun _ _ => rfl) (rcs_int (fun _ _ => rfl) (rcs_int (fun _ _ => rfl) rcs_nil))))) (entl_bor (use_lo rfl) rfl rfl entl_nil)))
end Go.Ev
