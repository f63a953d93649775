/-
  The parts that the statement needs, 1 of 3.
-/
import Derived.IntWalk
import Derived.Test.YtndklmcnndilgaaEnv
import Derived.Test.YtndklmcnndilgaaEvY
import Derived.Test.YtndklmcnndilgaaKit
namespace Go.Ev
open Go.Proofs
open Go.IntWalk
set_option linter.unusedVariables false
set_option linter.unusedSimpArgs false
set_option maxRecDepth 100000
theorem SH : type_of% (And.intro @lim64 (And.intro @imp_false (And.intro @decide_eq_true_eq (And.intro @decide_eq_false_iff_not (And.intro @Int.toNat_natCast (And.intro @toNat_pred (And.intro @toNat_succ (And.intro @Option.getD_some.{0} (And.intro @Option.getD_none.{0} (And.intro @Bool.not_eq_true' (And.intro @Bool.not_eq_false' (And.intro @Bool.and_eq_true (And.intro @Bool.or_eq_true (And.intro @Bool.and_eq_false_iff (And.intro @Bool.or_eq_false_iff (And.intro @bne_iff_ne.{0} (And.intro @beq_iff_eq.{0} (And.intro @bne_eq_false_iff_eq.{0} (And.intro @beq_eq_false_iff_ne.{0} (And.intro @ne_eq.{1} (And.intro @not_and (And.intro @Int.not_le (And.intro @Int.not_lt (And.intro @ge_iff_le.{0} (And.intro @gt_iff_lt.{0} (And.intro @Nat.not_lt (And.intro @Nat.not_le (And.intro @Bool.not_eq_true (And.intro @Bool.not_eq_false (And.intro @Bool.true_eq_false (And.intro @Bool.false_eq_true (And.intro @not_false_eq_true @not_true_eq_false)))))))))))))))))))))))))))))))) :=
  (And.intro @lim64 (And.intro @imp_false (And.intro @decide_eq_true_eq (And.intro @decide_eq_false_iff_not (And.intro @Int.toNat_natCast (And.intro @toNat_pred (And.intro @toNat_succ (And.intro @Option.getD_some.{0} (And.intro @Option.getD_none.{0} (And.intro @Bool.not_eq_true' (And.intro @Bool.not_eq_false' (And.intro @Bool.and_eq_true (And.intro @Bool.or_eq_true (And.intro @Bool.and_eq_false_iff (And.intro @Bool.or_eq_false_iff (And.intro @bne_iff_ne.{0} (And.intro @beq_iff_eq.{0} (And.intro @bne_eq_false_iff_eq.{0} (And.intro @beq_eq_false_iff_ne.{0} (And.intro @ne_eq.{1} (And.intro @not_and (And.intro @Int.not_le (And.intro @Int.not_lt (And.intro @ge_iff_le.{0} (And.intro @gt_iff_lt.{0} (And.intro @Nat.not_lt (And.intro @Nat.not_le (And.intro @Bool.not_eq_true (And.intro @Bool.not_eq_false (And.intro @Bool.true_eq_false (And.intro @Bool.false_eq_true (And.intro @not_false_eq_true @not_true_eq_false))))))))))))))))))))))))))))))))
abbrev FS (t : Nat → Int) (a : Nat) : Nat → Int := fun j => t (j + a)
abbrev CB (m : Nat) (t : Nat → Int) : Blk := .cols m [.int .i64 t]
abbrev CI (L : List Int) : Blk := .cols L.length [.int .i64 fun j => S.at' L j]
abbrev HB (P : Program) (f : Nat) : Prop := ∃ F, P.funcs[f]? = some F ∧ F.body.isSome = true ∧ (F.name == "runtime.NumGoroutine") = false
abbrev TT := Bool → Prop → Prop → Prop
abbrev NI := Nat → Int
noncomputable def k111  : Con := ⟨11, [], fun _ => true, fun _ => .bool true, fun _ => [], fun _ _ => .dead⟩
theorem te111 (Kst : KS) (Kret : KR) : run cond Try.env true noX false 4000 ⟨11, [.cd (mkFn Try.f11).body], [], [[], []], 0⟩ (proj 0 [] Kst Kret) = Kret (.tf true) [[]] 211 := by kernel_rfl
theorem k111_ok  : k111.ok Try.prog := awake_ok (fn := mkFn Try.f11) (hi := 212) (n := 4000) Try.envOk Try.mixed noX_ok rfl (by decide) (by decide : Nat.ble 211 212 = true) te111
namespace S
def idx (p : Nat → Bool) : Nat → Nat → Int
  | _, 0 => -1
  | i, k + 1 => if p i = true then i else idx p (i + 1) k
def any (p : Nat → Bool) (n : Nat) : Bool := (List.range n).any p
def maxN (t : Nat → Int) : Nat → Int
  | 0 => t 0
  | n + 1 => max (maxN t n) (t (n + 1))
def minN (t : Nat → Int) : Nat → Int
  | 0 => t 0
  | n + 1 => min (minN t n) (t (n + 1))
end S
theorem any_iff  {p : Nat → Bool} {n : Nat} : S.any p n = true ↔ ∃ j, j < n ∧ p j = true := by simp [S.any]
theorem any_no  {p : Nat → Bool} {n : Nat} : S.any p n = false ↔ ∀ j, j < n → p j = false := by simp [S.any]
theorem idx_ge  {p : Nat → Bool} : ∀ {k i : Nat}, S.idx p i k = -1 ∨ ((i : Int) ≤ S.idx p i k ∧ S.idx p i k < i + k)
  | 0, i => .inl rfl
  | k + 1, i => by
    simp only [S.idx]
    split
    · exact .inr ⟨by omega, by omega⟩
    · rcases idx_ge (p := p) (k := k) (i := i + 1) with h | h
      · exact .inl h
      · exact .inr ⟨by omega, by omega⟩
theorem idx_no  {p : Nat → Bool} : ∀ {k i : Nat}, S.idx p i k = -1 ↔ ∀ j, i ≤ j → j < i + k → p j = false
  | 0, i => ⟨fun _ j h1 h2 => by omega, fun _ => rfl⟩
  | k + 1, i => by
    simp only [S.idx]
    split
    · rename_i h
      exact ⟨fun e => by omega, fun e => by rw [e i (Nat.le_refl _) (by omega)] at h; cases h⟩
    · rename_i h
      rw [idx_no]
      constructor
      · intro e j h1 h2
        by_cases hj : j = i
        · subst hj; simpa using h
        · exact e j (by omega) (by omega)
      · exact fun e j h1 h2 => e j (by omega) (by omega)
theorem idx_any  {p : Nat → Bool} {n : Nat} : decide (S.idx p 0 n ≥ 0) = S.any p n := by
  rw [Bool.eq_iff_iff, decide_eq_true_eq, any_iff]
  constructor
  · intro h
    by_cases hn : S.idx p 0 n = -1
    · omega
    · rw [idx_no] at hn
      simp only [Classical.not_forall] at hn
      obtain ⟨j, _, h2, h3⟩ := hn
      exact ⟨j, by omega, by simpa using h3⟩
  · rintro ⟨j, h1, h2⟩
    rcases idx_ge (p := p) (k := n) (i := 0) with h | h
    · rw [idx_no] at h
      rw [h j (by omega) (by omega)] at h2; cases h2
    · omega
theorem maxN_congr  {t u : Nat → Int} : ∀ {n : Nat}, (∀ j, j ≤ n → t j = u j) → S.maxN t n = S.maxN u n
  | 0, h => h 0 (Nat.le_refl _)
  | n + 1, h => by
    have e : S.maxN t n = S.maxN u n := maxN_congr fun j hj => h j (by omega)
    simp only [S.maxN, h (n + 1) (Nat.le_refl _), e]
theorem minN_congr  {t u : Nat → Int} : ∀ {n : Nat}, (∀ j, j ≤ n → t j = u j) → S.minN t n = S.minN u n
  | 0, h => h 0 (Nat.le_refl _)
  | n + 1, h => by
    have e : S.minN t n = S.minN u n := minN_congr fun j hj => h j (by omega)
    simp only [S.minN, h (n + 1) (Nat.le_refl _), e]
theorem nbeq_no  {i j : Nat} (h : j ≠ i) : Nat.beq j i = false := by
  cases hb : Nat.beq j i
  · rfl
  · exact absurd (Nat.eq_of_beq_eq_true hb) h
theorem upd_step  {α : Type} [Inhabited α] {n i : Nat} {f g : Nat → α} {v : α} (hv : v = g i) : (S.mkl n fun j => bif Nat.beq j i then v else S.at' (S.mkl n fun j => if j < i then g j else f j) j) = S.mkl n fun j => if j < i + 1 then g j else f j := by
  refine mkl_congr fun j hj => ?_
  by_cases h : j = i
  · subst h; rw [Nat.beq_refl, cond_true, if_pos (Nat.lt_succ_self _), hv]
  · rw [nbeq_no h, cond_false, at_mkl hj]
    by_cases h2 : j < i
    · rw [if_pos h2, if_pos (by omega)]
    · rw [if_neg h2, if_neg (by omega)]
theorem same_step  {α : Type} [Inhabited α] {n i : Nat} {f g : Nat → α} (hv : f i = g i) : (S.mkl n fun j => if j < i then g j else f j) = S.mkl n fun j => if j < i + 1 then g j else f j := by
  refine mkl_congr fun j hj => ?_
  by_cases h : j = i
  · subst h; rw [if_neg (Nat.lt_irrefl _), if_pos (Nat.lt_succ_self _), hv]
  · by_cases h2 : j < i
    · rw [if_pos h2, if_pos (by omega)]
    · rw [if_neg h2, if_neg (by omega)]
theorem upd_none  {α : Type} [Inhabited α] {n : Nat} {f g : Nat → α} : S.mkl n f = S.mkl n fun j => if j < 0 then g j else f j := mkl_congr fun j hj => (if_neg (Nat.not_lt_zero j)).symm
namespace S
def runN (p : Nat → Bool) : Nat → Nat → Nat
  | _, 0 => 0
  | i, k + 1 => if p i = true then runN p (i + 1) k + 1 else 0
def lowB (c : Int) : Bool := decide (97 ≤ c ∧ c ≤ 122)
def namB (c : Int) : Bool := decide ((97 ≤ c ∧ c ≤ 122) ∨ (48 ≤ c ∧ c ≤ 57) ∨ c = 95)
def isNam (s : ByteArray) : Bool := decide (1 ≤ s.size ∧ s.size ≤ 20) && (lowB (keys s 0) && decide (runN (fun j => namB (keys s j)) 0 s.size = s.size))
def all (p : Nat → Bool) (n : Nat) : Bool := (List.range n).all p
end S
theorem all_iff  {p : Nat → Bool} {n : Nat} : S.all p n = true ↔ ∀ j, j < n → p j = true := by simp [S.all]
theorem all_no  {p : Nat → Bool} {n i : Nat} (hi : i < n) (h : p i = false) : ¬ S.all p n = true := fun e => by rw [all_iff.mp e i hi] at h; cases h
theorem runN_le  {p : Nat → Bool} : ∀ {k i : Nat}, S.runN p i k ≤ k
  | 0, _ => Nat.le_refl _
  | k + 1, i => by
    simp only [S.runN]
    split
    · have := runN_le (p := p) (k := k) (i := i + 1); omega
    · omega
theorem runN_all  {p : Nat → Bool} : ∀ {k i : Nat}, S.runN p i k = k ↔ ∀ j, i ≤ j → j < i + k → p j = true
  | 0, i => ⟨fun _ j h1 h2 => by omega, fun _ => rfl⟩
  | k + 1, i => by
    simp only [S.runN]
    have hl := runN_le (p := p) (k := k) (i := i + 1)
    constructor
    · intro h j h1 h2
      split at h
      · rename_i h0
        rcases Nat.lt_or_ge i j with h3 | h3
        · exact (runN_all (k := k) (i := i + 1)).1 (by omega) j h3 (by omega)
        · obtain rfl : j = i := by omega
          exact h0
      · omega
    · intro h
      rw [if_pos (h i (Nat.le_refl _) (by omega)), (runN_all (k := k) (i := i + 1)).2 fun j h1 h2 => h j (by omega) (by omega)]
theorem size_nil  {s : ByteArray} : (s.toList == []) = decide (s.size = 0) := by
  rw [ByteArray.toList_eq, Bool.eq_iff_iff, beq_iff_eq, decide_eq_true_eq]
  have : s.size = s.data.toList.length := rfl
  rw [this, List.length_eq_zero_iff]
inductive St157 where
  | h0 (x0 : Int)
abbrev Rt157  := Int
noncomputable def V157 (ws : ByteArray) (fr : Int) (r : Rt157) : PV := PV.int .i64 r
noncomputable def N157 (ws : ByteArray) (fr : Int) (r : Rt157) : List Blk := []
noncomputable def I157 (ws : ByteArray) (fr : Int) : St157 → Hd
  | .h0 x0 => ⟨hd Try.f57 0, [PV.str ws, PV.int .i64 fr, PV.fn (Go.Fn.func (58)) [] [],
 PV.int .i64 x0], [[], []], 0⟩
noncomputable def q157 (ws : ByteArray) (fr : Int) : St157 → Option (St157 ⊕ Rt157) | .h0 x0 => bif (lim .i64 (fr + x0)) then (bif (decide (fr + x0 < (↑(ByteArray.size ws) : Int))) then (bif (decide ((0 : Int) ≤ fr + x0 ∧ fr + x0 < (↑(ByteArray.size ws) : Int))) then (bif (decide (keys ws (Int.toNat (fr + x0)) ≥ 97)) then (bif (decide (keys ws (Int.toNat (fr + x0)) ≤ 122)) then (bif (lim .i64 (x0 + 1)) then (some (.inl (.h0 (x0 + 1)))) else (none)) else (bif (decide (keys ws (Int.toNat (fr + x0)) ≥ 48)) then (bif (decide (keys ws (Int.toNat (fr + x0)) ≤ 57)) then (bif (lim .i64 (x0 + 1)) then (some (.inl (.h0 (x0 + 1)))) else (none)) else (bif (keys ws (Int.toNat (fr + x0)) == 95) then (bif (lim .i64 (x0 + 1)) then (some (.inl (.h0 (x0 + 1)))) else (none)) else (some (.inr (x0))))) else (bif (keys ws (Int.toNat (fr + x0)) == 95) then (bif (lim .i64 (x0 + 1)) then (some (.inl (.h0 (x0 + 1)))) else (none)) else (some (.inr (x0)))))) else (bif (decide (keys ws (Int.toNat (fr + x0)) ≥ 48)) then (bif (decide (keys ws (Int.toNat (fr + x0)) ≤ 57)) then (bif (lim .i64 (x0 + 1)) then (some (.inl (.h0 (x0 + 1)))) else (none)) else (bif (keys ws (Int.toNat (fr + x0)) == 95) then (bif (lim .i64 (x0 + 1)) then (some (.inl (.h0 (x0 + 1)))) else (none)) else (some (.inr (x0))))) else (bif (keys ws (Int.toNat (fr + x0)) == 95) then (bif (lim .i64 (x0 + 1)) then (some (.inl (.h0 (x0 + 1)))) else (none)) else (some (.inr (x0)))))) else (none)) else (some (.inr (x0)))) else (none)
noncomputable def p157 (ws : ByteArray) (fr : Int) : Option (St157 ⊕ Rt157) := some (.inl (.h0 ((0 : Int))))
def Te157 (test : TT) (Kst : KS) (Kret : KR) (ws : ByteArray) (fr : Int) : Prop := Kst (hd Try.f57 0) ([PV.str ws, PV.int .i64 fr, PV.fn (Go.Fn.func (58)) [] [], PV.int .i64 (0 : Int)]) ([[]]) (0)
theorem te157 (test : TT) (Kst : KS) (Kret : KR) (ws : ByteArray) (fr : Int) : run test Try.env true noX true 400 ⟨57, [.cd (mkFn Try.f57).body], argT 0 [.str ws, .int .i64 fr, .fn (.func 58) [] []], [[], []], 0⟩ (proj 0 [0, 1, 2, 7] Kst Kret) =
  Te157 test Kst Kret ws fr := by kernel_rfl
noncomputable abbrev u157_0_0 (ws : ByteArray) (fr x0 : Int) := ([PV.str ws, PV.int IntKind.i64 fr, PV.fn (Go.Fn.func (58)) [] [], PV.int IntKind.i64 (x0 + (1 : Int))])
def T157_0 (test : TT) (Kst : KS) (Kret : KR) (ws : ByteArray) (fr x0 : Int) : Prop := test (lim .i64 (fr + x0)) (test (decide (fr + x0 < (↑(ByteArray.size ws) : Int))) (test (lim .i64 (fr + x0)) (test (decide ((0 : Int) ≤ fr + x0 ∧ fr + x0 < (↑(ByteArray.size ws) : Int))) (test (decide (keys ws (Int.toNat (fr + x0)) ≥ 97)) (test (decide (keys ws (Int.toNat (fr + x0)) ≤ 122)) (test (lim .i64 (x0 + 1)) (Kst (hd Try.f57 0) (u157_0_0 ws fr x0) ([[]]) (0)) (False)) (test (decide (keys ws (Int.toNat (fr + x0)) ≥ 48)) (test (decide (keys ws (Int.toNat (fr + x0)) ≤ 57)) (test (lim .i64 (x0 + 1)) (Kst (hd Try.f57 0) (u157_0_0 ws fr x0) ([[]]) (0)) (False)) (test (keys ws (Int.toNat (fr + x0)) == 95) (test (lim .i64 (x0 + 1)) (Kst (hd Try.f57 0) (u157_0_0 ws fr x0) ([[]]) (0)) (False)) (Kret (PV.int .i64 x0) ([[]]) (0)))) (test (keys ws (Int.toNat (fr + x0)) == 95) (test (lim .i64 (x0 + 1)) (Kst (hd Try.f57 0) (u157_0_0 ws fr x0) ([[]]) (0)) (False)) (Kret (PV.int .i64 x0) ([[]]) (0))))) (test (decide (keys ws (Int.toNat (fr + x0)) ≥ 48)) (test (decide (keys ws (Int.toNat (fr + x0)) ≤ 57)) (test (lim .i64 (x0 + 1)) (Kst (hd Try.f57 0) (u157_0_0 ws fr x0) ([[]]) (0)) (False)) (test (keys ws (Int.toNat (fr + x0)) == 95) (test (lim .i64 (x0 + 1)) (Kst (hd Try.f57 0) (u157_0_0 ws fr x0) ([[]]) (0)) (False)) (Kret (PV.int .i64 x0) ([[]]) (0)))) (test (keys ws (Int.toNat (fr + x0)) == 95) (test (lim .i64 (x0 + 1)) (Kst (hd Try.f57 0) (u157_0_0 ws fr x0) ([[]]) (0)) (False)) (Kret (PV.int .i64 x0) ([[]]) (0))))) (False)) (False)) (Kret (PV.int .i64 x0) ([[]]) (0))) (False)
theorem t157_0 (test : TT) (Kst : KS) (Kret : KR) (ws : ByteArray) (fr x0 : Int) : run test Try.env true noX true 400 ⟨57, hd Try.f57 0, zipT [0, 1, 2, 7] [PV.str ws, PV.int .i64 fr, PV.fn (Go.Fn.func (58)) [] [],
 PV.int .i64 x0], [[], []], 0⟩ (proj 0 [0, 1, 2, 7] Kst Kret) =
  T157_0 test Kst Kret ws fr x0 := by kernel_rfl
noncomputable abbrev J157 (ws : ByteArray) (fr : Int) : Rt157 → Heap := fun r => [newL (0 + 1) ((N157 ws fr) r) ++ []]
attribute [local irreducible] Int.subNatNat in
theorem be157 (ws : ByteArray) (fr : Int) (Kst : KS) (Kret : KR) (x : St157 ⊕ Rt157) (hS : HS 0 400 ((I157 ws fr)) Kst x) (hR : HR 0 400 ((V157 ws fr)) (J157 ws fr) Kret x) (h : (some (.inl (.h0 ((0 : Int)))) : Option (St157 ⊕ Rt157)) = some x) : Te157 cond Kst Kret ws fr := by
  unfold Te157
  exact stop_at hS _ h (fun n => n) rfl rfl rfl ⟨(rn_str rfl), ⟨(rn_int rfl), ⟨(rn_fn trivial trivial), ⟨(rn_int rfl), trivial⟩⟩⟩⟩ rfl entl_nil
attribute [local irreducible] Int.subNatNat in
theorem b157_0 (ws : ByteArray) (fr : Int) (Kst : KS) (Kret : KR) (x : St157 ⊕ Rt157) (hS : HS 0 400 ((I157 ws fr)) Kst x) (hR : HR 0 400 ((V157 ws fr)) (J157 ws fr) Kret x) (x0 : Int) (h : q157 ws fr (.h0 x0) = some x) : T157_0 cond Kst Kret ws fr x0 := by
  unfold T157_0
  rw [q157] at h
  refine bif_split h (fun c0 h => bif_split h (fun c1 h => cond_yes c0 (bif_split h (fun c2 h => bif_split h (fun c3 h => bif_split h (fun c4 h => bif_split h (fun c5 h => ?_) (fun c5 h => ?_)) (fun c4 h => bif_split h (fun c5 h => bif_split h (fun c6 h => bif_split h (fun c7 h => ?_) (fun c7 h => ?_)) (fun c6 h => bif_split h (fun c7 h => bif_split h (fun c8 h => ?_) (fun c8 h => ?_)) (fun c7 h => ?_))) (fun c5 h => bif_split h (fun c6 h => bif_split h (fun c7 h => ?_) (fun c7 h => ?_)) (fun c6 h => ?_)))) (fun c3 h => bif_split h (fun c4 h => bif_split h (fun c5 h => bif_split h (fun c6 h => ?_) (fun c6 h => ?_)) (fun c5 h => bif_split h (fun c6 h => bif_split h (fun c7 h => ?_) (fun c7 h => ?_)) (fun c6 h => ?_))) (fun c4 h => bif_split h (fun c5 h => bif_split h (fun c6 h => ?_) (fun c6 h => ?_)) (fun c5 h => ?_)))) (fun c2 h => ?_))) (fun c1 h => ?_)) (fun c0 h => ?_)
  all_goals first
    | exact no_some h
    | exact stop_at hS _ h (fun n => n) rfl rfl rfl ⟨(rn_str rfl), ⟨(rn_int rfl), ⟨(rn_fn trivial trivial), ⟨(rn_int rfl), trivial⟩⟩⟩⟩ rfl entl_nil
    | exact ret_at hR _ h (fun n => n) rfl rfl rfl (rn_int rfl) rfl entl_nil
theorem a157 (ws : ByteArray) (fr : Int) {r : Rt157} (h : Goes ((q157 ws fr)) ((p157 ws fr)) r) : CallR Try.prog 57 [.str ws, .int .i64 fr, .fn (.func 58) [] []] [[]] 0 ((V157 ws fr) r) ((J157 ws fr) r) 400 ∧ ∃ F, Try.prog.funcs[57]? = some F ∧ F.body.isSome = true ∧ (F.name == "runtime.NumGoroutine") = false := by
  refine dec_calls (f := 57) (lo := 0) (hi := 400) (H := [[]]) (args := [.str ws, .int .i64 fr, .fn (.func 58) [] []]) Try.envOk Try.mixed noX_ok ((I157 ws fr)) ((V157 ws fr)) (J157 ws fr) (fn := mkFn Try.f57) (ts := [0, 1, 2, 7]) (n := 400) rfl (by decide) (by simp) (names_of rfl) ?_ ?_ ?_ h
  · intro s; cases s <;> exact ⟨hd_ok _ _, by simp [I157], names_of rfl, Nat.le_of_ble_eq_true rfl⟩
  · intro Kst Kret x hS hR h
    exact Holds.eq (te157 cond Kst Kret ws fr) (be157 ws fr Kst Kret x hS hR h)
  · intro Kst Kret x hS hR s h
    cases s with
    | h0 x0 => exact Holds.eq (t157_0 cond Kst Kret ws fr x0) (b157_0 ws fr Kst Kret x hS hR x0 h)
noncomputable abbrev w157 {α : Type} (g : ByteArray → Int → α) (x : ByteArray × Int × (Unit) × Unit) : α := g x.1 x.2.1
noncomputable def k157  : Con := ⟨57, [.one (.plain (.str)), .one (.plain (.int .i64)), .fn 58 []], w157 (fun ws fr => decide (ws.size ≤ 1000 ∧ fr = 0)), w157 (fun ws fr => (V157 ws fr) (((S.runN (fun j => S.namB (keys ws j)) 0 ws.size : Nat) : Int))), w157 (fun ws fr => (N157 ws fr) (((S.runN (fun j => S.namB (keys ws j)) 0 ws.size : Nat) : Int))), fun _ _ => .dead⟩
theorem s157' (ws : ByteArray) (fr : Int) (hp : ws.size ≤ 1000) (hf : fr = 0) : ∀ k i : Nat, i + k = ws.size → Comes (q157 ws fr) (.h0 (i : Int)) (((i + S.runN (fun j => S.namB (keys ws j)) i k : Nat)) : Int) := by
  intro k
  induction k with
  | zero =>
    intro i hi
    apply Comes.of
    show Goes _ _ _
    (first | rw [q157] | unfold q157)
    repeat' (first | with_reducible refine goes_if (fun h => ?_) (fun h => ?_) <;> (try simp only [SH] at h) | exact goes_none.mpr (by omega))
    all_goals first | (exfalso; omega) | rfl
  | succ k ih =>
    intro i hi
    have ih := ih (i + 1) (by omega)
    have e0 : (0 : Int) + (i : Int) = i := Int.zero_add _
    simp only [S.runN]
    by_cases hc : (fun j => S.namB (keys ws j)) i = true
    · rw [if_pos hc]
      rw [show i + 1 + S.runN (fun j => S.namB (keys ws j)) (i + 1) k = i + (S.runN (fun j => S.namB (keys ws j)) (i + 1) k + 1) by omega] at ih
      simp only [S.namB, decide_eq_true_eq] at hc
      subst hf
      apply Comes.of
      show Goes _ _ _
      (first | rw [q157] | unfold q157)
      repeat' (first | with_reducible refine goes_if (fun h => ?_) (fun h => ?_) <;> (try simp only [SH, e0] at h) | exact goes_none.mpr (by omega))
      all_goals first | (exfalso; omega) | exact ih | (exfalso; simp_all; done) | (exfalso; simp_all; omega)
    · rw [if_neg hc]
      simp only [S.namB, decide_eq_true_eq] at hc
      subst hf
      apply Comes.of
      show Goes _ _ _
      (first | rw [q157] | unfold q157)
      repeat' (first | with_reducible refine goes_if (fun h => ?_) (fun h => ?_) <;> (try simp only [SH, e0] at h) | exact goes_none.mpr (by omega))
      all_goals first | (exfalso; omega) | (exact goes_inr.mpr rfl) | (exfalso; simp_all; done) | (exfalso; simp_all; omega)
theorem s157 (ws : ByteArray) (fr : Int) (hp : ws.size ≤ 1000 ∧ fr = 0) : Goes ((q157 ws fr)) ((p157 ws fr)) (((S.runN (fun j => S.namB (keys ws j)) 0 ws.size : Nat) : Int)) := by
  obtain ⟨hp1, hp2⟩ := hp
  have hm := s157' ws fr hp1 hp2 ws.size 0 (by omega)
  rw [Nat.zero_add] at hm
  show Goes _ _ _
  unfold p157
  repeat' (first | with_reducible refine goes_if (fun h => ?_) (fun h => ?_) <;> (try simp only [SH] at h) | exact goes_none.mpr (by omega))
  all_goals first | (exfalso; omega) | exact hm
theorem k157_ok  : k157.ok Try.prog := by
  intro x hx
  obtain ⟨ws, fr, ⟨_⟩, _⟩ := x
  obtain ⟨h1, h2⟩ := a157 ws fr (s157 ws fr (of_dec hx rfl))
  exact ⟨⟨400, (by decide : 0 + 1 + 0 ≤ 400), h1⟩, h2⟩
inductive St159 where
  | h0 (x0 : Int)
abbrev Rt159  := Int
noncomputable def V159 (ws : ByteArray) (r : Rt159) : PV := PV.int .i64 r
noncomputable def N159 (ws : ByteArray) (r : Rt159) : List Blk := []
noncomputable def I159 (ws : ByteArray) : St159 → Hd
  | .h0 x0 => ⟨hd Try.f59 0, [PV.str ws, PV.int .i64 x0], [[], []], 0⟩
noncomputable def q159 (ws : ByteArray) : St159 → Option (St159 ⊕ Rt159) | .h0 x0 => bif (decide (x0 < (↑(ByteArray.size ws) : Int))) then (bif (decide ((0 : Int) ≤ x0 ∧ x0 < (↑(ByteArray.size ws) : Int))) then (bif (decide (keys ws (Int.toNat x0) ≥ 97)) then (bif (decide (keys ws (Int.toNat x0) ≤ 122)) then (bif (lim .i64 (x0 + 1)) then (some (.inl (.h0 (x0 + 1)))) else (none)) else (bif (decide (x0 > 0)) then (bif (decide (keys ws (Int.toNat x0) ≥ 48)) then (bif (decide (keys ws (Int.toNat x0) ≤ 57)) then (bif (lim .i64 (x0 + 1)) then (some (.inl (.h0 (x0 + 1)))) else (none)) else (bif (keys ws (Int.toNat x0) == 95) then (bif (lim .i64 (x0 + 1)) then (some (.inl (.h0 (x0 + 1)))) else (none)) else (some (.inr (x0))))) else (bif (keys ws (Int.toNat x0) == 95) then (bif (lim .i64 (x0 + 1)) then (some (.inl (.h0 (x0 + 1)))) else (none)) else (some (.inr (x0))))) else (some (.inr (x0))))) else (bif (decide (x0 > 0)) then (bif (decide (keys ws (Int.toNat x0) ≥ 48)) then (bif (decide (keys ws (Int.toNat x0) ≤ 57)) then (bif (lim .i64 (x0 + 1)) then (some (.inl (.h0 (x0 + 1)))) else (none)) else (bif (keys ws (Int.toNat x0) == 95) then (bif (lim .i64 (x0 + 1)) then (some (.inl (.h0 (x0 + 1)))) else (none)) else (some (.inr (x0))))) else (bif (keys ws (Int.toNat x0) == 95) then (bif (lim .i64 (x0 + 1)) then (some (.inl (.h0 (x0 + 1)))) else (none)) else (some (.inr (x0))))) else (some (.inr (x0))))) else (none)) else (some (.inr (x0)))
noncomputable def p159 (ws : ByteArray) : Option (St159 ⊕ Rt159) := some (.inl (.h0 ((0 : Int))))
def Te159 (test : TT) (Kst : KS) (Kret : KR) (ws : ByteArray) : Prop := Kst (hd Try.f59 0) ([PV.str ws, PV.int .i64 (0 : Int)]) ([[]]) (0)
theorem te159 (test : TT) (Kst : KS) (Kret : KR) (ws : ByteArray) : run test Try.env true noX true 400 ⟨59, [.cd (mkFn Try.f59).body], argT 0 [.str ws], [[], []], 0⟩ (proj 0 [0, 3] Kst Kret) =
  Te159 test Kst Kret ws := by kernel_rfl
noncomputable abbrev u159_0_0 (ws : ByteArray) (x0 : Int) := decide ((0 : Int) ≤ x0 ∧ x0 < (↑(ByteArray.size ws) : Int))
noncomputable abbrev u159_0_1 (ws : ByteArray) (x0 : Int) := ([PV.str ws, PV.int IntKind.i64 (x0 + (1 : Int))])
def T159_0 (test : TT) (Kst : KS) (Kret : KR) (ws : ByteArray) (x0 : Int) : Prop := test (decide (x0 < (↑(ByteArray.size ws) : Int))) (test (u159_0_0 ws x0) (test (decide (keys ws (Int.toNat x0) ≥ 97)) (test (decide (keys ws (Int.toNat x0) ≤ 122)) (test (lim .i64 (x0 + 1)) (Kst (hd Try.f59 0) (u159_0_1 ws x0) ([[]]) (0)) (False)) (test (decide (x0 > 0)) (test (u159_0_0 ws x0) (test (decide (keys ws (Int.toNat x0) ≥ 48)) (test (decide (keys ws (Int.toNat x0) ≤ 57)) (test (lim .i64 (x0 + 1)) (Kst (hd Try.f59 0) (u159_0_1 ws x0) ([[]]) (0)) (False)) (test (u159_0_0 ws x0) (test (keys ws (Int.toNat x0) == 95) (test (lim .i64 (x0 + 1)) (Kst (hd Try.f59 0) (u159_0_1 ws x0) ([[]]) (0)) (False)) (Kret (PV.int .i64 x0) ([[]]) (0))) (False))) (test (u159_0_0 ws x0) (test (keys ws (Int.toNat x0) == 95) (test (lim .i64 (x0 + 1)) (Kst (hd Try.f59 0) (u159_0_1 ws x0) ([[]]) (0)) (False)) (Kret (PV.int .i64 x0) ([[]]) (0))) (False))) (False)) (Kret (PV.int .i64 x0) ([[]]) (0)))) (test (decide (x0 > 0)) (test (u159_0_0 ws x0) (test (decide (keys ws (Int.toNat x0) ≥ 48)) (test (decide (keys ws (Int.toNat x0) ≤ 57)) (test (lim .i64 (x0 + 1)) (Kst (hd Try.f59 0) (u159_0_1 ws x0) ([[]]) (0)) (False)) (test (u159_0_0 ws x0) (test (keys ws (Int.toNat x0) == 95) (test (lim .i64 (x0 + 1)) (Kst (hd Try.f59 0) (u159_0_1 ws x0) ([[]]) (0)) (False)) (Kret (PV.int .i64 x0) ([[]]) (0))) (False))) (test (u159_0_0 ws x0) (test (keys ws (Int.toNat x0) == 95) (test (lim .i64 (x0 + 1)) (Kst (hd Try.f59 0) (u159_0_1 ws x0) ([[]]) (0)) (False)) (Kret (PV.int .i64 x0) ([[]]) (0))) (False))) (False)) (Kret (PV.int .i64 x0) ([[]]) (0)))) (False)) (Kret (PV.int .i64 x0) ([[]]) (0))
theorem t159_0 (test : TT) (Kst : KS) (Kret : KR) (ws : ByteArray) (x0 : Int) : run test Try.env true noX true 400 ⟨59, hd Try.f59 0, zipT [0, 3] [PV.str ws, PV.int .i64 x0], [[], []], 0⟩ (proj 0 [0, 3] Kst Kret) =
  T159_0 test Kst Kret ws x0 := by kernel_rfl
noncomputable abbrev J159 (ws : ByteArray) : Rt159 → Heap := fun r => [newL (0 + 1) ((N159 ws) r) ++ []]
attribute [local irreducible] Int.subNatNat in
theorem be159 (ws : ByteArray) (Kst : KS) (Kret : KR) (x : St159 ⊕ Rt159) (hS : HS 0 400 ((I159 ws)) Kst x) (hR : HR 0 400 ((V159 ws)) (J159 ws) Kret x) (h : (some (.inl (.h0 ((0 : Int)))) : Option (St159 ⊕ Rt159)) = some x) : Te159 cond Kst Kret ws := by
  unfold Te159
  exact stop_at hS _ h (fun n => n) rfl rfl rfl ⟨(rn_str rfl), ⟨(rn_int rfl), trivial⟩⟩ rfl entl_nil
attribute [local irreducible] Int.subNatNat in
theorem b159_0 (ws : ByteArray) (Kst : KS) (Kret : KR) (x : St159 ⊕ Rt159) (hS : HS 0 400 ((I159 ws)) Kst x) (hR : HR 0 400 ((V159 ws)) (J159 ws) Kret x) (x0 : Int) (h : q159 ws (.h0 x0) = some x) : T159_0 cond Kst Kret ws x0 := by
  unfold T159_0
  rw [q159] at h
  refine bif_split h (fun c0 h => bif_split h (fun c1 h => bif_split h (fun c2 h => bif_split h (fun c3 h => bif_split h (fun c4 h => ?_) (fun c4 h => ?_)) (fun c3 h => bif_split h (fun c4 h => cond_yes c1 (bif_split h (fun c5 h => bif_split h (fun c6 h => bif_split h (fun c7 h => ?_) (fun c7 h => ?_)) (fun c6 h => cond_yes c1 (bif_split h (fun c7 h => bif_split h (fun c8 h => ?_) (fun c8 h => ?_)) (fun c7 h => ?_)))) (fun c5 h => cond_yes c1 (bif_split h (fun c6 h => bif_split h (fun c7 h => ?_) (fun c7 h => ?_)) (fun c6 h => ?_))))) (fun c4 h => ?_))) (fun c2 h => bif_split h (fun c3 h => cond_yes c1 (bif_split h (fun c4 h => bif_split h (fun c5 h => bif_split h (fun c6 h => ?_) (fun c6 h => ?_)) (fun c5 h => cond_yes c1 (bif_split h (fun c6 h => bif_split h (fun c7 h => ?_) (fun c7 h => ?_)) (fun c6 h => ?_)))) (fun c4 h => cond_yes c1 (bif_split h (fun c5 h => bif_split h (fun c6 h => ?_) (fun c6 h => ?_)) (fun c5 h => ?_))))) (fun c3 h => ?_))) (fun c1 h => ?_)) (fun c0 h => ?_)
  all_goals first
    | exact no_some h
    | exact stop_at hS _ h (fun n => n) rfl rfl rfl ⟨(rn_str rfl), ⟨(rn_int rfl), trivial⟩⟩ rfl entl_nil
    | exact ret_at hR _ h (fun n => n) rfl rfl rfl (rn_int rfl) rfl entl_nil
theorem a159 (ws : ByteArray) {r : Rt159} (h : Goes ((q159 ws)) ((p159 ws)) r) : CallR Try.prog 59 [.str ws] [[]] 0 ((V159 ws) r) ((J159 ws) r) 400 ∧ ∃ F, Try.prog.funcs[59]? = some F ∧ F.body.isSome = true ∧ (F.name == "runtime.NumGoroutine") = false := by
  refine dec_calls (f := 59) (lo := 0) (hi := 400) (H := [[]]) (args := [.str ws]) Try.envOk Try.mixed noX_ok ((I159 ws)) ((V159 ws)) (J159 ws) (fn := mkFn Try.f59) (ts := [0, 3]) (n := 400) rfl (by decide) (by simp) (names_of rfl) ?_ ?_ ?_ h
  · intro s; cases s <;> exact ⟨hd_ok _ _, by simp [I159], names_of rfl, Nat.le_of_ble_eq_true rfl⟩
  · intro Kst Kret x hS hR h
    exact Holds.eq (te159 cond Kst Kret ws) (be159 ws Kst Kret x hS hR h)
  · intro Kst Kret x hS hR s h
    cases s with
    | h0 x0 => exact Holds.eq (t159_0 cond Kst Kret ws x0) (b159_0 ws Kst Kret x hS hR x0 h)
noncomputable abbrev w159 {α : Type} (g : ByteArray → α) (x : ByteArray × Unit) : α := g x.1
noncomputable def k159  : Con := ⟨59, [.one (.plain (.str))], w159 (fun ws => decide (ws.size ≤ 1000)), w159 (fun ws => (V159 ws) (((S.runN (fun j => if j = 0 then S.lowB (keys ws j) else S.namB (keys ws j)) 0 ws.size : Nat) : Int))), w159 (fun ws => (N159 ws) (((S.runN (fun j => if j = 0 then S.lowB (keys ws j) else S.namB (keys ws j)) 0 ws.size : Nat) : Int))), fun _ _ => .dead⟩
theorem s159' (ws : ByteArray) (hp : ws.size ≤ 1000) : ∀ k i : Nat, i + k = ws.size → Comes (q159 ws) (.h0 (i : Int)) (((i + S.runN (fun j => if j = 0 then S.lowB (keys ws j) else S.namB (keys ws j)) i k : Nat)) : Int) := by
  intro k
  induction k with
  | zero =>
    intro i hi
    apply Comes.of
    show Goes _ _ _
    (first | rw [q159] | unfold q159)
    repeat' (first | with_reducible refine goes_if (fun h => ?_) (fun h => ?_) <;> (try simp only [SH] at h) | exact goes_none.mpr (by omega))
    all_goals first | (exfalso; omega) | rfl
  | succ k ih =>
    intro i hi
    have ih := ih (i + 1) (by omega)
    have e0 : (0 : Int) + (i : Int) = i := Int.zero_add _
    simp only [S.runN]
    by_cases hc : (fun j => if j = 0 then S.lowB (keys ws j) else S.namB (keys ws j)) i = true
    · rw [if_pos hc]
      rw [show i + 1 + S.runN (fun j => if j = 0 then S.lowB (keys ws j) else S.namB (keys ws j)) (i + 1) k = i + (S.runN (fun j => if j = 0 then S.lowB (keys ws j) else S.namB (keys ws j)) (i + 1) k + 1) by omega] at ih
      by_cases h0 : i = 0
      · subst h0; simp only [if_true, S.lowB, decide_eq_true_eq] at hc
        apply Comes.of
        show Goes _ _ _
        (first | rw [q159] | unfold q159)
        repeat' (first | with_reducible refine goes_if (fun h => ?_) (fun h => ?_) <;> (try simp only [SH] at h) | exact goes_none.mpr (by omega))
        all_goals first | (exfalso; omega) | exact ih | (exact goes_inr.mpr rfl)
      simp only [h0, if_false, S.namB, decide_eq_true_eq] at hc
      apply Comes.of
      show Goes _ _ _
      (first | rw [q159] | unfold q159)
      repeat' (first | with_reducible refine goes_if (fun h => ?_) (fun h => ?_) <;> (try simp only [SH, e0] at h) | exact goes_none.mpr (by omega))
      all_goals first | (exfalso; omega) | exact ih | (exfalso; simp_all; done) | (exfalso; simp_all; omega)
    · rw [if_neg hc]
      by_cases h0 : i = 0
      · subst h0; simp only [if_true, S.lowB, decide_eq_true_eq] at hc
        apply Comes.of
        show Goes _ _ _
        (first | rw [q159] | unfold q159)
        repeat' (first | with_reducible refine goes_if (fun h => ?_) (fun h => ?_) <;> (try simp only [SH] at h) | exact goes_none.mpr (by omega))
        all_goals first | (exfalso; omega) | exact ih | (exact goes_inr.mpr rfl)
      simp only [h0, if_false, S.namB, decide_eq_true_eq] at hc
      apply Comes.of
      show Goes _ _ _
      (first | rw [q159] | unfold q159)
      repeat' (first | with_reducible refine goes_if (fun h => ?_) (fun h => ?_) <;> (try simp only [SH, e0] at h) | exact goes_none.mpr (by omega))
      all_goals first | (exfalso; omega) | (exact goes_inr.mpr rfl) | (exfalso; simp_all; done) | (exfalso; simp_all; omega)
theorem s159 (ws : ByteArray) (hp : ws.size ≤ 1000) : Goes ((q159 ws)) ((p159 ws)) (((S.runN (fun j => if j = 0 then S.lowB (keys ws j) else S.namB (keys ws j)) 0 ws.size : Nat) : Int)) := by
  have hm := s159' ws hp ws.size 0 (by omega)
  rw [Nat.zero_add] at hm
  show Goes _ _ _
  unfold p159
  repeat' (first | with_reducible refine goes_if (fun h => ?_) (fun h => ?_) <;> (try simp only [SH] at h) | exact goes_none.mpr (by omega))
  all_goals first | (exfalso; omega) | exact hm
theorem k159_ok  : k159.ok Try.prog := by
  intro x hx
  obtain ⟨ws, _⟩ := x
  obtain ⟨h1, h2⟩ := a159 ws (s159 ws (of_dec hx rfl))
  exact ⟨⟨400, (by decide : 0 + 1 + 0 ≤ 400), h1⟩, h2⟩
noncomputable def xN0 (test : Bool → Prop → Prop → Prop) : Ext := consX test [k157, k159]
theorem xN0_ok  : ExtOk Try.prog (xN0 cond) := consX_ok ⟨k157_ok, k159_ok, trivial⟩
abbrev St137  := Empty
abbrev Rt137  := Bool
noncomputable def V137 (ws : ByteArray) (r : Rt137) : PV := PV.bool r
noncomputable def N137 (ws : ByteArray) (r : Rt137) : List Blk := []
noncomputable def I137 (ws : ByteArray) : St137 → Hd := fun s => s.elim
noncomputable def q137 (ws : ByteArray) : St137 → Option (St137 ⊕ Rt137) := fun s => s.elim
noncomputable def p137 (ws : ByteArray) : Option (St137 ⊕ Rt137) := bif (!S.eqS ws (ByteArray.mk #[])) then (bif (decide ((↑(ByteArray.size ws) : Int) ≤ 20)) then (bif (decide ((0 : Int) ≤ 0 ∧ (0 : Int) < (↑(ByteArray.size ws) : Int))) then (bif (decide (keys ws (0) ≥ 97)) then (bif (decide (keys ws (0) ≤ 122)) then (bif (decide (ByteArray.size ws ≤ 1000 ∧ (0 : Int) = 0)) then (bif ((↑(S.runN (fun j => S.namB (keys ws j)) (0) (ByteArray.size ws)) : Int) == (↑(ByteArray.size ws) : Int)) then (some (.inr (true))) else (some (.inr (false)))) else (none)) else (some (.inr (false)))) else (some (.inr (false)))) else (none)) else (some (.inr (false)))) else (some (.inr (false)))
def Te137 (test : TT) (Kst : KS) (Kret : KR) (ws : ByteArray) : Prop := test (!S.eqS ws (ByteArray.mk #[])) (test (decide ((↑(ByteArray.size ws) : Int) ≤ 20)) (test (decide ((0 : Int) ≤ 0 ∧ (0 : Int) < (↑(ByteArray.size ws) : Int))) (test (decide (keys ws (0) ≥ 97)) (test (decide (keys ws (0) ≤ 122)) (test (decide (ByteArray.size ws ≤ 1000 ∧ (0 : Int) = 0)) (test ((↑(S.runN (fun j => S.namB (keys ws j)) (0) (ByteArray.size ws)) : Int) == (↑(ByteArray.size ws) : Int)) (Kret (PV.tf true) ([[]]) (1)) (Kret (PV.tf false) ([[]]) (1))) (False)) (Kret (PV.tf false) ([[]]) (0))) (Kret (PV.tf false) ([[]]) (0))) (False)) (Kret (PV.tf false) ([[]]) (0))) (Kret (PV.tf false) ([[]]) (0))
theorem te137 (test : TT) (Kst : KS) (Kret : KR) (ws : ByteArray) : run test Try.env true (xN0 test) true 400 ⟨37, [.cd (mkFn Try.f37).body], argT 0 [.str ws], [[], []], 0⟩ (proj 0 [] Kst Kret) =
  Te137 test Kst Kret ws := by kernel_rfl
attribute [local irreducible] Int.subNatNat in
theorem be137 (ws : ByteArray) (Kst : KS) (Kret : KR) (x : St137 ⊕ Rt137) (hS : HS 0 400 ((I137 ws)) Kst x) (hR : HR 0 400 ((V137 ws)) (fun r => [newL (0 + 1) ((N137 ws) r) ++ []]) Kret x) (h : p137 ws = some x) : Te137 cond Kst Kret ws := by
  unfold Te137
  unfold p137 at h
  refine bif_split h (fun c0 h => bif_split h (fun c1 h => bif_split h (fun c2 h => bif_split h (fun c3 h => bif_split h (fun c4 h => bif_split h (fun c5 h => bif_split h (fun c6 h => ?_) (fun c6 h => ?_)) (fun c5 h => ?_)) (fun c4 h => ?_)) (fun c3 h => ?_)) (fun c2 h => ?_)) (fun c1 h => ?_)) (fun c0 h => ?_)
  all_goals first
    | exact ret_at hR _ h (fun n => n) rfl rfl rfl (rn_bool_tf rfl) rfl entl_nil
    | exact no_some h
theorem a137 (ws : ByteArray) {r : Rt137} (h : Goes ((q137 ws)) ((p137 ws)) r) : CallR Try.prog 37 [.str ws] [[]] 0 ((V137 ws) r) ((fun r => [newL (0 + 1) ((N137 ws) r) ++ []]) r) 400 ∧ ∃ F, Try.prog.funcs[37]? = some F ∧ F.body.isSome = true ∧ (F.name == "runtime.NumGoroutine") = false := by
  refine dec_calls (f := 37) (lo := 0) (hi := 400) (H := [[]]) (args := [.str ws]) Try.envOk Try.mixed xN0_ok ((I137 ws)) ((V137 ws)) (fun r => [newL (0 + 1) ((N137 ws) r) ++ []]) (fn := mkFn Try.f37) (ts := []) (n := 400) rfl (by decide) (by simp) (names_of rfl) ?_ ?_ ?_ h
  · intro s; exact s.elim
  · intro Kst Kret x hS hR h
    exact Holds.eq (te137 cond Kst Kret ws) (be137 ws Kst Kret x hS hR h)
  · intro Kst Kret x hS hR s h; exact s.elim
noncomputable abbrev w137 {α : Type} (g : ByteArray → α) (x : ByteArray × Unit) : α := g x.1
noncomputable def k137  : Con := ⟨37, [.one (.plain (.str))], w137 (fun ws => decide (True)), w137 (fun ws => (V137 ws) (S.isNam ws)), w137 (fun ws => (N137 ws) (S.isNam ws)), fun _ _ => .dead⟩
theorem s137 (ws : ByteArray) (hp : True) : Goes ((q137 ws)) ((p137 ws)) (S.isNam ws) := by
  have hs : S.eqS ws (ByteArray.mk #[]) = decide (ws.size = 0) := by
    show (ws.toList == (ByteArray.mk #[]).toList) = _
    rw [ByteArray.toList_eq (ByteArray.mk #[])]
    exact size_nil
  have hr := runN_le (p := (fun j => S.namB (keys ws j))) (k := ws.size) (i := 0)
  have e : S.isNam ws = (decide (1 ≤ ws.size ∧ ws.size ≤ 20) && (S.lowB (keys ws 0) && decide (S.runN (fun j => S.namB (keys ws j)) 0 ws.size = ws.size))) := rfl
  rw [e]
  unfold p137
  simp only [hs]
  have hk : S.lowB (keys ws 0) = decide (97 ≤ keys ws 0 ∧ keys ws 0 ≤ 122) := rfl
  generalize S.runN (fun j => S.namB (keys ws j)) 0 ws.size = rn at *
  show Goes _ _ _
  repeat' (first | with_reducible refine goes_if (fun h => ?_) (fun h => ?_) <;> (try simp only [SH] at h) | exact goes_none.mpr (by omega))
  all_goals first
    | (exfalso; omega)
    | (refine goes_inr.mpr ?_; simp only [hk, ← Bool.decide_and]; first | exact (decide_eq_true (by omega)).symm | exact (decide_eq_false (by omega)).symm | (rw [Bool.eq_iff_iff]; simp only [decide_eq_true_eq, beq_iff_eq]; omega))
theorem k137_ok  : k137.ok Try.prog := by
  intro x hx
  obtain ⟨ws, _⟩ := x
  obtain ⟨h1, h2⟩ := a137 ws (s137 ws (of_dec hx rfl))
  exact ⟨⟨400, (by decide : 0 + 1 + 0 ≤ 400), h1⟩, h2⟩
abbrev St140  := Empty
abbrev Rt140  := Bool
noncomputable def V140 (ws : ByteArray) (r : Rt140) : PV := PV.bool r
noncomputable def N140 (ws : ByteArray) (r : Rt140) : List Blk := []
noncomputable def I140 (ws : ByteArray) : St140 → Hd := fun s => s.elim
noncomputable def q140 (ws : ByteArray) : St140 → Option (St140 ⊕ Rt140) := fun s => s.elim
noncomputable def p140 (ws : ByteArray) : Option (St140 ⊕ Rt140) := bif (!S.eqS ws (ByteArray.mk #[])) then (bif (decide ((↑(ByteArray.size ws) : Int) ≤ 20)) then (bif (decide (ByteArray.size ws ≤ 1000)) then (bif ((↑(S.runN (fun j => if j = 0 then S.lowB (keys ws j) else S.namB (keys ws j)) (0) (ByteArray.size ws)) : Int) == (↑(ByteArray.size ws) : Int)) then (some (.inr (true))) else (some (.inr (false)))) else (none)) else (some (.inr (false)))) else (some (.inr (false)))
def Te140 (test : TT) (Kst : KS) (Kret : KR) (ws : ByteArray) : Prop := test (!S.eqS ws (ByteArray.mk #[])) (test (decide ((↑(ByteArray.size ws) : Int) ≤ 20)) (test (decide (ByteArray.size ws ≤ 1000)) (test ((↑(S.runN (fun j => if j = 0 then S.lowB (keys ws j) else S.namB (keys ws j)) (0) (ByteArray.size ws)) : Int) == (↑(ByteArray.size ws) : Int)) (Kret (PV.tf true) ([[]]) (1)) (Kret (PV.tf false) ([[]]) (1))) (False)) (Kret (PV.tf false) ([[]]) (0))) (Kret (PV.tf false) ([[]]) (0))
theorem te140 (test : TT) (Kst : KS) (Kret : KR) (ws : ByteArray) : run test Try.env true (xN0 test) true 400 ⟨40, [.cd (mkFn Try.f40).body], argT 0 [.str ws], [[], []], 0⟩ (proj 0 [] Kst Kret) =
  Te140 test Kst Kret ws := by kernel_rfl
attribute [local irreducible] Int.subNatNat in
theorem be140 (ws : ByteArray) (Kst : KS) (Kret : KR) (x : St140 ⊕ Rt140) (hS : HS 0 400 ((I140 ws)) Kst x) (hR : HR 0 400 ((V140 ws)) (fun r => [newL (0 + 1) ((N140 ws) r) ++ []]) Kret x) (h : p140 ws = some x) : Te140 cond Kst Kret ws := by
  unfold Te140
  unfold p140 at h
  exact bif_split h (fun c0 h => bif_split h (fun c1 h => bif_split h (fun c2 h => bif_split h (fun c3 h => ret_at hR _ h (fun n => n) rfl rfl rfl (rn_bool_tf rfl) rfl entl_nil) (fun c3 h => ret_at hR _ h (fun n => n) rfl rfl rfl (rn_bool_tf rfl) rfl entl_nil)) (fun c2 h => no_some h)) (fun c1 h => ret_at hR _ h (fun n => n) rfl rfl rfl (rn_bool_tf rfl) rfl entl_nil)) (fun c0 h => ret_at hR _ h (fun n => n) rfl rfl rfl (rn_bool_tf rfl) rfl entl_nil)
theorem a140 (ws : ByteArray) {r : Rt140} (h : Goes ((q140 ws)) ((p140 ws)) r) : CallR Try.prog 40 [.str ws] [[]] 0 ((V140 ws) r) ((fun r => [newL (0 + 1) ((N140 ws) r) ++ []]) r) 400 ∧ ∃ F, Try.prog.funcs[40]? = some F ∧ F.body.isSome = true ∧ (F.name == "runtime.NumGoroutine") = false := by
  refine dec_calls (f := 40) (lo := 0) (hi := 400) (H := [[]]) (args := [.str ws]) Try.envOk Try.mixed xN0_ok ((I140 ws)) ((V140 ws)) (fun r => [newL (0 + 1) ((N140 ws) r) ++ []]) (fn := mkFn Try.f40) (ts := []) (n := 400) rfl (by decide) (by simp) (names_of rfl) ?_ ?_ ?_ h
  · intro s; exact s.elim
  · intro Kst Kret x hS hR h
    exact Holds.eq (te140 cond Kst Kret ws) (be140 ws Kst Kret x hS hR h)
  · intro Kst Kret x hS hR s h; exact s.elim
noncomputable abbrev w140 {α : Type} (g : ByteArray → α) (x : ByteArray × Unit) : α := g x.1
noncomputable def k140  : Con := ⟨40, [.one (.plain (.str))], w140 (fun ws => decide (True)), w140 (fun ws => (V140 ws) (S.isNam ws)), w140 (fun ws => (N140 ws) (S.isNam ws)), fun _ _ => .dead⟩
theorem s140 (ws : ByteArray) (hp : True) : Goes ((q140 ws)) ((p140 ws)) (S.isNam ws) := by
  have hs : S.eqS ws (ByteArray.mk #[]) = decide (ws.size = 0) := by
    show (ws.toList == (ByteArray.mk #[]).toList) = _
    rw [ByteArray.toList_eq (ByteArray.mk #[])]
    exact size_nil
  have hr := runN_le (p := (fun j => if j = 0 then S.lowB (keys ws j) else S.namB (keys ws j))) (k := ws.size) (i := 0)
  have e : S.isNam ws = (decide (1 ≤ ws.size ∧ ws.size ≤ 20) && decide (S.runN (fun j => if j = 0 then S.lowB (keys ws j) else S.namB (keys ws j)) 0 ws.size = ws.size)) := by
    unfold S.isNam
    by_cases h1 : 1 ≤ ws.size ∧ ws.size ≤ 20
    · congr 1
      rw [Bool.eq_iff_iff, Bool.and_eq_true, decide_eq_true_eq, decide_eq_true_eq, runN_all, runN_all]
      constructor
      · rintro ⟨a, c⟩ j h2 h3
        split
        · rename_i h4; rw [h4]; exact a
        · exact c j h2 h3
      · intro a
        have a0 := a 0 (Nat.le_refl _) (by omega)
        rw [if_pos rfl] at a0
        refine ⟨a0, fun j h2 h3 => ?_⟩
        have aj := a j h2 h3
        split at aj
        · rename_i h4
          rw [h4]
          simp only [S.lowB, S.namB, decide_eq_true_eq] at a0 ⊢
          omega
        · exact aj
    · rw [decide_eq_false h1, Bool.false_and, Bool.false_and]
  rw [e]
  unfold p140
  simp only [hs]
  skip
  generalize S.runN (fun j => if j = 0 then S.lowB (keys ws j) else S.namB (keys ws j)) 0 ws.size = rn at *
  show Goes _ _ _
  repeat' (first | with_reducible refine goes_if (fun h => ?_) (fun h => ?_) <;> (try simp only [SH] at h) | exact goes_none.mpr (by omega))
  all_goals first
    | (exfalso; omega)
    | (refine goes_inr.mpr ?_; simp only [← Bool.decide_and]; first | exact (decide_eq_true (by omega)).symm | exact (decide_eq_false (by omega)).symm | (rw [Bool.eq_iff_iff]; simp only [decide_eq_true_eq, beq_iff_eq]; omega))
theorem k140_ok  : k140.ok Try.prog := by
  intro x hx
  obtain ⟨ws, _⟩ := x
  obtain ⟨h1, h2⟩ := a140 ws (s140 ws (of_dec hx rfl))
  exact ⟨⟨400, (by decide : 0 + 1 + 0 ≤ 400), h1⟩, h2⟩
noncomputable def xN (test : Bool → Prop → Prop → Prop) : Ext := consX test [k137, k140]
theorem xN_ok  : ExtOk Try.prog (xN cond) := consX_ok ⟨k137_ok, k140_ok, trivial⟩
noncomputable abbrev w25 {α : Type} (g : Nat → Nat → Nat → (Nat → Int) → α) (x : (Nat × Nat × Nat × (Nat → Int) × Unit) × Unit) : α := g x.1.1 x.1.2.1 x.1.2.2.1 x.1.2.2.2.1
noncomputable def k25  : Con := ⟨25, [.one (.list [.int .i64])], w25 (fun aa na ma ta => decide (aa + na ≤ ma ∧ na ≤ 1000000)), w25 (fun aa na ma ta => .own 2 1 na), w25 (fun aa na ma ta => [.cols na [.int .i64 (fun j => ta (j + aa))]]), fun _ _ => .dead⟩
theorem e25s (test : Bool → Prop → Prop → Prop) (Kst : List It → List PV → Heap → Nat → Prop) (Kret : PV → Heap → Nat → Prop) (aa na ma : Nat) (ta : Nat → Int) :
  (run test Try.env true noX true 300 ⟨25, [.cd (mkFn Try.f25).body], argT 0 [.sl ⟨0, 1, aa, 0⟩ na], [[], [(0, (false, .cols ma [.int .i64 ta]))]], 1⟩ (proj 1 [] Kst Kret)) =
  (test (decide (0 + na ≤ 1000000))
  (test true
    (test (decide (aa + na ≤ ma))
      (Kret (PV.own (2) (1) (0 + na))
        [[(0, false, Blk.cols ma [Col.int IntKind.i64 ta]),
            (2, true, Blk.cols (0 + na) [Col.int IntKind.i64 fun j => ta (j + aa)])]]
        (3))
      False)
    False)
  False) := by kernel_rfl
theorem c25s (aa na ma : Nat) (ta : NI) (hp : aa + na ≤ ma ∧ na ≤ 1000000) (h0 : 0 < na) : CallR Try.prog 25 [.sl ⟨0, 1, aa, 0⟩ na] [[(0, (false, .cols ma [.int .i64 ta]))]] 1 (.own 2 1 na) [(2, (true, .cols na [.int .i64 (fun j => ta (j + aa))])) :: [(0, (false, .cols ma [.int .i64 ta]))]] 40 ∧ ∃ F, Try.prog.funcs[25]? = some F ∧ F.body.isSome = true ∧ (F.name == "runtime.NumGoroutine") = false := by
  refine @ret_eq _ _ Try.envOk Try.mixed _ noX_ok 25 (mkFn Try.f25) [.sl ⟨0, 1, aa, 0⟩ na] [[(0, (false, .cols ma [.int .i64 ta]))]] [(2, (true, .cols na [.int .i64 (fun j => ta (j + aa))])) :: [(0, (false, .cols ma [.int .i64 ta]))]] 1 40 (.own 2 1 na) true 300 rfl (by decide) (by simp) (names_of rfl) _ (e25s cond _ _ aa na ma ta) ?_
  repeat' first
    | with_reducible refine cond_yes rfl ?_
    | with_reducible refine cond_no rfl ?_
    | (with_reducible refine cond_intro (fun h => ?_) (fun h => ?_)) <;> (try simp only [lim64, decide_eq_true_eq, decide_eq_false_iff_not, reduceCtorEq, Int.toNat_natCast, Bool.not_eq_true', Bool.not_eq_false', Bool.and_eq_true, Bool.or_eq_true, Bool.and_eq_false_iff, Bool.or_eq_false_iff, bne_iff_ne, beq_iff_eq, bne_eq_false_iff_eq, beq_eq_false_iff_ne, ne_eq] at h)
  all_goals first
    | with_reducible apply ret_k
    | omega
  repeat' first
    | with_reducible exact rns_nil
    | with_reducible refine rns_cons ?_ ?_
    | with_reducible refine rn_tup ?_
    | with_reducible refine rn_agg ?_
    | with_reducible refine rn_int ?_
    | with_reducible refine rn_tf ?_
    | with_reducible refine rn_bool_tf ?_
    | with_reducible refine rn_bool ?_
    | with_reducible refine rn_str ?_
    | with_reducible exact rn_nils
    | with_reducible refine rn_own_nils ?_
    | with_reducible refine rn_own ?_ ?_ ?_
    | with_reducible refine rn_own_sl ?_ ?_ ?_ ?_ ?_
    | with_reducible refine rn_own_loose ?_ ?_ ?_ ?_
    | with_reducible refine rn_loose ?_ ?_ ?_ ?_
    | with_reducible refine rn_loose_sl ?_ ?_ ?_ ?_
    | exact use_lo rfl
    | exact use_own rfl
    | exact nm_k rfl
    | exact nm_lo rfl
    | ((with_reducible refine (id : pos _ = pos _ → _) ?_); exact rfl)
    | ((with_reducible refine (id : pos _ = 0 → _) ?_); exact rfl)
    | ((with_reducible refine (id : Nat.ble _ _ = true → _) ?_); exact rfl)
    | ((with_reducible refine (id : injL _ _ = true → _) ?_); exact rfl)
    | ((with_reducible refine (id : plainC _ = true → _) ?_); exact rfl)
    | ((with_reducible refine (id : hget _ _ = some _ → _) ?_); exact rfl)
    | with_reducible exact (id : (_ : Bool) = true → _ = true)
    | with_reducible exact entl_nil
    | with_reducible refine entl_bor ?_ ?_ ?_ ?_
    | refine entl_new (use_own rfl) (by rfl) ?_ ?_ ?_
    | refine entl_rows (use_own rfl) (by rfl) rfl ?_ (nthc_all ?_) ?_
    | refine entl_zero (use_own rfl) (by rfl) (by simp) (by omega) ?_
    | with_reducible exact rcs_nil
    | with_reducible refine rcs_int (fun j hj => ?_) ?_
    | with_reducible refine rcs_bool (fun j hj => ?_) ?_
    | with_reducible refine rcs_str (fun j hj => ?_) ?_
    | refine entl_fresh (k := 2) (use_own rfl) (fresh_ok (n := 39) rfl) ?_
    | with_reducible rfl
  all_goals try exact (0 : Nat)
  all_goals try ((with_reducible refine (id : injL _ _ = true → _) ?_); exact rfl)
  all_goals first
    | omega
    | skip
theorem e25z (test : Bool → Prop → Prop → Prop) (Kst : List It → List PV → Heap → Nat → Prop) (Kret : PV → Heap → Nat → Prop) (aa na ma : Nat) (ta : Nat → Int) :
  (run test Try.env true noX true 300 ⟨25, [.cd (mkFn Try.f25).body], argT 0 [.zer true], [[], [(0, (false, .cols ma [.int .i64 ta]))]], 1⟩ (proj 1 [] Kst Kret)) =
  (Kret (PV.own (1) (1) (0))
  [[(0, false, Blk.cols ma [Col.int IntKind.i64 ta]), (1, true, Blk.cells [])]] (2)) := by kernel_rfl
theorem c25z (aa na ma : Nat) (ta : NI) (hp : aa + na ≤ ma ∧ na ≤ 1000000) (h0 : na = 0) : CallR Try.prog 25 [.zer true] [[(0, (false, .cols ma [.int .i64 ta]))]] 1 (.own 2 1 na) [(2, (true, .cols na [.int .i64 (fun j => ta (j + aa))])) :: [(0, (false, .cols ma [.int .i64 ta]))]] 40 ∧ ∃ F, Try.prog.funcs[25]? = some F ∧ F.body.isSome = true ∧ (F.name == "runtime.NumGoroutine") = false := by
  refine @ret_eq _ _ Try.envOk Try.mixed _ noX_ok 25 (mkFn Try.f25) [.zer true] [[(0, (false, .cols ma [.int .i64 ta]))]] [(2, (true, .cols na [.int .i64 (fun j => ta (j + aa))])) :: [(0, (false, .cols ma [.int .i64 ta]))]] 1 40 (.own 2 1 na) true 300 rfl (by decide) (by simp) (names_of rfl) _ (e25z cond _ _ aa na ma ta) ?_
  repeat' first
    | with_reducible refine cond_yes rfl ?_
    | with_reducible refine cond_no rfl ?_
    | (with_reducible refine cond_intro (fun h => ?_) (fun h => ?_)) <;> (try simp only [lim64, decide_eq_true_eq, decide_eq_false_iff_not, reduceCtorEq, Int.toNat_natCast, Bool.not_eq_true', Bool.not_eq_false', Bool.and_eq_true, Bool.or_eq_true, Bool.and_eq_false_iff, Bool.or_eq_false_iff, bne_iff_ne, beq_iff_eq, bne_eq_false_iff_eq, beq_eq_false_iff_ne, ne_eq] at h)
  all_goals first
    | with_reducible apply ret_k
    | omega
  repeat' first
    | with_reducible exact rns_nil
    | with_reducible refine rns_cons ?_ ?_
    | with_reducible refine rn_tup ?_
    | with_reducible refine rn_agg ?_
    | with_reducible refine rn_int ?_
    | with_reducible refine rn_tf ?_
    | with_reducible refine rn_bool_tf ?_
    | with_reducible refine rn_bool ?_
    | with_reducible refine rn_str ?_
    | with_reducible exact rn_nils
    | with_reducible refine rn_own_nils ?_
    | with_reducible refine rn_own ?_ ?_ ?_
    | with_reducible refine rn_own_sl ?_ ?_ ?_ ?_ ?_
    | with_reducible refine rn_own_loose ?_ ?_ ?_ ?_
    | with_reducible refine rn_loose ?_ ?_ ?_ ?_
    | with_reducible refine rn_loose_sl ?_ ?_ ?_ ?_
    | exact use_lo rfl
    | exact use_own rfl
    | exact nm_k rfl
    | exact nm_lo rfl
    | ((with_reducible refine (id : pos _ = pos _ → _) ?_); exact rfl)
    | ((with_reducible refine (id : pos _ = 0 → _) ?_); exact rfl)
    | ((with_reducible refine (id : Nat.ble _ _ = true → _) ?_); exact rfl)
    | ((with_reducible refine (id : injL _ _ = true → _) ?_); exact rfl)
    | ((with_reducible refine (id : plainC _ = true → _) ?_); exact rfl)
    | ((with_reducible refine (id : hget _ _ = some _ → _) ?_); exact rfl)
    | with_reducible exact (id : (_ : Bool) = true → _ = true)
    | with_reducible exact entl_nil
    | with_reducible refine entl_bor ?_ ?_ ?_ ?_
    | refine entl_new (use_own rfl) (by rfl) ?_ ?_ ?_
    | refine entl_rows (use_own rfl) (by rfl) rfl ?_ (nthc_all ?_) ?_
    | refine entl_zero (use_own rfl) (by rfl) (by simp) (by omega) ?_
    | with_reducible exact rcs_nil
    | with_reducible refine rcs_int (fun j hj => ?_) ?_
    | with_reducible refine rcs_bool (fun j hj => ?_) ?_
    | with_reducible refine rcs_str (fun j hj => ?_) ?_
    | refine entl_fresh (k := 2) (use_own rfl) (fresh_ok (n := 39) rfl) ?_
    | with_reducible rfl
  all_goals try exact (0 : Nat)
  all_goals try ((with_reducible refine (id : injL _ _ = true → _) ?_); exact rfl)
  all_goals first
    | omega
    | skip
theorem e25y (test : Bool → Prop → Prop → Prop) (Kst : List It → List PV → Heap → Nat → Prop) (Kret : PV → Heap → Nat → Prop) (aa na ma : Nat) (ta : Nat → Int) :
  (run test Try.env true noX true 300 ⟨25, [.cd (mkFn Try.f25).body], argT 0 [.zer false], [[], [(0, (false, .cols ma [.int .i64 ta]))]], 1⟩ (proj 1 [] Kst Kret)) =
  (Kret PV.nils [[(0, false, Blk.cols ma [Col.int IntKind.i64 ta])]] (1)) := by kernel_rfl
theorem c25y (aa na ma : Nat) (ta : NI) (hp : aa + na ≤ ma ∧ na ≤ 1000000) (h0 : na = 0) : CallR Try.prog 25 [.zer false] [[(0, (false, .cols ma [.int .i64 ta]))]] 1 (.own 2 1 na) [(2, (true, .cols na [.int .i64 (fun j => ta (j + aa))])) :: [(0, (false, .cols ma [.int .i64 ta]))]] 40 ∧ ∃ F, Try.prog.funcs[25]? = some F ∧ F.body.isSome = true ∧ (F.name == "runtime.NumGoroutine") = false := by
  refine @ret_eq _ _ Try.envOk Try.mixed _ noX_ok 25 (mkFn Try.f25) [.zer false] [[(0, (false, .cols ma [.int .i64 ta]))]] [(2, (true, .cols na [.int .i64 (fun j => ta (j + aa))])) :: [(0, (false, .cols ma [.int .i64 ta]))]] 1 40 (.own 2 1 na) true 300 rfl (by decide) (by simp) (names_of rfl) _ (e25y cond _ _ aa na ma ta) ?_
  repeat' first
    | with_reducible refine cond_yes rfl ?_
    | with_reducible refine cond_no rfl ?_
    | (with_reducible refine cond_intro (fun h => ?_) (fun h => ?_)) <;> (try simp only [lim64, decide_eq_true_eq, decide_eq_false_iff_not, reduceCtorEq, Int.toNat_natCast, Bool.not_eq_true', Bool.not_eq_false', Bool.and_eq_true, Bool.or_eq_true, Bool.and_eq_false_iff, Bool.or_eq_false_iff, bne_iff_ne, beq_iff_eq, bne_eq_false_iff_eq, beq_eq_false_iff_ne, ne_eq] at h)
  all_goals first
    | with_reducible apply ret_k
    | omega
  repeat' first
    | with_reducible exact rns_nil
    | with_reducible refine rns_cons ?_ ?_
    | with_reducible refine rn_tup ?_
    | with_reducible refine rn_agg ?_
    | with_reducible refine rn_int ?_
    | with_reducible refine rn_tf ?_
    | with_reducible refine rn_bool_tf ?_
    | with_reducible refine rn_bool ?_
    | with_reducible refine rn_str ?_
    | with_reducible exact rn_nils
    | with_reducible refine rn_own_nils ?_
    | with_reducible refine rn_own ?_ ?_ ?_
    | with_reducible refine rn_own_sl ?_ ?_ ?_ ?_ ?_
    | with_reducible refine rn_own_loose ?_ ?_ ?_ ?_
    | with_reducible refine rn_loose ?_ ?_ ?_ ?_
    | with_reducible refine rn_loose_sl ?_ ?_ ?_ ?_
    | exact use_lo rfl
    | exact use_own rfl
    | exact nm_k rfl
    | exact nm_lo rfl
    | ((with_reducible refine (id : pos _ = pos _ → _) ?_); exact rfl)
    | ((with_reducible refine (id : pos _ = 0 → _) ?_); exact rfl)
    | ((with_reducible refine (id : Nat.ble _ _ = true → _) ?_); exact rfl)
    | ((with_reducible refine (id : injL _ _ = true → _) ?_); exact rfl)
    | ((with_reducible refine (id : plainC _ = true → _) ?_); exact rfl)
    | ((with_reducible refine (id : hget _ _ = some _ → _) ?_); exact rfl)
    | with_reducible exact (id : (_ : Bool) = true → _ = true)
    | with_reducible exact entl_nil
    | with_reducible refine entl_bor ?_ ?_ ?_ ?_
    | refine entl_new (use_own rfl) (by rfl) ?_ ?_ ?_
    | refine entl_rows (use_own rfl) (by rfl) rfl ?_ (nthc_all ?_) ?_
    | refine entl_zero (use_own rfl) (by rfl) (by simp) (by omega) ?_
    | with_reducible exact rcs_nil
    | with_reducible refine rcs_int (fun j hj => ?_) ?_
    | with_reducible refine rcs_bool (fun j hj => ?_) ?_
    | with_reducible refine rcs_str (fun j hj => ?_) ?_
    | refine entl_fresh (k := 2) (use_own rfl) (fresh_ok (n := 39) rfl) ?_
    | with_reducible rfl
  all_goals try exact (0 : Nat)
  all_goals try ((with_reducible refine (id : injL _ _ = true → _) ?_); exact rfl)
  all_goals first
    | omega
    | skip
theorem c25 (aa na ma : Nat) (ta : NI) (hp : aa + na ≤ ma ∧ na ≤ 1000000) : CallR Try.prog 25 [.loose ⟨0, 1, aa, 0⟩ na] [[(0, (false, .cols ma [.int .i64 ta]))]] 1 (.own 2 1 na) [(2, (true, .cols na [.int .i64 (fun j => ta (j + aa))])) :: [(0, (false, .cols ma [.int .i64 ta]))]] 40 ∧ ∃ F, Try.prog.funcs[25]? = some F ∧ F.body.isSome = true ∧ (F.name == "runtime.NumGoroutine") = false :=
  ⟨loose_cases (fun h => (c25s aa na ma ta hp h).1) (fun h b => by cases b; exact (c25y aa na ma ta hp h).1; exact (c25z aa na ma ta hp h).1), by
    rcases Nat.eq_zero_or_pos na with h | h
    · exact (c25y aa na ma ta hp h).2
    · exact (c25s aa na ma ta hp h).2⟩
theorem k25_ok  : k25.ok Try.prog := by
  intro x hx
  obtain ⟨⟨aa, na, ma, ta, _⟩, _⟩ := x
  have hp : aa + na ≤ ma ∧ na ≤ 1000000 := of_decide_eq_true hx
  obtain ⟨h1, h2⟩ := c25 aa na ma ta hp
  exact ⟨⟨40, (by decide : 1 + 1 + 1 ≤ 40), h1⟩, h2⟩
noncomputable abbrev w37 {α : Type} (g : Nat → Nat → Nat → (Nat → Int) → (Nat → Int) → (Nat → Int) → α) (x : (Nat × Nat × Nat × (Nat → Int) × (Nat → Int) × (Nat → Int) × Unit) × Unit) : α := g x.1.1 x.1.2.1 x.1.2.2.1 x.1.2.2.2.1 x.1.2.2.2.2.1 x.1.2.2.2.2.2.1
noncomputable def k37  : Con := ⟨80, [.one (.list [.int .i64, .int .i64, .int .i64])], w37 (fun aa na ma ta va ga => decide (aa + na ≤ ma ∧ na ≤ 1000000)), w37 (fun aa na ma ta va ga => .own 2 3 na), w37 (fun aa na ma ta va ga => [.cols na [.int .i64 (fun j => ta (j + aa)), .int .i64 (fun j => va (j + aa)), .int .i64 (fun j => ga (j + aa))]]), fun _ _ => .dead⟩
theorem e37s (test : Bool → Prop → Prop → Prop) (Kst : List It → List PV → Heap → Nat → Prop) (Kret : PV → Heap → Nat → Prop) (aa na ma : Nat) (ta va ga : Nat → Int) :
  (run test Try.env true noX true 300 ⟨80, [.cd (mkFn Try.f80).body], argT 0 [.sl ⟨0, 3, aa, 0⟩ na], [[], [(0, (false, .cols ma [.int .i64 ta, .int .i64 va, .int .i64 ga]))]], 1⟩ (proj 1 [] Kst Kret)) =
  (test (decide (0 + na ≤ 1000000))
  (test true
    (test (decide (aa + na ≤ ma))
      (Kret (PV.own (2) (3) (0 + na))
        [[(0, false, Blk.cols ma [Col.int IntKind.i64 ta, Col.int IntKind.i64 va, Col.int IntKind.i64 ga]),
            (2, true,
              Blk.cols (0 + na)
                [Col.int IntKind.i64 fun j => ta (j + aa), Col.int IntKind.i64 fun j => va (j + aa),
                  Col.int IntKind.i64 fun j => ga (j + aa)])]]
        (3))
      False)
    False)
  False) := by kernel_rfl
theorem c37s (aa na ma : Nat) (ta va ga : NI) (hp : aa + na ≤ ma ∧ na ≤ 1000000) (h0 : 0 < na) : CallR Try.prog 80 [.sl ⟨0, 3, aa, 0⟩ na] [[(0, (false, .cols ma [.int .i64 ta, .int .i64 va, .int .i64 ga]))]] 1 (.own 2 3 na) [(2, (true, .cols na [.int .i64 (fun j => ta (j + aa)), .int .i64 (fun j => va (j + aa)), .int .i64 (fun j => ga (j + aa))])) :: [(0, (false, .cols ma [.int .i64 ta, .int .i64 va, .int .i64 ga]))]] 40 ∧ ∃ F, Try.prog.funcs[80]? = some F ∧ F.body.isSome = true ∧ (F.name == "runtime.NumGoroutine") = false := by
  refine @ret_eq _ _ Try.envOk Try.mixed _ noX_ok 80 (mkFn Try.f80) [.sl ⟨0, 3, aa, 0⟩ na] [[(0, (false, .cols ma [.int .i64 ta, .int .i64 va, .int .i64 ga]))]] [(2, (true, .cols na [.int .i64 (fun j => ta (j + aa)), .int .i64 (fun j => va (j + aa)), .int .i64 (fun j => ga (j + aa))])) :: [(0, (false, .cols ma [.int .i64 ta, .int .i64 va, .int .i64 ga]))]] 1 40 (.own 2 3 na) true 300 rfl (by decide) (by simp) (names_of rfl) _ (e37s cond _ _ aa na ma ta va ga) ?_
  repeat' first
    | with_reducible refine cond_yes rfl ?_
    | with_reducible refine cond_no rfl ?_
    | (with_reducible refine cond_intro (fun h => ?_) (fun h => ?_)) <;> (try simp only [lim64, decide_eq_true_eq, decide_eq_false_iff_not, reduceCtorEq, Int.toNat_natCast, Bool.not_eq_true', Bool.not_eq_false', Bool.and_eq_true, Bool.or_eq_true, Bool.and_eq_false_iff, Bool.or_eq_false_iff, bne_iff_ne, beq_iff_eq, bne_eq_false_iff_eq, beq_eq_false_iff_ne, ne_eq] at h)
  all_goals first
    | with_reducible apply ret_k
    | omega
  repeat' first
    | with_reducible exact rns_nil
    | with_reducible refine rns_cons ?_ ?_
    | with_reducible refine rn_tup ?_
    | with_reducible refine rn_agg ?_
    | with_reducible refine rn_int ?_
    | with_reducible refine rn_tf ?_
    | with_reducible refine rn_bool_tf ?_
    | with_reducible refine rn_bool ?_
    | with_reducible refine rn_str ?_
    | with_reducible exact rn_nils
    | with_reducible refine rn_own_nils ?_
    | with_reducible refine rn_own ?_ ?_ ?_
    | with_reducible refine rn_own_sl ?_ ?_ ?_ ?_ ?_
    | with_reducible refine rn_own_loose ?_ ?_ ?_ ?_
    | with_reducible refine rn_loose ?_ ?_ ?_ ?_
    | with_reducible refine rn_loose_sl ?_ ?_ ?_ ?_
    | exact use_lo rfl
    | exact use_own rfl
    | exact nm_k rfl
    | exact nm_lo rfl
    | ((with_reducible refine (id : pos _ = pos _ → _) ?_); exact rfl)
    | ((with_reducible refine (id : pos _ = 0 → _) ?_); exact rfl)
    | ((with_reducible refine (id : Nat.ble _ _ = true → _) ?_); exact rfl)
    | ((with_reducible refine (id : injL _ _ = true → _) ?_); exact rfl)
    | ((with_reducible refine (id : plainC _ = true → _) ?_); exact rfl)
    | ((with_reducible refine (id : hget _ _ = some _ → _) ?_); exact rfl)
    | with_reducible exact (id : (_ : Bool) = true → _ = true)
    | with_reducible exact entl_nil
    | with_reducible refine entl_bor ?_ ?_ ?_ ?_
    | refine entl_new (use_own rfl) (by rfl) ?_ ?_ ?_
    | refine entl_rows (use_own rfl) (by rfl) rfl ?_ (nthc_all ?_) ?_
    | refine entl_zero (use_own rfl) (by rfl) (by simp) (by omega) ?_
    | with_reducible exact rcs_nil
    | with_reducible refine rcs_int (fun j hj => ?_) ?_
    | with_reducible refine rcs_bool (fun j hj => ?_) ?_
    | with_reducible refine rcs_str (fun j hj => ?_) ?_
    | refine entl_fresh (k := 2) (use_own rfl) (fresh_ok (n := 39) rfl) ?_
    | with_reducible rfl
  all_goals try exact (0 : Nat)
  all_goals try ((with_reducible refine (id : injL _ _ = true → _) ?_); exact rfl)
  all_goals first
    | omega
    | skip
theorem e37z (test : Bool → Prop → Prop → Prop) (Kst : List It → List PV → Heap → Nat → Prop) (Kret : PV → Heap → Nat → Prop) (aa na ma : Nat) (ta va ga : Nat → Int) :
  (run test Try.env true noX true 300 ⟨80, [.cd (mkFn Try.f80).body], argT 0 [.zer true], [[], [(0, (false, .cols ma [.int .i64 ta, .int .i64 va, .int .i64 ga]))]], 1⟩ (proj 1 [] Kst Kret)) =
  (Kret (PV.own (1) (3) (0))
  [[(0, false, Blk.cols ma [Col.int IntKind.i64 ta, Col.int IntKind.i64 va, Col.int IntKind.i64 ga]),
      (1, true, Blk.cells [])]]
  (2)) := by kernel_rfl
theorem c37z (aa na ma : Nat) (ta va ga : NI) (hp : aa + na ≤ ma ∧ na ≤ 1000000) (h0 : na = 0) : CallR Try.prog 80 [.zer true] [[(0, (false, .cols ma [.int .i64 ta, .int .i64 va, .int .i64 ga]))]] 1 (.own 2 3 na) [(2, (true, .cols na [.int .i64 (fun j => ta (j + aa)), .int .i64 (fun j => va (j + aa)), .int .i64 (fun j => ga (j + aa))])) :: [(0, (false, .cols ma [.int .i64 ta, .int .i64 va, .int .i64 ga]))]] 40 ∧ ∃ F, Try.prog.funcs[80]? = some F ∧ F.body.isSome = true ∧ (F.name == "runtime.NumGoroutine") = false := by
  refine @ret_eq _ _ Try.envOk Try.mixed _ noX_ok 80 (mkFn Try.f80) [.zer true] [[(0, (false, .cols ma [.int .i64 ta, .int .i64 va, .int .i64 ga]))]] [(2, (true, .cols na [.int .i64 (fun j => ta (j + aa)), .int .i64 (fun j => va (j + aa)), .int .i64 (fun j => ga (j + aa))])) :: [(0, (false, .cols ma [.int .i64 ta, .int .i64 va, .int .i64 ga]))]] 1 40 (.own 2 3 na) true 300 rfl (by decide) (by simp) (names_of rfl) _ (e37z cond _ _ aa na ma ta va ga) ?_
  repeat' first
    | with_reducible refine cond_yes rfl ?_
    | with_reducible refine cond_no rfl ?_
    | (with_reducible refine cond_intro (fun h => ?_) (fun h => ?_)) <;> (try simp only [lim64, decide_eq_true_eq, decide_eq_false_iff_not, reduceCtorEq, Int.toNat_natCast, Bool.not_eq_true', Bool.not_eq_false', Bool.and_eq_true, Bool.or_eq_true, Bool.and_eq_false_iff, Bool.or_eq_false_iff, bne_iff_ne, beq_iff_eq, bne_eq_false_iff_eq, beq_eq_false_iff_ne, ne_eq] at h)
  all_goals first
    | with_reducible apply ret_k
    | omega
  repeat' first
    | with_reducible exact rns_nil
    | with_reducible refine rns_cons ?_ ?_
    | with_reducible refine rn_tup ?_
    | with_reducible refine rn_agg ?_
    | with_reducible refine rn_int ?_
    | with_reducible refine rn_tf ?_
    | with_reducible refine rn_bool_tf ?_
    | with_reducible refine rn_bool ?_
    | with_reducible refine rn_str ?_
    | with_reducible exact rn_nils
    | with_reducible refine rn_own_nils ?_
    | with_reducible refine rn_own ?_ ?_ ?_
    | with_reducible refine rn_own_sl ?_ ?_ ?_ ?_ ?_
    | with_reducible refine rn_own_loose ?_ ?_ ?_ ?_
    | with_reducible refine rn_loose ?_ ?_ ?_ ?_
    | with_reducible refine rn_loose_sl ?_ ?_ ?_ ?_
    | exact use_lo rfl
    | exact use_own rfl
    | exact nm_k rfl
    | exact nm_lo rfl
    | ((with_reducible refine (id : pos _ = pos _ → _) ?_); exact rfl)
    | ((with_reducible refine (id : pos _ = 0 → _) ?_); exact rfl)
    | ((with_reducible refine (id : Nat.ble _ _ = true → _) ?_); exact rfl)
    | ((with_reducible refine (id : injL _ _ = true → _) ?_); exact rfl)
    | ((with_reducible refine (id : plainC _ = true → _) ?_); exact rfl)
    | ((with_reducible refine (id : hget _ _ = some _ → _) ?_); exact rfl)
    | with_reducible exact (id : (_ : Bool) = true → _ = true)
    | with_reducible exact entl_nil
    | with_reducible refine entl_bor ?_ ?_ ?_ ?_
    | refine entl_new (use_own rfl) (by rfl) ?_ ?_ ?_
    | refine entl_rows (use_own rfl) (by rfl) rfl ?_ (nthc_all ?_) ?_
    | refine entl_zero (use_own rfl) (by rfl) (by simp) (by omega) ?_
    | with_reducible exact rcs_nil
    | with_reducible refine rcs_int (fun j hj => ?_) ?_
    | with_reducible refine rcs_bool (fun j hj => ?_) ?_
    | with_reducible refine rcs_str (fun j hj => ?_) ?_
    | refine entl_fresh (k := 2) (use_own rfl) (fresh_ok (n := 39) rfl) ?_
    | with_reducible rfl
  all_goals try exact (0 : Nat)
  all_goals try ((with_reducible refine (id : injL _ _ = true → _) ?_); exact rfl)
  all_goals first
    | omega
    | skip
theorem e37y (test : Bool → Prop → Prop → Prop) (Kst : List It → List PV → Heap → Nat → Prop) (Kret : PV → Heap → Nat → Prop) (aa na ma : Nat) (ta va ga : Nat → Int) :
  (run test Try.env true noX true 300 ⟨80, [.cd (mkFn Try.f80).body], argT 0 [.zer false], [[], [(0, (false, .cols ma [.int .i64 ta, .int .i64 va, .int .i64 ga]))]], 1⟩ (proj 1 [] Kst Kret)) =
  (Kret PV.nils
  [[(0, false, Blk.cols ma [Col.int IntKind.i64 ta, Col.int IntKind.i64 va, Col.int IntKind.i64 ga])]]
  (1)) := by kernel_rfl
theorem c37y (aa na ma : Nat) (ta va ga : NI) (hp : aa + na ≤ ma ∧ na ≤ 1000000) (h0 : na = 0) : CallR Try.prog 80 [.zer false] [[(0, (false, .cols ma [.int .i64 ta, .int .i64 va, .int .i64 ga]))]] 1 (.own 2 3 na) [(2, (true, .cols na [.int .i64 (fun j => ta (j + aa)), .int .i64 (fun j => va (j + aa)), .int .i64 (fun j => ga (j + aa))])) :: [(0, (false, .cols ma [.int .i64 ta, .int .i64 va, .int .i64 ga]))]] 40 ∧ ∃ F, Try.prog.funcs[80]? = some F ∧ F.body.isSome = true ∧ (F.name == "runtime.NumGoroutine") = false := by
  refine @ret_eq _ _ Try.envOk Try.mixed _ noX_ok 80 (mkFn Try.f80) [.zer false] [[(0, (false, .cols ma [.int .i64 ta, .int .i64 va, .int .i64 ga]))]] [(2, (true, .cols na [.int .i64 (fun j => ta (j + aa)), .int .i64 (fun j => va (j + aa)), .int .i64 (fun j => ga (j + aa))])) :: [(0, (false, .cols ma [.int .i64 ta, .int .i64 va, .int .i64 ga]))]] 1 40 (.own 2 3 na) true 300 rfl (by decide) (by simp) (names_of rfl) _ (e37y cond _ _ aa na ma ta va ga) ?_
  repeat' first
    | with_reducible refine cond_yes rfl ?_
    | with_reducible refine cond_no rfl ?_
    | (with_reducible refine cond_intro (fun h => ?_) (fun h => ?_)) <;> (try simp only [lim64, decide_eq_true_eq, decide_eq_false_iff_not, reduceCtorEq, Int.toNat_natCast, Bool.not_eq_true', Bool.not_eq_false', Bool.and_eq_true, Bool.or_eq_true, Bool.and_eq_false_iff, Bool.or_eq_false_iff, bne_iff_ne, beq_iff_eq, bne_eq_false_iff_eq, beq_eq_false_iff_ne, ne_eq] at h)
  all_goals first
    | with_reducible apply ret_k
    | omega
  repeat' first
    | with_reducible exact rns_nil
    | with_reducible refine rns_cons ?_ ?_
    | with_reducible refine rn_tup ?_
    | with_reducible refine rn_agg ?_
    | with_reducible refine rn_int ?_
    | with_reducible refine rn_tf ?_
    | with_reducible refine rn_bool_tf ?_
    | with_reducible refine rn_bool ?_
    | with_reducible refine rn_str ?_
    | with_reducible exact rn_nils
    | with_reducible refine rn_own_nils ?_
    | with_reducible refine rn_own ?_ ?_ ?_
    | with_reducible refine rn_own_sl ?_ ?_ ?_ ?_ ?_
    | with_reducible refine rn_own_loose ?_ ?_ ?_ ?_
    | with_reducible refine rn_loose ?_ ?_ ?_ ?_
    | with_reducible refine rn_loose_sl ?_ ?_ ?_ ?_
    | exact use_lo rfl
    | exact use_own rfl
    | exact nm_k rfl
    | exact nm_lo rfl
    | ((with_reducible refine (id : pos _ = pos _ → _) ?_); exact rfl)
    | ((with_reducible refine (id : pos _ = 0 → _) ?_); exact rfl)
    | ((with_reducible refine (id : Nat.ble _ _ = true → _) ?_); exact rfl)
    | ((with_reducible refine (id : injL _ _ = true → _) ?_); exact rfl)
    | ((with_reducible refine (id : plainC _ = true → _) ?_); exact rfl)
    | ((with_reducible refine (id : hget _ _ = some _ → _) ?_); exact rfl)
    | with_reducible exact (id : (_ : Bool) = true → _ = true)
    | with_reducible exact entl_nil
    | with_reducible refine entl_bor ?_ ?_ ?_ ?_
    | refine entl_new (use_own rfl) (by rfl) ?_ ?_ ?_
    | refine entl_rows (use_own rfl) (by rfl) rfl ?_ (nthc_all ?_) ?_
    | refine entl_zero (use_own rfl) (by rfl) (by simp) (by omega) ?_
    | with_reducible exact rcs_nil
    | with_reducible refine rcs_int (fun j hj => ?_) ?_
    | with_reducible refine rcs_bool (fun j hj => ?_) ?_
    | with_reducible refine rcs_str (fun j hj => ?_) ?_
    | refine entl_fresh (k := 2) (use_own rfl) (fresh_ok (n := 39) rfl) ?_
    | with_reducible rfl
  all_goals try exact (0 : Nat)
  all_goals try ((with_reducible refine (id : injL _ _ = true → _) ?_); exact rfl)
  all_goals first
    | omega
    | skip
theorem c37 (aa na ma : Nat) (ta va ga : NI) (hp : aa + na ≤ ma ∧ na ≤ 1000000) : CallR Try.prog 80 [.loose ⟨0, 3, aa, 0⟩ na] [[(0, (false, .cols ma [.int .i64 ta, .int .i64 va, .int .i64 ga]))]] 1 (.own 2 3 na) [(2, (true, .cols na [.int .i64 (fun j => ta (j + aa)), .int .i64 (fun j => va (j + aa)), .int .i64 (fun j => ga (j + aa))])) :: [(0, (false, .cols ma [.int .i64 ta, .int .i64 va, .int .i64 ga]))]] 40 ∧ ∃ F, Try.prog.funcs[80]? = some F ∧ F.body.isSome = true ∧ (F.name == "runtime.NumGoroutine") = false :=
  ⟨loose_cases (fun h => (c37s aa na ma ta va ga hp h).1) (fun h b => by cases b; exact (c37y aa na ma ta va ga hp h).1; exact (c37z aa na ma ta va ga hp h).1), by
    rcases Nat.eq_zero_or_pos na with h | h
    · exact (c37y aa na ma ta va ga hp h).2
    · exact (c37s aa na ma ta va ga hp h).2⟩
theorem k37_ok  : k37.ok Try.prog := by
  intro x hx
  obtain ⟨⟨aa, na, ma, ta, va, ga, _⟩, _⟩ := x
  have hp : aa + na ≤ ma ∧ na ≤ 1000000 := of_decide_eq_true hx
  obtain ⟨h1, h2⟩ := c37 aa na ma ta va ga hp
  exact ⟨⟨40, (by decide : 1 + 1 + 1 ≤ 40), h1⟩, h2⟩
noncomputable abbrev w38 {α : Type} (g : Nat → Nat → Nat → (Nat → Bool) → α) (x : (Nat × Nat × Nat × (Nat → Bool) × Unit) × Unit) : α := g x.1.1 x.1.2.1 x.1.2.2.1 x.1.2.2.2.1
noncomputable def k38  : Con := ⟨81, [.one (.list [.bool])], w38 (fun aa na ma ta => decide (aa + na ≤ ma ∧ na ≤ 1000000)), w38 (fun aa na ma ta => .own 2 1 na), w38 (fun aa na ma ta => [.cols na [.bool (fun j => ta (j + aa))]]), fun _ _ => .dead⟩
theorem e38s (test : Bool → Prop → Prop → Prop) (Kst : List It → List PV → Heap → Nat → Prop) (Kret : PV → Heap → Nat → Prop) (aa na ma : Nat) (ta : Nat → Bool) :
  (run test Try.env true noX true 300 ⟨81, [.cd (mkFn Try.f81).body], argT 0 [.sl ⟨0, 1, aa, 0⟩ na], [[], [(0, (false, .cols ma [.bool ta]))]], 1⟩ (proj 1 [] Kst Kret)) =
  (test (decide (0 + na ≤ 1000000))
  (test true
    (test (decide (aa + na ≤ ma))
      (Kret (PV.own (2) (1) (0 + na))
        [[(0, false, Blk.cols ma [Col.bool ta]),
            (2, true, Blk.cols (0 + na) [Col.bool fun j => ta (j + aa)])]]
        (3))
      False)
    False)
  False) := by kernel_rfl
theorem c38s (aa na ma : Nat) (ta : Nat → Bool) (hp : aa + na ≤ ma ∧ na ≤ 1000000) (h0 : 0 < na) : CallR Try.prog 81 [.sl ⟨0, 1, aa, 0⟩ na] [[(0, (false, .cols ma [.bool ta]))]] 1 (.own 2 1 na) [(2, (true, .cols na [.bool (fun j => ta (j + aa))])) :: [(0, (false, .cols ma [.bool ta]))]] 40 ∧ ∃ F, Try.prog.funcs[81]? = some F ∧ F.body.isSome = true ∧ (F.name == "runtime.NumGoroutine") = false := by
  refine @ret_eq _ _ Try.envOk Try.mixed _ noX_ok 81 (mkFn Try.f81) [.sl ⟨0, 1, aa, 0⟩ na] [[(0, (false, .cols ma [.bool ta]))]] [(2, (true, .cols na [.bool (fun j => ta (j + aa))])) :: [(0, (false, .cols ma [.bool ta]))]] 1 40 (.own 2 1 na) true 300 rfl (by decide) (by simp) (names_of rfl) _ (e38s cond _ _ aa na ma ta) ?_
  repeat' first
    | with_reducible refine cond_yes rfl ?_
    | with_reducible refine cond_no rfl ?_
    | (with_reducible refine cond_intro (fun h => ?_) (fun h => ?_)) <;> (try simp only [lim64, decide_eq_true_eq, decide_eq_false_iff_not, reduceCtorEq, Int.toNat_natCast, Bool.not_eq_true', Bool.not_eq_false', Bool.and_eq_true, Bool.or_eq_true, Bool.and_eq_false_iff, Bool.or_eq_false_iff, bne_iff_ne, beq_iff_eq, bne_eq_false_iff_eq, beq_eq_false_iff_ne, ne_eq] at h)
  all_goals first
    | with_reducible apply ret_k
    | omega
  repeat' first
    | with_reducible exact rns_nil
    | with_reducible refine rns_cons ?_ ?_
    | with_reducible refine rn_tup ?_
    | with_reducible refine rn_agg ?_
    | with_reducible refine rn_int ?_
    | with_reducible refine rn_tf ?_
    | with_reducible refine rn_bool_tf ?_
    | with_reducible refine rn_bool ?_
    | with_reducible refine rn_str ?_
    | with_reducible exact rn_nils
    | with_reducible refine rn_own_nils ?_
    | with_reducible refine rn_own ?_ ?_ ?_
    | with_reducible refine rn_own_sl ?_ ?_ ?_ ?_ ?_
    | with_reducible refine rn_own_loose ?_ ?_ ?_ ?_
    | with_reducible refine rn_loose ?_ ?_ ?_ ?_
    | with_reducible refine rn_loose_sl ?_ ?_ ?_ ?_
    | exact use_lo rfl
    | exact use_own rfl
    | exact nm_k rfl
    | exact nm_lo rfl
    | ((with_reducible refine (id : pos _ = pos _ → _) ?_); exact rfl)
    | ((with_reducible refine (id : pos _ = 0 → _) ?_); exact rfl)
    | ((with_reducible refine (id : Nat.ble _ _ = true → _) ?_); exact rfl)
    | ((with_reducible refine (id : injL _ _ = true → _) ?_); exact rfl)
    | ((with_reducible refine (id : plainC _ = true → _) ?_); exact rfl)
    | ((with_reducible refine (id : hget _ _ = some _ → _) ?_); exact rfl)
    | with_reducible exact (id : (_ : Bool) = true → _ = true)
    | with_reducible exact entl_nil
    | with_reducible refine entl_bor ?_ ?_ ?_ ?_
    | refine entl_new (use_own rfl) (by rfl) ?_ ?_ ?_
    | refine entl_rows (use_own rfl) (by rfl) rfl ?_ (nthc_all ?_) ?_
    | refine entl_zero (use_own rfl) (by rfl) (by simp) (by omega) ?_
    | with_reducible exact rcs_nil
    | with_reducible refine rcs_int (fun j hj => ?_) ?_
    | with_reducible refine rcs_bool (fun j hj => ?_) ?_
    | with_reducible refine rcs_str (fun j hj => ?_) ?_
    | refine entl_fresh (k := 2) (use_own rfl) (fresh_ok (n := 39) rfl) ?_
    | with_reducible rfl
  all_goals try exact (0 : Nat)
  all_goals try ((with_reducible refine (id : injL _ _ = true → _) ?_); exact rfl)
  all_goals first
    | omega
    | skip
theorem e38z (test : Bool → Prop → Prop → Prop) (Kst : List It → List PV → Heap → Nat → Prop) (Kret : PV → Heap → Nat → Prop) (aa na ma : Nat) (ta : Nat → Bool) :
  (run test Try.env true noX true 300 ⟨81, [.cd (mkFn Try.f81).body], argT 0 [.zer true], [[], [(0, (false, .cols ma [.bool ta]))]], 1⟩ (proj 1 [] Kst Kret)) =
  (Kret (PV.own (1) (1) (0))
  [[(0, false, Blk.cols ma [Col.bool ta]), (1, true, Blk.cells [])]] (2)) := by kernel_rfl
theorem c38z (aa na ma : Nat) (ta : Nat → Bool) (hp : aa + na ≤ ma ∧ na ≤ 1000000) (h0 : na = 0) : CallR Try.prog 81 [.zer true] [[(0, (false, .cols ma [.bool ta]))]] 1 (.own 2 1 na) [(2, (true, .cols na [.bool (fun j => ta (j + aa))])) :: [(0, (false, .cols ma [.bool ta]))]] 40 ∧ ∃ F, Try.prog.funcs[81]? = some F ∧ F.body.isSome = true ∧ (F.name == "runtime.NumGoroutine") = false := by
  refine @ret_eq _ _ Try.envOk Try.mixed _ noX_ok 81 (mkFn Try.f81) [.zer true] [[(0, (false, .cols ma [.bool ta]))]] [(2, (true, .cols na [.bool (fun j => ta (j + aa))])) :: [(0, (false, .cols ma [.bool ta]))]] 1 40 (.own 2 1 na) true 300 rfl (by decide) (by simp) (names_of rfl) _ (e38z cond _ _ aa na ma ta) ?_
  repeat' first
    | with_reducible refine cond_yes rfl ?_
    | with_reducible refine cond_no rfl ?_
    | (with_reducible refine cond_intro (fun h => ?_) (fun h => ?_)) <;> (try simp only [lim64, decide_eq_true_eq, decide_eq_false_iff_not, reduceCtorEq, Int.toNat_natCast, Bool.not_eq_true', Bool.not_eq_false', Bool.and_eq_true, Bool.or_eq_true, Bool.and_eq_false_iff, Bool.or_eq_false_iff, bne_iff_ne, beq_iff_eq, bne_eq_false_iff_eq, beq_eq_false_iff_ne, ne_eq] at h)
  all_goals first
    | with_reducible apply ret_k
    | omega
  repeat' first
    | with_reducible exact rns_nil
    | with_reducible refine rns_cons ?_ ?_
    | with_reducible refine rn_tup ?_
    | with_reducible refine rn_agg ?_
    | with_reducible refine rn_int ?_
    | with_reducible refine rn_tf ?_
    | with_reducible refine rn_bool_tf ?_
    | with_reducible refine rn_bool ?_
    | with_reducible refine rn_str ?_
    | with_reducible exact rn_nils
    | with_reducible refine rn_own_nils ?_
    | with_reducible refine rn_own ?_ ?_ ?_
    | with_reducible refine rn_own_sl ?_ ?_ ?_ ?_ ?_
    | with_reducible refine rn_own_loose ?_ ?_ ?_ ?_
    | with_reducible refine rn_loose ?_ ?_ ?_ ?_
    | with_reducible refine rn_loose_sl ?_ ?_ ?_ ?_
    | exact use_lo rfl
    | exact use_own rfl
    | exact nm_k rfl
    | exact nm_lo rfl
    | ((with_reducible refine (id : pos _ = pos _ → _) ?_); exact rfl)
    | ((with_reducible refine (id : pos _ = 0 → _) ?_); exact rfl)
    | ((with_reducible refine (id : Nat.ble _ _ = true → _) ?_); exact rfl)
    | ((with_reducible refine (id : injL _ _ = true → _) ?_); exact rfl)
    | ((with_reducible refine (id : plainC _ = true → _) ?_); exact rfl)
    | ((with_reducible refine (id : hget _ _ = some _ → _) ?_); exact rfl)
    | with_reducible exact (id : (_ : Bool) = true → _ = true)
    | with_reducible exact entl_nil
    | with_reducible refine entl_bor ?_ ?_ ?_ ?_
    | refine entl_new (use_own rfl) (by rfl) ?_ ?_ ?_
    | refine entl_rows (use_own rfl) (by rfl) rfl ?_ (nthc_all ?_) ?_
    | refine entl_zero (use_own rfl) (by rfl) (by simp) (by omega) ?_
    | with_reducible exact rcs_nil
    | with_reducible refine rcs_int (fun j hj => ?_) ?_
    | with_reducible refine rcs_bool (fun j hj => ?_) ?_
    | with_reducible refine rcs_str (fun j hj => ?_) ?_
    | refine entl_fresh (k := 2) (use_own rfl) (fresh_ok (n := 39) rfl) ?_
    | with_reducible rfl
  all_goals try exact (0 : Nat)
  all_goals try ((with_reducible refine (id : injL _ _ = true → _) ?_); exact rfl)
  all_goals first
    | omega
    | skip
theorem e38y (test : Bool → Prop → Prop → Prop) (Kst : List It → List PV → Heap → Nat → Prop) (Kret : PV → Heap → Nat → Prop) (aa na ma : Nat) (ta : Nat → Bool) :
  (run test Try.env true noX true 300 ⟨81, [.cd (mkFn Try.f81).body], argT 0 [.zer false], [[], [(0, (false, .cols ma [.bool ta]))]], 1⟩ (proj 1 [] Kst Kret)) =
  (Kret PV.nils [[(0, false, Blk.cols ma [Col.bool ta])]] (1)) := by kernel_rfl
theorem c38y (aa na ma : Nat) (ta : Nat → Bool) (hp : aa + na ≤ ma ∧ na ≤ 1000000) (h0 : na = 0) : CallR Try.prog 81 [.zer false] [[(0, (false, .cols ma [.bool ta]))]] 1 (.own 2 1 na) [(2, (true, .cols na [.bool (fun j => ta (j + aa))])) :: [(0, (false, .cols ma [.bool ta]))]] 40 ∧ ∃ F, Try.prog.funcs[81]? = some F ∧ F.body.isSome = true ∧ (F.name == "runtime.NumGoroutine") = false := by
  refine @ret_eq _ _ Try.envOk Try.mixed _ noX_ok 81 (mkFn Try.f81) [.zer false] [[(0, (false, .cols ma [.bool ta]))]] [(2, (true, .cols na [.bool (fun j => ta (j + aa))])) :: [(0, (false, .cols ma [.bool ta]))]] 1 40 (.own 2 1 na) true 300 rfl (by decide) (by simp) (names_of rfl) _ (e38y cond _ _ aa na ma ta) ?_
  repeat' first
    | with_reducible refine cond_yes rfl ?_
    | with_reducible refine cond_no rfl ?_
    | (with_reducible refine cond_intro (fun h => ?_) (fun h => ?_)) <;> (try simp only [lim64, decide_eq_true_eq, decide_eq_false_iff_not, reduceCtorEq, Int.toNat_natCast, Bool.not_eq_true', Bool.not_eq_false', Bool.and_eq_true, Bool.or_eq_true, Bool.and_eq_false_iff, Bool.or_eq_false_iff, bne_iff_ne, beq_iff_eq, bne_eq_false_iff_eq, beq_eq_false_iff_ne, ne_eq] at h)
  all_goals first
    | with_reducible apply ret_k
    | omega
  repeat' first
    | with_reducible exact rns_nil
    | with_reducible refine rns_cons ?_ ?_
    | with_reducible refine rn_tup ?_
    | with_reducible refine rn_agg ?_
    | with_reducible refine rn_int ?_
    | with_reducible refine rn_tf ?_
    | with_reducible refine rn_bool_tf ?_
    | with_reducible refine rn_bool ?_
    | with_reducible refine rn_str ?_
    | with_reducible exact rn_nils
    | with_reducible refine rn_own_nils ?_
    | with_reducible refine rn_own ?_ ?_ ?_
    | with_reducible refine rn_own_sl ?_ ?_ ?_ ?_ ?_
    | with_reducible refine rn_own_loose ?_ ?_ ?_ ?_
    | with_reducible refine rn_loose ?_ ?_ ?_ ?_
    | with_reducible refine rn_loose_sl ?_ ?_ ?_ ?_
    | exact use_lo rfl
    | exact use_own rfl
    | exact nm_k rfl
    | exact nm_lo rfl
    | ((with_reducible refine (id : pos _ = pos _ → _) ?_); exact rfl)
    | ((with_reducible refine (id : pos _ = 0 → _) ?_); exact rfl)
    | ((with_reducible refine (id : Nat.ble _ _ = true → _) ?_); exact rfl)
    | ((with_reducible refine (id : injL _ _ = true → _) ?_); exact rfl)
    | ((with_reducible refine (id : plainC _ = true → _) ?_); exact rfl)
    | ((with_reducible refine (id : hget _ _ = some _ → _) ?_); exact rfl)
    | with_reducible exact (id : (_ : Bool) = true → _ = true)
    | with_reducible exact entl_nil
    | with_reducible refine entl_bor ?_ ?_ ?_ ?_
    | refine entl_new (use_own rfl) (by rfl) ?_ ?_ ?_
    | refine entl_rows (use_own rfl) (by rfl) rfl ?_ (nthc_all ?_) ?_
    | refine entl_zero (use_own rfl) (by rfl) (by simp) (by omega) ?_
    | with_reducible exact rcs_nil
    | with_reducible refine rcs_int (fun j hj => ?_) ?_
    | with_reducible refine rcs_bool (fun j hj => ?_) ?_
    | with_reducible refine rcs_str (fun j hj => ?_) ?_
    | refine entl_fresh (k := 2) (use_own rfl) (fresh_ok (n := 39) rfl) ?_
    | with_reducible rfl
  all_goals try exact (0 : Nat)
  all_goals try ((with_reducible refine (id : injL _ _ = true → _) ?_); exact rfl)
  all_goals first
    | omega
    | skip
theorem c38 (aa na ma : Nat) (ta : Nat → Bool) (hp : aa + na ≤ ma ∧ na ≤ 1000000) : CallR Try.prog 81 [.loose ⟨0, 1, aa, 0⟩ na] [[(0, (false, .cols ma [.bool ta]))]] 1 (.own 2 1 na) [(2, (true, .cols na [.bool (fun j => ta (j + aa))])) :: [(0, (false, .cols ma [.bool ta]))]] 40 ∧ ∃ F, Try.prog.funcs[81]? = some F ∧ F.body.isSome = true ∧ (F.name == "runtime.NumGoroutine") = false :=
  ⟨loose_cases (fun h => (c38s aa na ma ta hp h).1) (fun h b => by cases b; exact (c38y aa na ma ta hp h).1; exact (c38z aa na ma ta hp h).1), by
    rcases Nat.eq_zero_or_pos na with h | h
    · exact (c38y aa na ma ta hp h).2
    · exact (c38s aa na ma ta hp h).2⟩
theorem k38_ok  : k38.ok Try.prog := by
  intro x hx
  obtain ⟨⟨aa, na, ma, ta, _⟩, _⟩ := x
  have hp : aa + na ≤ ma ∧ na ≤ 1000000 := of_decide_eq_true hx
  obtain ⟨h1, h2⟩ := c38 aa na ma ta hp
  exact ⟨⟨40, (by decide : 1 + 1 + 1 ≤ 40), h1⟩, h2⟩
namespace S
def okR (u d w : Int) : Bool := decide (-1099511627776 ≤ u ∧ u ≤ 1099511627776 ∧ -1099511627776 ≤ d ∧ d ≤ 1099511627776 ∧ 1 ≤ w ∧ w ≤ 1073741824)
def relE (e : Int) (u d w : Nat → Int) : Nat → Nat → Int
  | _, 0 => e
  | i, k + 1 => if okR (u i) (d i) (w i) = true then (if u i ≤ d i then 15 else relE e u d w (i + 1) k) else 6
def magE (n : Nat) (u d w : Nat → Int) (no : Nat) : Int := if n = 0 then 7 else if 40 < n then 3 else relE (if no = n then 0 else 1) u d w 0 n
end S
inductive St21 where
  | h0 (x0 : Int)
abbrev Rt21  := Int
noncomputable def V21 (ar nr mr : Nat) (tr vr gr : NI) (ao no mo : Nat) (to : Nat → Bool) (r : Rt21) : PV := PV.int .i64 r
noncomputable def N21 (ar nr mr : Nat) (tr vr gr : NI) (ao no mo : Nat) (to : Nat → Bool) (r : Rt21) : List Blk := []
noncomputable def I21 (ar nr mr : Nat) (tr vr gr : NI) (ao no mo : Nat) (to : Nat → Bool) : St21 → Hd
  | .h0 x0 => ⟨hd Try.f60 0, [PV.ptr (PA.mk (2) (0) (0) (0)),
 PV.loose (PA.mk (0) (3) ar (0)) nr, PV.int .i64 (↑nr : Int),
 PV.int .i64 x0], [[(2, (true, Blk.cells
 [PV.loose (PA.mk (0) (3) ar (0)) nr,
 PV.loose (PA.mk (1) (1) ao (0)) no]))], [(0, (false, .cols mr [.int .i64 tr, .int .i64 vr, .int .i64 gr])), (1, (false, .cols mo [.bool to]))]], 3⟩
noncomputable def q21 (ar nr mr : Nat) (tr vr gr : NI) (ao no mo : Nat) (to : Nat → Bool) : St21 → Option (St21 ⊕ Rt21) | .h0 x0 => bif (decide (x0 < (↑nr : Int))) then (bif (decide ((0 : Int) ≤ x0 ∧ x0 < (↑nr : Int))) then (bif (decide (Int.toNat x0 + ar < mr)) then (bif (decide (tr (Int.toNat x0 + ar) ≥ -1099511627776)) then (bif (decide (tr (Int.toNat x0 + ar) ≤ 1099511627776)) then (bif (decide (vr (Int.toNat x0 + ar) ≥ -1099511627776)) then (bif (decide (vr (Int.toNat x0 + ar) ≤ 1099511627776)) then (bif (decide (gr (Int.toNat x0 + ar) < 1)) then (some (.inr ((6 : Int)))) else (bif (decide (gr (Int.toNat x0 + ar) > 1073741824)) then (some (.inr ((6 : Int)))) else (bif (decide (tr (Int.toNat x0 + ar) ≤ vr (Int.toNat x0 + ar))) then (some (.inr ((15 : Int)))) else (bif (lim .i64 (x0 + 1)) then (some (.inl (.h0 (x0 + 1)))) else (none))))) else (some (.inr ((6 : Int))))) else (some (.inr ((6 : Int))))) else (some (.inr ((6 : Int))))) else (some (.inr ((6 : Int))))) else (none)) else (none)) else (bif ((↑no : Int) != (↑nr : Int)) then (some (.inr ((1 : Int)))) else (some (.inr ((0 : Int)))))
noncomputable def p21 (ar nr mr : Nat) (tr vr gr : NI) (ao no mo : Nat) (to : Nat → Bool) : Option (St21 ⊕ Rt21) := bif ((↑nr : Int) == 0) then (some (.inr ((7 : Int)))) else (bif (decide ((↑nr : Int) > 40)) then (some (.inr ((3 : Int)))) else (some (.inl (.h0 ((0 : Int))))))
def Te21 (test : TT) (Kst : KS) (Kret : KR) (ar nr mr : Nat) (tr vr gr : NI) (ao no mo : Nat) (to : Nat → Bool) : Prop := test ((↑nr : Int) == 0) (Kret (PV.int .i64 (7 : Int)) ([[(1, false, Blk.cols mo [Col.bool to]), (0, false, Blk.cols mr [Col.int .i64 tr, Col.int .i64 vr, Col.int .i64 gr])]]) (3)) (test (decide ((↑nr : Int) > 40)) (Kret (PV.int .i64 (3 : Int)) ([[(1, false, Blk.cols mo [Col.bool to]), (0, false, Blk.cols mr [Col.int .i64 tr, Col.int .i64 vr, Col.int .i64 gr])]]) (3)) (Kst (hd Try.f60 0) ([PV.ptr (PA.mk (2) (0) (0) (0)), PV.loose (PA.mk (0) (3) ar (0)) nr, PV.int .i64 (↑nr : Int), PV.int .i64 (0 : Int)]) ([[(1, false, Blk.cols mo [Col.bool to]), (0, false, Blk.cols mr [Col.int .i64 tr, Col.int .i64 vr, Col.int .i64 gr]), (2, true, Blk.cells [PV.loose (PA.mk (0) (3) ar (0)) nr, PV.loose (PA.mk (1) (1) ao (0)) no])]]) (3)))
theorem te21 (test : TT) (Kst : KS) (Kret : KR) (ar nr mr : Nat) (tr vr gr : NI) (ao no mo : Nat) (to : Nat → Bool) : run test Try.env true noX true 400 ⟨60, [.cd (mkFn Try.f60).body], argT 0 [.agg [.loose ⟨0, 3, ar, 0⟩ nr, .loose ⟨1, 1, ao, 0⟩ no]], [[], [(0, (false, .cols mr [.int .i64 tr, .int .i64 vr, .int .i64 gr])), (1, (false, .cols mo [.bool to]))]], 2⟩ (proj 2 [1, 14, 15, 16] Kst Kret) =
  Te21 test Kst Kret ar nr mr tr vr gr ao no mo to := by kernel_rfl
noncomputable abbrev u21_0_0 (mr : Nat) (tr vr gr : Nat → Int) (mo : Nat) (to : Nat → Bool) := ([[(1, false, Blk.cols mo [Col.bool to]), (0, false, Blk.cols mr [Col.int IntKind.i64 tr, Col.int IntKind.i64 vr, Col.int IntKind.i64 gr])]])
def T21_0 (test : TT) (Kst : KS) (Kret : KR) (ar nr mr : Nat) (tr vr gr : NI) (ao no mo : Nat) (to : Nat → Bool) (x0 : Int) : Prop := test (decide (x0 < (↑nr : Int))) (test (decide ((0 : Int) ≤ x0 ∧ x0 < (↑nr : Int))) (test (decide (Int.toNat x0 + ar < mr)) (test (decide (Int.toNat x0 + ar < mr)) (test (decide (Int.toNat x0 + ar < mr)) (test (decide (tr (Int.toNat x0 + ar) ≥ -1099511627776)) (test (decide (tr (Int.toNat x0 + ar) ≤ 1099511627776)) (test (decide (vr (Int.toNat x0 + ar) ≥ -1099511627776)) (test (decide (vr (Int.toNat x0 + ar) ≤ 1099511627776)) (test (decide (gr (Int.toNat x0 + ar) < 1)) (Kret (PV.int .i64 (6 : Int)) (u21_0_0 mr tr vr gr mo to) (4)) (test (decide (gr (Int.toNat x0 + ar) > 1073741824)) (Kret (PV.int .i64 (6 : Int)) (u21_0_0 mr tr vr gr mo to) (4)) (test (decide (tr (Int.toNat x0 + ar) ≤ vr (Int.toNat x0 + ar))) (Kret (PV.int .i64 (15 : Int)) (u21_0_0 mr tr vr gr mo to) (4)) (test (lim .i64 (x0 + 1)) (Kst (hd Try.f60 0) ([PV.ptr (PA.mk (2) (0) (0) (0)), PV.loose (PA.mk (0) (3) ar (0)) nr, PV.int .i64 (↑nr : Int), PV.int .i64 (x0 + 1)]) ([[(1, false, Blk.cols mo [Col.bool to]), (0, false, Blk.cols mr [Col.int .i64 tr, Col.int .i64 vr, Col.int .i64 gr]), (2, true, Blk.cells [PV.loose (PA.mk (0) (3) ar (0)) nr, PV.loose (PA.mk (1) (1) ao (0)) no])]]) (4)) (False))))) (Kret (PV.int .i64 (6 : Int)) (u21_0_0 mr tr vr gr mo to) (4))) (Kret (PV.int .i64 (6 : Int)) (u21_0_0 mr tr vr gr mo to) (4))) (Kret (PV.int .i64 (6 : Int)) (u21_0_0 mr tr vr gr mo to) (4))) (Kret (PV.int .i64 (6 : Int)) (u21_0_0 mr tr vr gr mo to) (4))) (False)) (False)) (False)) (False)) (test ((↑no : Int) != (↑nr : Int)) (Kret (PV.int .i64 (1 : Int)) (u21_0_0 mr tr vr gr mo to) (3)) (Kret (PV.int .i64 (0 : Int)) (u21_0_0 mr tr vr gr mo to) (3)))
theorem t21_0 (test : TT) (Kst : KS) (Kret : KR) (ar nr mr : Nat) (tr vr gr : NI) (ao no mo : Nat) (to : Nat → Bool) (x0 : Int) : run test Try.env true noX true 400 ⟨60, hd Try.f60 0, zipT [1, 14, 15, 16] [PV.ptr (PA.mk (2) (0) (0) (0)),
 PV.loose (PA.mk (0) (3) ar (0)) nr, PV.int .i64 (↑nr : Int),
 PV.int .i64 x0], [[(2, (true, Blk.cells
 [PV.loose (PA.mk (0) (3) ar (0)) nr,
 PV.loose (PA.mk (1) (1) ao (0)) no]))], [(0, (false, .cols mr [.int .i64 tr, .int .i64 vr, .int .i64 gr])), (1, (false, .cols mo [.bool to]))]], 3⟩ (proj 2 [1, 14, 15, 16] Kst Kret) =
  T21_0 test Kst Kret ar nr mr tr vr gr ao no mo to x0 := by kernel_rfl
noncomputable abbrev J21 (ar nr mr : Nat) (tr : NI) (vr : NI) (gr : NI) (ao no mo : Nat) (to : Nat → Bool) : Rt21 → Heap := fun r => [newL (2 + 1) ((N21 ar nr mr tr vr gr ao no mo to) r) ++ [(0, (false, .cols mr [.int .i64 tr, .int .i64 vr, .int .i64 gr])), (1, (false, .cols mo [.bool to]))]]
attribute [local irreducible] Int.subNatNat in
theorem be21 (ar nr mr : Nat) (tr vr gr : NI) (ao no mo : Nat) (to : Nat → Bool) (Kst : KS) (Kret : KR) (x : St21 ⊕ Rt21) (hS : HS 2 400 ((I21 ar nr mr tr vr gr ao no mo to)) Kst x) (hR : HR 2 400 ((V21 ar nr mr tr vr gr ao no mo to)) (J21 ar nr mr tr vr gr ao no mo to) Kret x) (h : p21 ar nr mr tr vr gr ao no mo to = some x) : Te21 cond Kst Kret ar nr mr tr vr gr ao no mo to := by
  unfold Te21
  unfold p21 at h
  exact bif_split h (fun c0 h => ret_at hR _ h (fun n => n) rfl rfl rfl (rn_int rfl) rfl (entl_bor (use_lo rfl) rfl rfl (entl_bor (use_lo rfl) rfl rfl entl_nil))) (fun c0 h => bif_split h (fun c1 h => ret_at hR _ h (fun n => n) rfl rfl rfl (rn_int rfl) rfl (entl_bor (use_lo rfl) rfl rfl (entl_bor (use_lo rfl) rfl rfl entl_nil))) (fun c1 h => stop_at hS _ h (fun n => bif Nat.beq n 2 then 2 else n) rfl rfl rfl ⟨(rn_ptr (use_own rfl) rfl rfl), ⟨(rn_loose (use_lo rfl) rfl rfl rfl), ⟨(rn_int rfl), ⟨(rn_int rfl), trivial⟩⟩⟩⟩ rfl (entl_b (use_own rfl) rfl (by simp) (rb_cells ⟨(rn_loose (use_lo rfl) rfl rfl rfl), (rn_loose (use_lo rfl) rfl rfl rfl), trivial⟩) (entl_bor (use_lo rfl) rfl rfl (entl_bor (use_lo rfl) rfl rfl entl_nil)))))
attribute [local irreducible] Int.subNatNat in
theorem b21_0 (ar nr mr : Nat) (tr vr gr : NI) (ao no mo : Nat) (to : Nat → Bool) (Kst : KS) (Kret : KR) (x : St21 ⊕ Rt21) (hS : HS 2 400 ((I21 ar nr mr tr vr gr ao no mo to)) Kst x) (hR : HR 2 400 ((V21 ar nr mr tr vr gr ao no mo to)) (J21 ar nr mr tr vr gr ao no mo to) Kret x) (x0 : Int) (h : q21 ar nr mr tr vr gr ao no mo to (.h0 x0) = some x) : T21_0 cond Kst Kret ar nr mr tr vr gr ao no mo to x0 := by
  unfold T21_0
  rw [q21] at h
  refine bif_split h (fun c0 h => bif_split h (fun c1 h => bif_split h (fun c2 h => cond_yes c2 (cond_yes c2 (bif_split h (fun c3 h => bif_split h (fun c4 h => bif_split h (fun c5 h => bif_split h (fun c6 h => bif_split h (fun c7 h => ?_) (fun c7 h => bif_split h (fun c8 h => ?_) (fun c8 h => bif_split h (fun c9 h => ?_) (fun c9 h => bif_split h (fun c10 h => stop_at hS _ h (fun n => bif Nat.beq n 2 then 2 else n) rfl rfl rfl ⟨(rn_ptr (use_own rfl) rfl rfl), ⟨(rn_loose (use_lo rfl) rfl rfl rfl), ⟨(rn_int rfl), ⟨(rn_int rfl), trivial⟩⟩⟩⟩ rfl (entl_b (use_own rfl) rfl (by simp) (rb_cells ⟨(rn_loose (use_lo rfl) rfl rfl rfl), (rn_loose (use_lo rfl) rfl rfl rfl), trivial⟩) (entl_bor (use_lo rfl) rfl rfl (entl_bor (use_lo rfl) rfl rfl entl_nil)))) (fun c10 h => ?_))))) (fun c6 h => ?_)) (fun c5 h => ?_)) (fun c4 h => ?_)) (fun c3 h => ?_)))) (fun c2 h => ?_)) (fun c1 h => ?_)) (fun c0 h => bif_split h (fun c1 h => ?_) (fun c1 h => ?_))
  all_goals first
    | exact ret_at hR _ h (fun n => n) rfl rfl rfl (rn_int rfl) rfl (entl_bor (use_lo rfl) rfl rfl (entl_bor (use_lo rfl) rfl rfl entl_nil))
    | exact no_some h
theorem a21 (ar nr mr : Nat) (tr vr gr : NI) (ao no mo : Nat) (to : Nat → Bool) {r : Rt21} (h : Goes ((q21 ar nr mr tr vr gr ao no mo to)) ((p21 ar nr mr tr vr gr ao no mo to)) r) : CallR Try.prog 60 [.agg [.loose ⟨0, 3, ar, 0⟩ nr, .loose ⟨1, 1, ao, 0⟩ no]] [[(0, (false, .cols mr [.int .i64 tr, .int .i64 vr, .int .i64 gr])), (1, (false, .cols mo [.bool to]))]] 2 ((V21 ar nr mr tr vr gr ao no mo to) r) ((J21 ar nr mr tr vr gr ao no mo to) r) 400 ∧ ∃ F, Try.prog.funcs[60]? = some F ∧ F.body.isSome = true ∧ (F.name == "runtime.NumGoroutine") = false := by
  refine dec_calls (f := 60) (lo := 2) (hi := 400) (H := [[(0, (false, .cols mr [.int .i64 tr, .int .i64 vr, .int .i64 gr])), (1, (false, .cols mo [.bool to]))]]) (args := [.agg [.loose ⟨0, 3, ar, 0⟩ nr, .loose ⟨1, 1, ao, 0⟩ no]]) Try.envOk Try.mixed noX_ok ((I21 ar nr mr tr vr gr ao no mo to)) ((V21 ar nr mr tr vr gr ao no mo to)) (J21 ar nr mr tr vr gr ao no mo to) (fn := mkFn Try.f60) (ts := [1, 14, 15, 16]) (n := 400) rfl (by decide) (by simp) (names_of rfl) ?_ ?_ ?_ h
  · intro s; cases s <;> exact ⟨hd_ok _ _, by simp [I21], names_of rfl, Nat.le_of_ble_eq_true rfl⟩
  · intro Kst Kret x hS hR h
    exact Holds.eq (te21 cond Kst Kret ar nr mr tr vr gr ao no mo to) (be21 ar nr mr tr vr gr ao no mo to Kst Kret x hS hR h)
  · intro Kst Kret x hS hR s h
    cases s with
    | h0 x0 => exact Holds.eq (t21_0 cond Kst Kret ar nr mr tr vr gr ao no mo to x0) (b21_0 ar nr mr tr vr gr ao no mo to Kst Kret x hS hR x0 h)
noncomputable abbrev w21 {α : Type} (g : Nat → Nat → Nat → (Nat → Int) → (Nat → Int) → (Nat → Int) → Nat → Nat → Nat → (Nat → Bool) → α) (x : ((Nat × Nat × Nat × (Nat → Int) × (Nat → Int) × (Nat → Int) × Unit) × (Nat × Nat × Nat × (Nat → Bool) × Unit) × Unit) × Unit) : α := g x.1.1.1 x.1.1.2.1 x.1.1.2.2.1 x.1.1.2.2.2.1 x.1.1.2.2.2.2.1 x.1.1.2.2.2.2.2.1 x.1.2.1.1 x.1.2.1.2.1 x.1.2.1.2.2.1 x.1.2.1.2.2.2.1
noncomputable def k21  : Con := ⟨60, [.agg [.list [.int .i64, .int .i64, .int .i64], .list [.bool]]], w21 (fun ar nr mr tr vr gr ao no mo to => decide (ar + nr ≤ mr ∧ nr ≤ 1000000)), w21 (fun ar nr mr tr vr gr ao no mo to => (V21 ar nr mr tr vr gr ao no mo to) (S.magE nr (fun j => tr (j + ar)) (fun j => vr (j + ar)) (fun j => gr (j + ar)) no)), w21 (fun ar nr mr tr vr gr ao no mo to => (N21 ar nr mr tr vr gr ao no mo to) (S.magE nr (fun j => tr (j + ar)) (fun j => vr (j + ar)) (fun j => gr (j + ar)) no)), fun _ _ => .dead⟩
theorem s21' (ar nr mr : Nat) (tr vr gr : Nat → Int) (ao no mo : Nat) (to : Nat → Bool) (hp : ar + nr ≤ mr ∧ nr ≤ 1000000) : ∀ k i : Nat, i + k = nr → Comes (q21 ar nr mr tr vr gr ao no mo to) (.h0 (i : Int)) (S.relE (if no = nr then 0 else 1) (fun j => tr (j + ar)) (fun j => vr (j + ar)) (fun j => gr (j + ar)) i k) := by
  obtain ⟨hp1, hp2⟩ := hp
  intro k
  induction k with
  | zero =>
    intro i hi
    apply Comes.of
    show Goes _ _ _
    (first | rw [q21] | unfold q21)
    repeat' (first | with_reducible refine goes_if (fun h => ?_) (fun h => ?_) <;> (try simp only [SH] at h) | exact goes_none.mpr (by omega))
    all_goals first | (exfalso; omega) | rfl | (refine Eq.mpr (congrArg (Comes _ _) ?_) True; simp only [S.relE, S.okR, decide_eq_true_eq]; (repeat' split) <;> first | rfl | omega | (exfalso; omega) | (exfalso; simp_all; done) | (exfalso; simp_all; omega) | simp_all) | (refine goes_inr.mpr ?_; simp only [S.relE, S.okR, decide_eq_true_eq]; (repeat' split) <;> first | rfl | omega | (exfalso; omega) | (exfalso; simp_all; done) | (exfalso; simp_all; omega) | simp_all)
  | succ k ih =>
    intro i hi
    have ih := ih (i + 1) (by omega)
    apply Comes.of
    show Goes _ _ _
    (first | rw [q21] | unfold q21)
    repeat' (first | with_reducible refine goes_if (fun h => ?_) (fun h => ?_) <;> (try simp only [SH] at h) | exact goes_none.mpr (by omega))
    all_goals first | (exfalso; omega) | rfl | (refine Eq.mpr (congrArg (Comes _ _) ?_) ih; simp only [S.relE, S.okR, decide_eq_true_eq]; (repeat' split) <;> first | rfl | omega | (exfalso; omega) | (exfalso; simp_all; done) | (exfalso; simp_all; omega) | simp_all) | (refine goes_inr.mpr ?_; simp only [S.relE, S.okR, decide_eq_true_eq]; (repeat' split) <;> first | rfl | omega | (exfalso; omega) | (exfalso; simp_all; done) | (exfalso; simp_all; omega) | simp_all)
theorem s21 (ar nr mr : Nat) (tr vr gr : Nat → Int) (ao no mo : Nat) (to : Nat → Bool) (hp : ar + nr ≤ mr ∧ nr ≤ 1000000) : Goes ((q21 ar nr mr tr vr gr ao no mo to)) ((p21 ar nr mr tr vr gr ao no mo to)) (S.magE nr (fun j => tr (j + ar)) (fun j => vr (j + ar)) (fun j => gr (j + ar)) no) := by
  have hm := s21' ar nr mr tr vr gr ao no mo to hp nr 0 (by omega)
  obtain ⟨hp1, hp2⟩ := hp
  unfold S.magE
  show Goes _ _ _
  unfold p21
  repeat' (first | with_reducible refine goes_if (fun h => ?_) (fun h => ?_) <;> (try simp only [SH] at h) | exact goes_none.mpr (by omega))
  all_goals first | (exfalso; omega) | (refine goes_inr.mpr ?_; (repeat' split) <;> first | rfl | omega) | (rw [if_neg (by omega), if_neg (by omega)]; exact hm)
theorem k21_ok  : k21.ok Try.prog := by
  intro x hx
  obtain ⟨⟨⟨ar, nr, mr, tr, vr, gr, _⟩, ⟨ao, no, mo, to, _⟩, _⟩, _⟩ := x
  obtain ⟨h1, h2⟩ := a21 ar nr mr tr vr gr ao no mo to (s21 ar nr mr tr vr gr ao no mo to (of_dec hx rfl))
  exact ⟨⟨400, (by decide : 2 + 1 + 0 ≤ 400), h1⟩, h2⟩
namespace S
def inE (t : Nat → Int) : Nat → Nat → Int
  | _, 0 => 0
  | i, k + 1 => if -1099511627776 ≤ t i ∧ t i ≤ 1099511627776 then inE t (i + 1) k else 6
def histE (n : Nat) (u d w : Nat → Int) (no nl : Nat) (t : Nat → Int) : Int := if magE n u d w no = 0 then (if 1000 < nl then 3 else inE t 0 nl) else magE n u d w no
def aft (u d : Int) (o : Bool) (x : Int) : Bool := bif decide (x ≥ u) then true else bif decide (x ≤ d) then false else o
end S
noncomputable def xA (test : Bool → Prop → Prop → Prop) : Ext := consX test [k21, k25, k37, k38]
theorem xA_ok  : ExtOk Try.prog (xA cond) := consX_ok ⟨k21_ok, k25_ok, k37_ok, k38_ok, trivial⟩
inductive St42 where
  | h0 (x0 : Int)
abbrev Rt42  := Int
noncomputable def V42 (ar nr mr : Nat) (tr vr gr : NI) (ao no mo : Nat) (to : Nat → Bool) (al nl ml : Nat) (tl : NI) (r : Rt42) : PV := PV.int .i64 r
noncomputable def N42 (ar nr mr : Nat) (tr vr gr : NI) (ao no mo : Nat) (to : Nat → Bool) (al nl ml : Nat) (tl : NI) (r : Rt42) : List Blk := []
noncomputable def I42 (ar nr mr : Nat) (tr vr gr : NI) (ao no mo : Nat) (to : Nat → Bool) (al nl ml : Nat) (tl : NI) : St42 → Hd
  | .h0 x0 => ⟨hd Try.f61 0, [PV.loose (PA.mk (2) (1) al (0)) nl, PV.int .i64 (↑nl : Int),
 PV.int .i64 x0], [[], [(0, (false, .cols mr [.int .i64 tr, .int .i64 vr, .int .i64 gr])), (1, (false, .cols mo [.bool to])), (2, (false, .cols ml [.int .i64 tl]))]], 3⟩
noncomputable def q42 (ar nr mr : Nat) (tr vr gr : NI) (ao no mo : Nat) (to : Nat → Bool) (al nl ml : Nat) (tl : NI) : St42 → Option (St42 ⊕ Rt42) | .h0 x0 => bif (decide (x0 < (↑nl : Int))) then (bif (decide ((0 : Int) ≤ x0 ∧ x0 < (↑nl : Int))) then (bif (decide (Int.toNat x0 + al < ml)) then (bif (decide (tl (Int.toNat x0 + al) ≥ -1099511627776)) then (bif (decide (tl (Int.toNat x0 + al) ≤ 1099511627776)) then (bif (lim .i64 (x0 + 1)) then (some (.inl (.h0 (x0 + 1)))) else (none)) else (some (.inr ((6 : Int))))) else (some (.inr ((6 : Int))))) else (none)) else (none)) else (some (.inr ((0 : Int))))
noncomputable def p42 (ar nr mr : Nat) (tr vr gr : NI) (ao no mo : Nat) (to : Nat → Bool) (al nl ml : Nat) (tl : NI) : Option (St42 ⊕ Rt42) := bif (decide (ar + nr ≤ mr ∧ nr ≤ 1000000)) then (bif (S.magE nr (fun j => tr (j + ar)) (fun j => vr (j + ar)) (fun j => gr (j + ar)) no != 0) then (some (.inr (S.magE nr (fun j => tr (j + ar)) (fun j => vr (j + ar)) (fun j => gr (j + ar)) no))) else (bif (decide ((↑nl : Int) > 1000)) then (some (.inr ((3 : Int)))) else (some (.inl (.h0 ((0 : Int))))))) else (none)
noncomputable abbrev u42_e_0 (mr : Nat) (tr vr gr : Nat → Int) (mo : Nat) (to : Nat → Bool) (ml : Nat) (tl : Nat → Int) := ([[(2, false, Blk.cols ml [Col.int IntKind.i64 tl]), (1, false, Blk.cols mo [Col.bool to]), (0, false, Blk.cols mr [Col.int IntKind.i64 tr, Col.int IntKind.i64 vr, Col.int IntKind.i64 gr])]])
def Te42 (test : TT) (Kst : KS) (Kret : KR) (ar nr mr : Nat) (tr vr gr : NI) (ao no mo : Nat) (to : Nat → Bool) (al nl ml : Nat) (tl : NI) : Prop := test (decide (ar + nr ≤ mr ∧ nr ≤ 1000000)) (test (S.magE nr (fun j => tr (j + ar)) (fun j => vr (j + ar)) (fun j => gr (j + ar)) no != 0) (Kret (PV.int .i64 (S.magE nr (fun j => tr (j + ar)) (fun j => vr (j + ar)) (fun j => gr (j + ar)) no)) (u42_e_0 mr tr vr gr mo to ml tl) (5)) (test (decide ((↑nl : Int) > 1000)) (Kret (PV.int .i64 (3 : Int)) (u42_e_0 mr tr vr gr mo to ml tl) (5)) (Kst (hd Try.f61 0) ([PV.loose (PA.mk (2) (1) al (0)) nl, PV.int .i64 (↑nl : Int), PV.int .i64 (0 : Int)]) (u42_e_0 mr tr vr gr mo to ml tl) (5)))) (False)
theorem te42 (test : TT) (Kst : KS) (Kret : KR) (ar nr mr : Nat) (tr vr gr : NI) (ao no mo : Nat) (to : Nat → Bool) (al nl ml : Nat) (tl : NI) : run test Try.env true (xA test) true 400 ⟨61, [.cd (mkFn Try.f61).body], argT 0 [.agg [.loose ⟨0, 3, ar, 0⟩ nr, .loose ⟨1, 1, ao, 0⟩ no], .loose ⟨2, 1, al, 0⟩ nl], [[], [(0, (false, .cols mr [.int .i64 tr, .int .i64 vr, .int .i64 gr])), (1, (false, .cols mo [.bool to])), (2, (false, .cols ml [.int .i64 tl]))]], 3⟩ (proj 3 [16, 17, 18] Kst Kret) =
  Te42 test Kst Kret ar nr mr tr vr gr ao no mo to al nl ml tl := by kernel_rfl
noncomputable abbrev u42_0_0 (mr : Nat) (tr vr gr : Nat → Int) (mo : Nat) (to : Nat → Bool) (ml : Nat) (tl : Nat → Int) := ([[(2, false, Blk.cols ml [Col.int IntKind.i64 tl]), (1, false, Blk.cols mo [Col.bool to]), (0, false, Blk.cols mr [Col.int IntKind.i64 tr, Col.int IntKind.i64 vr, Col.int IntKind.i64 gr])]])
def T42_0 (test : TT) (Kst : KS) (Kret : KR) (ar nr mr : Nat) (tr vr gr : NI) (ao no mo : Nat) (to : Nat → Bool) (al nl ml : Nat) (tl : NI) (x0 : Int) : Prop := test (decide (x0 < (↑nl : Int))) (test (decide ((0 : Int) ≤ x0 ∧ x0 < (↑nl : Int))) (test (decide (Int.toNat x0 + al < ml)) (test (decide (tl (Int.toNat x0 + al) ≥ -1099511627776)) (test (decide (tl (Int.toNat x0 + al) ≤ 1099511627776)) (test (lim .i64 (x0 + 1)) (Kst (hd Try.f61 0) ([PV.loose (PA.mk (2) (1) al (0)) nl, PV.int .i64 (↑nl : Int), PV.int .i64 (x0 + 1)]) (u42_0_0 mr tr vr gr mo to ml tl) (3)) (False)) (Kret (PV.int .i64 (6 : Int)) (u42_0_0 mr tr vr gr mo to ml tl) (3))) (Kret (PV.int .i64 (6 : Int)) (u42_0_0 mr tr vr gr mo to ml tl) (3))) (False)) (False)) (Kret (PV.int .i64 (0 : Int)) (u42_0_0 mr tr vr gr mo to ml tl) (3))
theorem t42_0 (test : TT) (Kst : KS) (Kret : KR) (ar nr mr : Nat) (tr vr gr : NI) (ao no mo : Nat) (to : Nat → Bool) (al nl ml : Nat) (tl : NI) (x0 : Int) : run test Try.env true (xA test) true 400 ⟨61, hd Try.f61 0, zipT [16, 17, 18] [PV.loose (PA.mk (2) (1) al (0)) nl, PV.int .i64 (↑nl : Int),
 PV.int .i64 x0], [[], [(0, (false, .cols mr [.int .i64 tr, .int .i64 vr, .int .i64 gr])), (1, (false, .cols mo [.bool to])), (2, (false, .cols ml [.int .i64 tl]))]], 3⟩ (proj 3 [16, 17, 18] Kst Kret) =
  T42_0 test Kst Kret ar nr mr tr vr gr ao no mo to al nl ml tl x0 := by kernel_rfl
noncomputable abbrev J42 (ar nr mr : Nat) (tr : NI) (vr : NI) (gr : NI) (ao no mo : Nat) (to : Nat → Bool) (al nl ml : Nat) (tl : NI) : Rt42 → Heap := fun r => [newL (3 + 1) ((N42 ar nr mr tr vr gr ao no mo to al nl ml tl) r) ++ [(0, (false, .cols mr [.int .i64 tr, .int .i64 vr, .int .i64 gr])), (1, (false, .cols mo [.bool to])), (2, (false, .cols ml [.int .i64 tl]))]]
attribute [local irreducible] Int.subNatNat in
theorem be42 (ar nr mr : Nat) (tr vr gr : NI) (ao no mo : Nat) (to : Nat → Bool) (al nl ml : Nat) (tl : NI) (Kst : KS) (Kret : KR) (x : St42 ⊕ Rt42) (hS : HS 3 400 ((I42 ar nr mr tr vr gr ao no mo to al nl ml tl)) Kst x) (hR : HR 3 400 ((V42 ar nr mr tr vr gr ao no mo to al nl ml tl)) (J42 ar nr mr tr vr gr ao no mo to al nl ml tl) Kret x) (h : p42 ar nr mr tr vr gr ao no mo to al nl ml tl = some x) : Te42 cond Kst Kret ar nr mr tr vr gr ao no mo to al nl ml tl := by
  unfold Te42
  unfold p42 at h
  exact bif_split h (fun c0 h => bif_split h (fun c1 h => ret_at hR _ h (fun n => n) rfl rfl rfl (rn_int rfl) rfl (entl_bor (use_lo rfl) rfl rfl (entl_bor (use_lo rfl) rfl rfl (entl_bor (use_lo rfl) rfl rfl entl_nil)))) (fun c1 h => bif_split h (fun c2 h => ret_at hR _ h (fun n => n) rfl rfl rfl (rn_int rfl) rfl (entl_bor (use_lo rfl) rfl rfl (entl_bor (use_lo rfl) rfl rfl (entl_bor (use_lo rfl) rfl rfl entl_nil)))) (fun c2 h => stop_at hS _ h (fun n => n) rfl rfl rfl ⟨(rn_loose (use_lo rfl) rfl rfl rfl), ⟨(rn_int rfl), ⟨(rn_int rfl), trivial⟩⟩⟩ rfl (entl_bor (use_lo rfl) rfl rfl (entl_bor (use_lo rfl) rfl rfl (entl_bor (use_lo rfl) rfl rfl entl_nil)))))) (fun c0 h => no_some h)
attribute [local irreducible] Int.subNatNat in
theorem b42_0 (ar nr mr : Nat) (tr vr gr : NI) (ao no mo : Nat) (to : Nat → Bool) (al nl ml : Nat) (tl : NI) (Kst : KS) (Kret : KR) (x : St42 ⊕ Rt42) (hS : HS 3 400 ((I42 ar nr mr tr vr gr ao no mo to al nl ml tl)) Kst x) (hR : HR 3 400 ((V42 ar nr mr tr vr gr ao no mo to al nl ml tl)) (J42 ar nr mr tr vr gr ao no mo to al nl ml tl) Kret x) (x0 : Int) (h : q42 ar nr mr tr vr gr ao no mo to al nl ml tl (.h0 x0) = some x) : T42_0 cond Kst Kret ar nr mr tr vr gr ao no mo to al nl ml tl x0 := by
  unfold T42_0
  rw [q42] at h
  refine bif_split h (fun c0 h => bif_split h (fun c1 h => bif_split h (fun c2 h => bif_split h (fun c3 h => bif_split h (fun c4 h => bif_split h (fun c5 h => stop_at hS _ h (fun n => n) rfl rfl rfl ⟨(rn_loose (use_lo rfl) rfl rfl rfl), ⟨(rn_int rfl), ⟨(rn_int rfl), trivial⟩⟩⟩ rfl (entl_bor (use_lo rfl) rfl rfl (entl_bor (use_lo rfl) rfl rfl (entl_bor (use_lo rfl) rfl rfl entl_nil)))) (fun c5 h => ?_)) (fun c4 h => ?_)) (fun c3 h => ?_)) (fun c2 h => ?_)) (fun c1 h => ?_)) (fun c0 h => ?_)
  all_goals first
    | exact no_some h
    | exact ret_at hR _ h (fun n => n) rfl rfl rfl (rn_int rfl) rfl (entl_bor (use_lo rfl) rfl rfl (entl_bor (use_lo rfl) rfl rfl (entl_bor (use_lo rfl) rfl rfl entl_nil)))
theorem a42 (ar nr mr : Nat) (tr vr gr : NI) (ao no mo : Nat) (to : Nat → Bool) (al nl ml : Nat) (tl : NI) {r : Rt42} (h : Goes ((q42 ar nr mr tr vr gr ao no mo to al nl ml tl)) ((p42 ar nr mr tr vr gr ao no mo to al nl ml tl)) r) : CallR Try.prog 61 [.agg [.loose ⟨0, 3, ar, 0⟩ nr, .loose ⟨1, 1, ao, 0⟩ no], .loose ⟨2, 1, al, 0⟩ nl] [[(0, (false, .cols mr [.int .i64 tr, .int .i64 vr, .int .i64 gr])), (1, (false, .cols mo [.bool to])), (2, (false, .cols ml [.int .i64 tl]))]] 3 ((V42 ar nr mr tr vr gr ao no mo to al nl ml tl) r) ((J42 ar nr mr tr vr gr ao no mo to al nl ml tl) r) 400 ∧ ∃ F, Try.prog.funcs[61]? = some F ∧ F.body.isSome = true ∧ (F.name == "runtime.NumGoroutine") = false := by
  refine dec_calls (f := 61) (lo := 3) (hi := 400) (H := [[(0, (false, .cols mr [.int .i64 tr, .int .i64 vr, .int .i64 gr])), (1, (false, .cols mo [.bool to])), (2, (false, .cols ml [.int .i64 tl]))]]) (args := [.agg [.loose ⟨0, 3, ar, 0⟩ nr, .loose ⟨1, 1, ao, 0⟩ no], .loose ⟨2, 1, al, 0⟩ nl]) Try.envOk Try.mixed xA_ok ((I42 ar nr mr tr vr gr ao no mo to al nl ml tl)) ((V42 ar nr mr tr vr gr ao no mo to al nl ml tl)) (J42 ar nr mr tr vr gr ao no mo to al nl ml tl) (fn := mkFn Try.f61) (ts := [16, 17, 18]) (n := 400) rfl (by decide) (by simp) (names_of rfl) ?_ ?_ ?_ h
  · intro s; cases s <;> exact ⟨hd_ok _ _, by simp [I42], names_of rfl, Nat.le_of_ble_eq_true rfl⟩
  · intro Kst Kret x hS hR h
    exact Holds.eq (te42 cond Kst Kret ar nr mr tr vr gr ao no mo to al nl ml tl) (be42 ar nr mr tr vr gr ao no mo to al nl ml tl Kst Kret x hS hR h)
  · intro Kst Kret x hS hR s h
    cases s with
    | h0 x0 => exact Holds.eq (t42_0 cond Kst Kret ar nr mr tr vr gr ao no mo to al nl ml tl x0) (b42_0 ar nr mr tr vr gr ao no mo to al nl ml tl Kst Kret x hS hR x0 h)
noncomputable abbrev w42 {α : Type} (g : Nat → Nat → Nat → (Nat → Int) → (Nat → Int) → (Nat → Int) → Nat → Nat → Nat → (Nat → Bool) → Nat → Nat → Nat → (Nat → Int) → α) (x : ((Nat × Nat × Nat × (Nat → Int) × (Nat → Int) × (Nat → Int) × Unit) × (Nat × Nat × Nat × (Nat → Bool) × Unit) × Unit) × (Nat × Nat × Nat × (Nat → Int) × Unit) × Unit) : α := g x.1.1.1 x.1.1.2.1 x.1.1.2.2.1 x.1.1.2.2.2.1 x.1.1.2.2.2.2.1 x.1.1.2.2.2.2.2.1 x.1.2.1.1 x.1.2.1.2.1 x.1.2.1.2.2.1 x.1.2.1.2.2.2.1 x.2.1.1 x.2.1.2.1 x.2.1.2.2.1 x.2.1.2.2.2.1
noncomputable def k42  : Con := ⟨61, [.agg [.list [.int .i64, .int .i64, .int .i64], .list [.bool]], .one (.list [.int .i64])], w42 (fun ar nr mr tr vr gr ao no mo to al nl ml tl => decide (ar + nr ≤ mr ∧ nr ≤ 1000000 ∧ al + nl ≤ ml ∧ nl ≤ 1000000)), w42 (fun ar nr mr tr vr gr ao no mo to al nl ml tl => (V42 ar nr mr tr vr gr ao no mo to al nl ml tl) (S.histE nr (fun j => tr (j + ar)) (fun j => vr (j + ar)) (fun j => gr (j + ar)) no nl (fun j => tl (j + al)))), w42 (fun ar nr mr tr vr gr ao no mo to al nl ml tl => (N42 ar nr mr tr vr gr ao no mo to al nl ml tl) (S.histE nr (fun j => tr (j + ar)) (fun j => vr (j + ar)) (fun j => gr (j + ar)) no nl (fun j => tl (j + al)))), fun _ _ => .dead⟩
theorem s42' (ar nr mr : Nat) (tr vr gr : Nat → Int) (ao no mo : Nat) (to : Nat → Bool) (al nl ml : Nat) (tl : Nat → Int) (hp : ar + nr ≤ mr ∧ nr ≤ 1000000 ∧ al + nl ≤ ml ∧ nl ≤ 1000000) : ∀ k i : Nat, i + k = nl → Comes (q42 ar nr mr tr vr gr ao no mo to al nl ml tl) (.h0 (i : Int)) (S.inE (fun j => tl (j + al)) i k) := by
  obtain ⟨hp1, hp2, hp3, hp4⟩ := hp
  intro k
  induction k with
  | zero =>
    intro i hi
    apply Comes.of
    show Goes _ _ _
    (first | rw [q42] | unfold q42)
    repeat' (first | with_reducible refine goes_if (fun h => ?_) (fun h => ?_) <;> (try simp only [SH] at h) | exact goes_none.mpr (by omega))
    all_goals first | (exfalso; omega) | rfl | (refine Eq.mpr (congrArg (Comes _ _) ?_) True; simp only [S.inE]; (repeat' split) <;> first | rfl | omega | (exfalso; omega) | (exfalso; simp_all; done) | (exfalso; simp_all; omega) | simp_all) | (refine goes_inr.mpr ?_; simp only [S.inE]; (repeat' split) <;> first | rfl | omega | (exfalso; omega) | (exfalso; simp_all; done) | (exfalso; simp_all; omega) | simp_all)
  | succ k ih =>
    intro i hi
    have ih := ih (i + 1) (by omega)
    apply Comes.of
    show Goes _ _ _
    (first | rw [q42] | unfold q42)
    repeat' (first | with_reducible refine goes_if (fun h => ?_) (fun h => ?_) <;> (try simp only [SH] at h) | exact goes_none.mpr (by omega))
    all_goals first | (exfalso; omega) | rfl | (refine Eq.mpr (congrArg (Comes _ _) ?_) ih; simp only [S.inE]; (repeat' split) <;> first | rfl | omega | (exfalso; omega) | (exfalso; simp_all; done) | (exfalso; simp_all; omega) | simp_all) | (refine goes_inr.mpr ?_; simp only [S.inE]; (repeat' split) <;> first | rfl | omega | (exfalso; omega) | (exfalso; simp_all; done) | (exfalso; simp_all; omega) | simp_all)
theorem s42 (ar nr mr : Nat) (tr vr gr : Nat → Int) (ao no mo : Nat) (to : Nat → Bool) (al nl ml : Nat) (tl : Nat → Int) (hp : ar + nr ≤ mr ∧ nr ≤ 1000000 ∧ al + nl ≤ ml ∧ nl ≤ 1000000) : Goes ((q42 ar nr mr tr vr gr ao no mo to al nl ml tl)) ((p42 ar nr mr tr vr gr ao no mo to al nl ml tl)) (S.histE nr (fun j => tr (j + ar)) (fun j => vr (j + ar)) (fun j => gr (j + ar)) no nl (fun j => tl (j + al))) := by
  have hm := s42' ar nr mr tr vr gr ao no mo to al nl ml tl hp nl 0 (by omega)
  obtain ⟨hp1, hp2, hp3, hp4⟩ := hp
  unfold S.histE
  show Goes _ _ _
  unfold p42
  generalize S.magE nr (fun j => tr (j + ar)) (fun j => vr (j + ar)) (fun j => gr (j + ar)) no = e
  repeat' (first | with_reducible refine goes_if (fun h => ?_) (fun h => ?_) <;> (try simp only [SH] at h) | exact goes_none.mpr (by omega))
  all_goals first | (exfalso; omega) | (refine goes_inr.mpr ?_; (repeat' split) <;> first | rfl | omega) | (rw [if_pos (by omega), if_neg (by omega)]; exact hm)
theorem k42_ok  : k42.ok Try.prog := by
  intro x hx
  obtain ⟨⟨⟨ar, nr, mr, tr, vr, gr, _⟩, ⟨ao, no, mo, to, _⟩, _⟩, ⟨al, nl, ml, tl, _⟩, _⟩ := x
  obtain ⟨h1, h2⟩ := a42 ar nr mr tr vr gr ao no mo to al nl ml tl (s42 ar nr mr tr vr gr ao no mo to al nl ml tl (of_dec hx rfl))
  exact ⟨⟨400, (by decide : 3 + 1 + 0 ≤ 400), h1⟩, h2⟩
inductive St28 where
  | h0 (x0 : Int)
abbrev Rt28  := Bool
noncomputable def V28 (aa na ma : Nat) (ta : NI) (ab nb mb : Nat) (tb : NI) (r : Rt28) : PV := PV.bool r
noncomputable def N28 (aa na ma : Nat) (ta : NI) (ab nb mb : Nat) (tb : NI) (r : Rt28) : List Blk := []
noncomputable def I28 (aa na ma : Nat) (ta : NI) (ab nb mb : Nat) (tb : NI) : St28 → Hd
  | .h0 x0 => ⟨hd Try.f18 0, [PV.loose (PA.mk (0) (1) aa (0)) na,
 PV.loose (PA.mk (1) (1) ab (0)) nb, PV.int .i64 (↑na : Int),
 PV.int .i64 x0], [[], [(0, (false, .cols ma [.int .i64 ta])), (1, (false, .cols mb [.int .i64 tb]))]], 2⟩
noncomputable def q28 (aa na ma : Nat) (ta : NI) (ab nb mb : Nat) (tb : NI) : St28 → Option (St28 ⊕ Rt28) | .h0 x0 => bif (decide (x0 < (↑na : Int))) then (bif (decide ((0 : Int) ≤ x0 ∧ x0 < (↑na : Int))) then (bif (decide (Int.toNat x0 + aa < ma)) then (bif (decide ((0 : Int) ≤ x0 ∧ x0 < (↑nb : Int))) then (bif (decide (Int.toNat x0 + ab < mb)) then (bif (ta (Int.toNat x0 + aa) != tb (Int.toNat x0 + ab)) then (some (.inr (false))) else (bif (lim .i64 (x0 + 1)) then (some (.inl (.h0 (x0 + 1)))) else (none))) else (none)) else (none)) else (none)) else (none)) else (some (.inr (true)))
noncomputable def p28 (aa na ma : Nat) (ta : NI) (ab nb mb : Nat) (tb : NI) : Option (St28 ⊕ Rt28) := bif ((↑na : Int) != (↑nb : Int)) then (some (.inr (false))) else (some (.inl (.h0 ((0 : Int)))))
def Te28 (test : TT) (Kst : KS) (Kret : KR) (aa na ma : Nat) (ta : NI) (ab nb mb : Nat) (tb : NI) : Prop := test ((↑na : Int) != (↑nb : Int)) (Kret (PV.tf false) ([[(1, false, Blk.cols mb [Col.int .i64 tb]), (0, false, Blk.cols ma [Col.int .i64 ta])]]) (2)) (Kst (hd Try.f18 0) ([PV.loose (PA.mk (0) (1) aa (0)) na, PV.loose (PA.mk (1) (1) ab (0)) nb, PV.int .i64 (↑na : Int), PV.int .i64 (0 : Int)]) ([[(1, false, Blk.cols mb [Col.int .i64 tb]), (0, false, Blk.cols ma [Col.int .i64 ta])]]) (2))
theorem te28 (test : TT) (Kst : KS) (Kret : KR) (aa na ma : Nat) (ta : NI) (ab nb mb : Nat) (tb : NI) : run test Try.env true noX true 400 ⟨18, [.cd (mkFn Try.f18).body], argT 0 [.loose ⟨0, 1, aa, 0⟩ na, .loose ⟨1, 1, ab, 0⟩ nb], [[], [(0, (false, .cols ma [.int .i64 ta])), (1, (false, .cols mb [.int .i64 tb]))]], 2⟩ (proj 2 [0, 1, 12, 13] Kst Kret) =
  Te28 test Kst Kret aa na ma ta ab nb mb tb := by kernel_rfl
def T28_0 (test : TT) (Kst : KS) (Kret : KR) (aa na ma : Nat) (ta : NI) (ab nb mb : Nat) (tb : NI) (x0 : Int) : Prop := test (decide (x0 < (↑na : Int))) (test (decide ((0 : Int) ≤ x0 ∧ x0 < (↑na : Int))) (test (decide (Int.toNat x0 + aa < ma)) (test (decide ((0 : Int) ≤ x0 ∧ x0 < (↑nb : Int))) (test (decide (Int.toNat x0 + ab < mb)) (test (ta (Int.toNat x0 + aa) != tb (Int.toNat x0 + ab)) (Kret (PV.tf false) ([[(1, false, Blk.cols mb [Col.int .i64 tb]), (0, false, Blk.cols ma [Col.int .i64 ta])]]) (2)) (test (lim .i64 (x0 + 1)) (Kst (hd Try.f18 0) ([PV.loose (PA.mk (0) (1) aa (0)) na, PV.loose (PA.mk (1) (1) ab (0)) nb, PV.int .i64 (↑na : Int), PV.int .i64 (x0 + 1)]) ([[(1, false, Blk.cols mb [Col.int .i64 tb]), (0, false, Blk.cols ma [Col.int .i64 ta])]]) (2)) (False))) (False)) (False)) (False)) (False)) (Kret (PV.tf true) ([[(1, false, Blk.cols mb [Col.int .i64 tb]), (0, false, Blk.cols ma [Col.int .i64 ta])]]) (2))
theorem t28_0 (test : TT) (Kst : KS) (Kret : KR) (aa na ma : Nat) (ta : NI) (ab nb mb : Nat) (tb : NI) (x0 : Int) : run test Try.env true noX true 400 ⟨18, hd Try.f18 0, zipT [0, 1, 12, 13] [PV.loose (PA.mk (0) (1) aa (0)) na,
 PV.loose (PA.mk (1) (1) ab (0)) nb, PV.int .i64 (↑na : Int),
 PV.int .i64 x0], [[], [(0, (false, .cols ma [.int .i64 ta])), (1, (false, .cols mb [.int .i64 tb]))]], 2⟩ (proj 2 [0, 1, 12, 13] Kst Kret) =
  T28_0 test Kst Kret aa na ma ta ab nb mb tb x0 := by kernel_rfl
noncomputable abbrev J28 (aa na ma : Nat) (ta : NI) (ab nb mb : Nat) (tb : NI) : Rt28 → Heap := fun r => [newL (2 + 1) ((N28 aa na ma ta ab nb mb tb) r) ++ [(0, (false, .cols ma [.int .i64 ta])), (1, (false, .cols mb [.int .i64 tb]))]]
attribute [local irreducible] Int.subNatNat in
theorem be28 (aa na ma : Nat) (ta : NI) (ab nb mb : Nat) (tb : NI) (Kst : KS) (Kret : KR) (x : St28 ⊕ Rt28) (hS : HS 2 400 ((I28 aa na ma ta ab nb mb tb)) Kst x) (hR : HR 2 400 ((V28 aa na ma ta ab nb mb tb)) (J28 aa na ma ta ab nb mb tb) Kret x) (h : p28 aa na ma ta ab nb mb tb = some x) : Te28 cond Kst Kret aa na ma ta ab nb mb tb := by
  unfold Te28
  unfold p28 at h
  exact bif_split h (fun c0 h => ret_at hR _ h (fun n => n) rfl rfl rfl (rn_bool_tf rfl) rfl (entl_bor (use_lo rfl) rfl rfl (entl_bor (use_lo rfl) rfl rfl entl_nil))) (fun c0 h => stop_at hS _ h (fun n => n) rfl rfl rfl ⟨(rn_loose (use_lo rfl) rfl rfl rfl), ⟨(rn_loose (use_lo rfl) rfl rfl rfl), ⟨(rn_int rfl), ⟨(rn_int rfl), trivial⟩⟩⟩⟩ rfl (entl_bor (use_lo rfl) rfl rfl (entl_bor (use_lo rfl) rfl rfl entl_nil)))
attribute [local irreducible] Int.subNatNat in
theorem b28_0 (aa na ma : Nat) (ta : NI) (ab nb mb : Nat) (tb : NI) (Kst : KS) (Kret : KR) (x : St28 ⊕ Rt28) (hS : HS 2 400 ((I28 aa na ma ta ab nb mb tb)) Kst x) (hR : HR 2 400 ((V28 aa na ma ta ab nb mb tb)) (J28 aa na ma ta ab nb mb tb) Kret x) (x0 : Int) (h : q28 aa na ma ta ab nb mb tb (.h0 x0) = some x) : T28_0 cond Kst Kret aa na ma ta ab nb mb tb x0 := by
  unfold T28_0
  rw [q28] at h
  exact bif_split h (fun c0 h => bif_split h (fun c1 h => bif_split h (fun c2 h => bif_split h (fun c3 h => bif_split h (fun c4 h => bif_split h (fun c5 h => ret_at hR _ h (fun n => n) rfl rfl rfl (rn_bool_tf rfl) rfl (entl_bor (use_lo rfl) rfl rfl (entl_bor (use_lo rfl) rfl rfl entl_nil))) (fun c5 h => bif_split h (fun c6 h => stop_at hS _ h (fun n => n) rfl rfl rfl ⟨(rn_loose (use_lo rfl) rfl rfl rfl), ⟨(rn_loose (use_lo rfl) rfl rfl rfl), ⟨(rn_int rfl), ⟨(rn_int rfl), trivial⟩⟩⟩⟩ rfl (entl_bor (use_lo rfl) rfl rfl (entl_bor (use_lo rfl) rfl rfl entl_nil))) (fun c6 h => no_some h))) (fun c4 h => no_some h)) (fun c3 h => no_some h)) (fun c2 h => no_some h)) (fun c1 h => no_some h)) (fun c0 h => ret_at hR _ h (fun n => n) rfl rfl rfl (rn_bool_tf rfl) rfl (entl_bor (use_lo rfl) rfl rfl (entl_bor (use_lo rfl) rfl rfl entl_nil)))
theorem a28 (aa na ma : Nat) (ta : NI) (ab nb mb : Nat) (tb : NI) {r : Rt28} (h : Goes ((q28 aa na ma ta ab nb mb tb)) ((p28 aa na ma ta ab nb mb tb)) r) : CallR Try.prog 18 [.loose ⟨0, 1, aa, 0⟩ na, .loose ⟨1, 1, ab, 0⟩ nb] [[(0, (false, .cols ma [.int .i64 ta])), (1, (false, .cols mb [.int .i64 tb]))]] 2 ((V28 aa na ma ta ab nb mb tb) r) ((J28 aa na ma ta ab nb mb tb) r) 400 ∧ ∃ F, Try.prog.funcs[18]? = some F ∧ F.body.isSome = true ∧ (F.name == "runtime.NumGoroutine") = false := by
  refine dec_calls (f := 18) (lo := 2) (hi := 400) (H := [[(0, (false, .cols ma [.int .i64 ta])), (1, (false, .cols mb [.int .i64 tb]))]]) (args := [.loose ⟨0, 1, aa, 0⟩ na, .loose ⟨1, 1, ab, 0⟩ nb]) Try.envOk Try.mixed noX_ok ((I28 aa na ma ta ab nb mb tb)) ((V28 aa na ma ta ab nb mb tb)) (J28 aa na ma ta ab nb mb tb) (fn := mkFn Try.f18) (ts := [0, 1, 12, 13]) (n := 400) rfl (by decide) (by simp) (names_of rfl) ?_ ?_ ?_ h
  · intro s; cases s <;> exact ⟨hd_ok _ _, by simp [I28], names_of rfl, Nat.le_of_ble_eq_true rfl⟩
  · intro Kst Kret x hS hR h
    exact Holds.eq (te28 cond Kst Kret aa na ma ta ab nb mb tb) (be28 aa na ma ta ab nb mb tb Kst Kret x hS hR h)
  · intro Kst Kret x hS hR s h
    cases s with
    | h0 x0 => exact Holds.eq (t28_0 cond Kst Kret aa na ma ta ab nb mb tb x0) (b28_0 aa na ma ta ab nb mb tb Kst Kret x hS hR x0 h)
noncomputable abbrev w28 {α : Type} (g : Nat → Nat → Nat → (Nat → Int) → Nat → Nat → Nat → (Nat → Int) → α) (x : (Nat × Nat × Nat × (Nat → Int) × Unit) × (Nat × Nat × Nat × (Nat → Int) × Unit) × Unit) : α := g x.1.1 x.1.2.1 x.1.2.2.1 x.1.2.2.2.1 x.2.1.1 x.2.1.2.1 x.2.1.2.2.1 x.2.1.2.2.2.1
noncomputable def k28  : Con := ⟨18, [.one (.list [.int .i64]), .one (.list [.int .i64])], w28 (fun aa na ma ta ab nb mb tb => decide (aa + na ≤ ma ∧ na ≤ 1000000 ∧ ab + nb ≤ mb ∧ nb ≤ 1000000)), w28 (fun aa na ma ta ab nb mb tb => (V28 aa na ma ta ab nb mb tb) (decide ((S.mkl na fun j => ta (j + aa)) = (S.mkl nb fun j => tb (j + ab))))), w28 (fun aa na ma ta ab nb mb tb => (N28 aa na ma ta ab nb mb tb) (decide ((S.mkl na fun j => ta (j + aa)) = (S.mkl nb fun j => tb (j + ab))))), fun _ _ => .dead⟩
theorem e28 (aa na ma : Nat) (ta : Nat → Int) (ab nb mb : Nat) (tb : Nat → Int) (h : na = nb) : decide ((S.mkl na fun j => ta (j + aa)) = (S.mkl nb fun j => tb (j + ab))) = true ↔ ∀ j, j < na → ta (j + aa) = tb (j + ab) := by
  rw [decide_eq_true_eq, mkl_inj]
  simp only [h, true_and, Prod.mk.injEq]
theorem s28' (aa na ma : Nat) (ta : Nat → Int) (ab nb mb : Nat) (tb : Nat → Int) (hp : aa + na ≤ ma ∧ na ≤ 1000000 ∧ ab + nb ≤ mb ∧ nb ≤ 1000000) (he : na = nb) : ∀ k i : Nat, i + k = na → (∀ j, j < i → ta (j + aa) = tb (j + ab)) → Comes (q28 aa na ma ta ab nb mb tb) (.h0 (i : Int)) (decide ((S.mkl na fun j => ta (j + aa)) = (S.mkl nb fun j => tb (j + ab)))) := by
  obtain ⟨hp1, hp2, hp3, hp4⟩ := hp
  have hq := e28 aa na ma ta ab nb mb tb he
  generalize decide ((S.mkl na fun j => ta (j + aa)) = (S.mkl nb fun j => tb (j + ab))) = R at hq ⊢
  intro k
  induction k with
  | zero =>
    intro i hi hj
    obtain rfl : na = i := by omega
    apply Comes.of
    show Goes _ _ _
    (first | rw [q28] | unfold q28)
    repeat' (first | with_reducible refine goes_if (fun h => ?_) (fun h => ?_) <;> (try simp only [SH] at h) | exact goes_none.mpr (by omega))
    all_goals first | (exfalso; omega) | (exact goes_inr.mpr (hq.mpr hj).symm)
  | succ k ih =>
    intro i hi hj
    have hw : ∀ {P : Prop}, (R = true → P) → ¬ P → false = R := fun h1 h2 => by cases R; rfl; exact absurd (h1 rfl) h2
    apply Comes.of
    show Goes _ _ _
    (first | rw [q28] | unfold q28)
    repeat' (first | with_reducible refine goes_if (fun h => ?_) (fun h => ?_) <;> (try simp only [SH] at h) | exact goes_none.mpr (by omega))
    all_goals first
      | (exfalso; omega)
      | (refine ih (i + 1) (by omega) fun j hlt => ?_
         rcases Nat.lt_or_eq_of_le (Nat.le_of_lt_succ hlt) with h1 | h1
         · exact hj j h1
         · subst h1; simp_all)
      | (refine goes_inr.mpr (hw (fun e => hq.mp e i (by omega)) fun e => ?_); simp_all)
theorem s28 (aa na ma : Nat) (ta : Nat → Int) (ab nb mb : Nat) (tb : Nat → Int) (hp : aa + na ≤ ma ∧ na ≤ 1000000 ∧ ab + nb ≤ mb ∧ nb ≤ 1000000) : Goes ((q28 aa na ma ta ab nb mb tb)) ((p28 aa na ma ta ab nb mb tb)) (decide ((S.mkl na fun j => ta (j + aa)) = (S.mkl nb fun j => tb (j + ab)))) := by
  by_cases he : na = nb
  · have hm := s28' aa na ma ta ab nb mb tb hp he na 0 (by omega) (fun j hj => absurd hj (Nat.not_lt_zero j))
    show Goes _ _ _
    unfold p28
    repeat' (first | with_reducible refine goes_if (fun h => ?_) (fun h => ?_) <;> (try simp only [SH] at h) | exact goes_none.mpr (by omega))
    all_goals first | (exfalso; omega) | exact hm
  · have hd : decide ((S.mkl na fun j => ta (j + aa)) = (S.mkl nb fun j => tb (j + ab))) = false := decide_eq_false (fun e => he (mkl_inj.mp e).1)
    rw [hd]
    show Goes _ _ _
    unfold p28
    repeat' (first | with_reducible refine goes_if (fun h => ?_) (fun h => ?_) <;> (try simp only [SH] at h) | exact goes_none.mpr (by omega))
    all_goals first | (exfalso; omega) | rfl
theorem k28_ok  : k28.ok Try.prog := by
  intro x hx
  obtain ⟨⟨aa, na, ma, ta, _⟩, ⟨ab, nb, mb, tb, _⟩, _⟩ := x
  obtain ⟨h1, h2⟩ := a28 aa na ma ta ab nb mb tb (s28 aa na ma ta ab nb mb tb (of_dec hx rfl))
  exact ⟨⟨400, (by decide : 2 + 1 + 0 ≤ 400), h1⟩, h2⟩
inductive St53 where
  | h0 (x0 : Int)
abbrev Rt53  := Int
noncomputable def V53 (al nl ml : Nat) (tl : NI) (tr vr gr : Int) (r : Rt53) : PV := PV.int .i64 r
noncomputable def N53 (al nl ml : Nat) (tl : NI) (tr vr gr : Int) (r : Rt53) : List Blk := []
noncomputable def I53 (al nl ml : Nat) (tl : NI) (tr vr gr : Int) : St53 → Hd
  | .h0 x0 => ⟨hd Try.f77 0, [PV.loose (PA.mk (0) (1) al (0)) nl,
 PV.fn (Go.Fn.func (63)) [] [PV.ptr (PA.mk (1) (0) (0) (0))],
 PV.int .i64 (↑nl : Int), PV.int .i64 x0], [[], [(0, (false, .cols ml [.int .i64 tl])), (1, (false, .cells [.int .i64 tr, .int .i64 vr, .int .i64 gr]))]], 2⟩
noncomputable def q53 (al nl ml : Nat) (tl : NI) (tr vr gr : Int) : St53 → Option (St53 ⊕ Rt53) | .h0 x0 => bif (decide (x0 < (↑nl : Int))) then (bif (decide ((0 : Int) ≤ x0 ∧ x0 < (↑nl : Int))) then (bif (decide (Int.toNat x0 + al < ml)) then (bif (decide (tl (Int.toNat x0 + al) ≥ tr)) then (some (.inr (x0))) else (bif (decide (tl (Int.toNat x0 + al) ≤ vr)) then (some (.inr (x0))) else (bif (lim .i64 (x0 + 1)) then (some (.inl (.h0 (x0 + 1)))) else (none)))) else (none)) else (none)) else (some (.inr ((-1 : Int))))
noncomputable def p53 (al nl ml : Nat) (tl : NI) (tr vr gr : Int) : Option (St53 ⊕ Rt53) := some (.inl (.h0 ((0 : Int))))
def Te53 (test : TT) (Kst : KS) (Kret : KR) (al nl ml : Nat) (tl : NI) (tr vr gr : Int) : Prop := Kst (hd Try.f77 0) ([PV.loose (PA.mk (0) (1) al (0)) nl, PV.fn (Go.Fn.func (63)) [] [PV.ptr (PA.mk (1) (0) (0) (0))], PV.int .i64 (↑nl : Int), PV.int .i64 (0 : Int)]) ([[(1, false, Blk.cells [PV.int .i64 tr, PV.int .i64 vr, PV.int .i64 gr]), (0, false, Blk.cols ml [Col.int .i64 tl])]]) (2)
theorem te53 (test : TT) (Kst : KS) (Kret : KR) (al nl ml : Nat) (tl : NI) (tr vr gr : Int) : run test Try.env true noX true 400 ⟨77, [.cd (mkFn Try.f77).body], argT 0 [.loose ⟨0, 1, al, 0⟩ nl, .fn (.func 63) [] [.ptr ⟨1, 0, 0, 0⟩]], [[], [(0, (false, .cols ml [.int .i64 tl])), (1, (false, .cells [.int .i64 tr, .int .i64 vr, .int .i64 gr]))]], 2⟩ (proj 2 [0, 1, 7, 8] Kst Kret) =
  Te53 test Kst Kret al nl ml tl tr vr gr := by kernel_rfl
noncomputable abbrev u53_0_0 (ml : Nat) (tl : Nat → Int) (tr vr gr : Int) := ([[(1, false, Blk.cells [PV.int IntKind.i64 tr, PV.int IntKind.i64 vr, PV.int IntKind.i64 gr]), (0, false, Blk.cols ml [Col.int IntKind.i64 tl])]])
def T53_0 (test : TT) (Kst : KS) (Kret : KR) (al nl ml : Nat) (tl : NI) (tr vr gr x0 : Int) : Prop := test (decide (x0 < (↑nl : Int))) (test (decide ((0 : Int) ≤ x0 ∧ x0 < (↑nl : Int))) (test (decide (Int.toNat x0 + al < ml)) (test (decide (tl (Int.toNat x0 + al) ≥ tr)) (Kret (PV.int .i64 x0) (u53_0_0 ml tl tr vr gr) (3)) (test (decide (tl (Int.toNat x0 + al) ≤ vr)) (Kret (PV.int .i64 x0) (u53_0_0 ml tl tr vr gr) (3)) (test (lim .i64 (x0 + 1)) (Kst (hd Try.f77 0) ([PV.loose (PA.mk (0) (1) al (0)) nl, PV.fn (Go.Fn.func (63)) [] [PV.ptr (PA.mk (1) (0) (0) (0))], PV.int .i64 (↑nl : Int), PV.int .i64 (x0 + 1)]) (u53_0_0 ml tl tr vr gr) (3)) (False)))) (False)) (False)) (Kret (PV.int .i64 (-1 : Int)) (u53_0_0 ml tl tr vr gr) (2))
theorem t53_0 (test : TT) (Kst : KS) (Kret : KR) (al nl ml : Nat) (tl : NI) (tr vr gr x0 : Int) : run test Try.env true noX true 400 ⟨77, hd Try.f77 0, zipT [0, 1, 7, 8] [PV.loose (PA.mk (0) (1) al (0)) nl,
 PV.fn (Go.Fn.func (63)) [] [PV.ptr (PA.mk (1) (0) (0) (0))],
 PV.int .i64 (↑nl : Int), PV.int .i64 x0], [[], [(0, (false, .cols ml [.int .i64 tl])), (1, (false, .cells [.int .i64 tr, .int .i64 vr, .int .i64 gr]))]], 2⟩ (proj 2 [0, 1, 7, 8] Kst Kret) =
  T53_0 test Kst Kret al nl ml tl tr vr gr x0 := by kernel_rfl
noncomputable abbrev J53 (al nl ml : Nat) (tl : NI) (tr : Int) (vr : Int) (gr : Int) : Rt53 → Heap := fun r => [newL (2 + 1) ((N53 al nl ml tl tr vr gr) r) ++ [(0, (false, .cols ml [.int .i64 tl])), (1, (false, .cells [.int .i64 tr, .int .i64 vr, .int .i64 gr]))]]
attribute [local irreducible] Int.subNatNat in
theorem be53 (al nl ml : Nat) (tl : NI) (tr vr gr : Int) (Kst : KS) (Kret : KR) (x : St53 ⊕ Rt53) (hS : HS 2 400 ((I53 al nl ml tl tr vr gr)) Kst x) (hR : HR 2 400 ((V53 al nl ml tl tr vr gr)) (J53 al nl ml tl tr vr gr) Kret x) (h : (some (.inl (.h0 ((0 : Int)))) : Option (St53 ⊕ Rt53)) = some x) : Te53 cond Kst Kret al nl ml tl tr vr gr := by
  unfold Te53
  exact stop_at hS _ h (fun n => n) rfl rfl rfl ⟨(rn_loose (use_lo rfl) rfl rfl rfl), ⟨(rn_fn trivial ⟨(rn_ptr (use_lo rfl) rfl rfl), trivial⟩), ⟨(rn_int rfl), ⟨(rn_int rfl), trivial⟩⟩⟩⟩ rfl (entl_bor (use_lo rfl) rfl rfl (entl_borc (use_lo rfl) rfl rfl entl_nil))
attribute [local irreducible] Int.subNatNat in
theorem b53_0 (al nl ml : Nat) (tl : NI) (tr vr gr : Int) (Kst : KS) (Kret : KR) (x : St53 ⊕ Rt53) (hS : HS 2 400 ((I53 al nl ml tl tr vr gr)) Kst x) (hR : HR 2 400 ((V53 al nl ml tl tr vr gr)) (J53 al nl ml tl tr vr gr) Kret x) (x0 : Int) (h : q53 al nl ml tl tr vr gr (.h0 x0) = some x) : T53_0 cond Kst Kret al nl ml tl tr vr gr x0 := by
  unfold T53_0
  rw [q53] at h
  exact bif_split h (fun c0 h => bif_split h (fun c1 h => bif_split h (fun c2 h => bif_split h (fun c3 h => ret_at hR _ h (fun n => n) rfl rfl rfl (rn_int rfl) rfl (entl_bor (use_lo rfl) rfl rfl (entl_borc (use_lo rfl) rfl rfl entl_nil))) (fun c3 h => bif_split h (fun c4 h => ret_at hR _ h (fun n => n) rfl rfl rfl (rn_int rfl) rfl (entl_bor (use_lo rfl) rfl rfl (entl_borc (use_lo rfl) rfl rfl entl_nil))) (fun c4 h => bif_split h (fun c5 h => stop_at hS _ h (fun n => n) rfl rfl rfl ⟨(rn_loose (use_lo rfl) rfl rfl rfl), ⟨(rn_fn trivial ⟨(rn_ptr (use_lo rfl) rfl rfl), trivial⟩), ⟨(rn_int rfl), ⟨(rn_int rfl), trivial⟩⟩⟩⟩ rfl (entl_bor (use_lo rfl) rfl rfl (entl_borc (use_lo rfl) rfl rfl entl_nil))) (fun c5 h => no_some h)))) (fun c2 h => no_some h)) (fun c1 h => no_some h)) (fun c0 h => ret_at hR _ h (fun n => n) rfl rfl rfl (rn_int rfl) rfl (entl_bor (use_lo rfl) rfl rfl (entl_borc (use_lo rfl) rfl rfl entl_nil)))
theorem a53 (al nl ml : Nat) (tl : NI) (tr vr gr : Int) {r : Rt53} (h : Goes ((q53 al nl ml tl tr vr gr)) ((p53 al nl ml tl tr vr gr)) r) : CallR Try.prog 77 [.loose ⟨0, 1, al, 0⟩ nl, .fn (.func 63) [] [.ptr ⟨1, 0, 0, 0⟩]] [[(0, (false, .cols ml [.int .i64 tl])), (1, (false, .cells [.int .i64 tr, .int .i64 vr, .int .i64 gr]))]] 2 ((V53 al nl ml tl tr vr gr) r) ((J53 al nl ml tl tr vr gr) r) 400 ∧ ∃ F, Try.prog.funcs[77]? = some F ∧ F.body.isSome = true ∧ (F.name == "runtime.NumGoroutine") = false := by
  refine dec_calls (f := 77) (lo := 2) (hi := 400) (H := [[(0, (false, .cols ml [.int .i64 tl])), (1, (false, .cells [.int .i64 tr, .int .i64 vr, .int .i64 gr]))]]) (args := [.loose ⟨0, 1, al, 0⟩ nl, .fn (.func 63) [] [.ptr ⟨1, 0, 0, 0⟩]]) Try.envOk Try.mixed noX_ok ((I53 al nl ml tl tr vr gr)) ((V53 al nl ml tl tr vr gr)) (J53 al nl ml tl tr vr gr) (fn := mkFn Try.f77) (ts := [0, 1, 7, 8]) (n := 400) rfl (by decide) (by simp) (names_of rfl) ?_ ?_ ?_ h
  · intro s; cases s <;> exact ⟨hd_ok _ _, by simp [I53], names_of rfl, Nat.le_of_ble_eq_true rfl⟩
  · intro Kst Kret x hS hR h
    exact Holds.eq (te53 cond Kst Kret al nl ml tl tr vr gr) (be53 al nl ml tl tr vr gr Kst Kret x hS hR h)
  · intro Kst Kret x hS hR s h
    cases s with
    | h0 x0 => exact Holds.eq (t53_0 cond Kst Kret al nl ml tl tr vr gr x0) (b53_0 al nl ml tl tr vr gr Kst Kret x hS hR x0 h)
noncomputable abbrev w53 {α : Type} (g : Nat → Nat → Nat → (Nat → Int) → Int → Int → Int → α) (x : (Nat × Nat × Nat × (Nat → Int) × Unit) × ((Int × Int × Int × Unit) × Unit) × Unit) : α := g x.1.1 x.1.2.1 x.1.2.2.1 x.1.2.2.2.1 x.2.1.1.1 x.2.1.1.2.1 x.2.1.1.2.2.1
noncomputable def k53  : Con := ⟨77, [.one (.list [.int .i64]), .fn 63 [.cell [.int .i64, .int .i64, .int .i64]]], w53 (fun al nl ml tl tr vr gr => decide (al + nl ≤ ml ∧ nl ≤ 1000000)), w53 (fun al nl ml tl tr vr gr => (V53 al nl ml tl tr vr gr) (S.idx (fun j => decide (tl (j + al) ≥ tr ∨ tl (j + al) ≤ vr)) 0 nl)), w53 (fun al nl ml tl tr vr gr => (N53 al nl ml tl tr vr gr) (S.idx (fun j => decide (tl (j + al) ≥ tr ∨ tl (j + al) ≤ vr)) 0 nl)), fun _ _ => .dead⟩
theorem s53' (al nl ml : Nat) (tl : Nat → Int) (tr vr gr : Int) (hp : al + nl ≤ ml ∧ nl ≤ 1000000) : ∀ k i : Nat, i + k = nl → Comes (q53 al nl ml tl tr vr gr) (.h0 (i : Int)) (S.idx (fun j => decide (tl (j + al) ≥ tr ∨ tl (j + al) ≤ vr)) i k) := by
  obtain ⟨hp1, hp2⟩ := hp
  intro k
  induction k with
  | zero =>
    intro i hi
    apply Comes.of
    show Goes _ _ _
    (first | rw [q53] | unfold q53)
    repeat' (first | with_reducible refine goes_if (fun h => ?_) (fun h => ?_) <;> (try simp only [SH] at h) | exact goes_none.mpr (by omega))
    all_goals first | (exfalso; omega) | rfl | (refine Eq.mpr (congrArg (Comes _ _) ?_) True; simp only [S.idx, Bool.and_eq_true, Bool.or_eq_true, decide_eq_true_eq]; (repeat' split) <;> first | rfl | omega | (exfalso; omega) | (exfalso; simp_all; done) | (exfalso; simp_all; omega) | simp_all) | (refine goes_inr.mpr ?_; simp only [S.idx, Bool.and_eq_true, Bool.or_eq_true, decide_eq_true_eq]; (repeat' split) <;> first | rfl | omega | (exfalso; omega) | (exfalso; simp_all; done) | (exfalso; simp_all; omega) | simp_all)
  | succ k ih =>
    intro i hi
    have ih := ih (i + 1) (by omega)
    apply Comes.of
    show Goes _ _ _
    (first | rw [q53] | unfold q53)
    repeat' (first | with_reducible refine goes_if (fun h => ?_) (fun h => ?_) <;> (try simp only [SH] at h) | exact goes_none.mpr (by omega))
    all_goals first | (exfalso; omega) | rfl | (refine Eq.mpr (congrArg (Comes _ _) ?_) ih; simp only [S.idx, Bool.and_eq_true, Bool.or_eq_true, decide_eq_true_eq]; (repeat' split) <;> first | rfl | omega | (exfalso; omega) | (exfalso; simp_all; done) | (exfalso; simp_all; omega) | simp_all) | (refine goes_inr.mpr ?_; simp only [S.idx, Bool.and_eq_true, Bool.or_eq_true, decide_eq_true_eq]; (repeat' split) <;> first | rfl | omega | (exfalso; omega) | (exfalso; simp_all; done) | (exfalso; simp_all; omega) | simp_all)
theorem s53 (al nl ml : Nat) (tl : Nat → Int) (tr vr gr : Int) (hp : al + nl ≤ ml ∧ nl ≤ 1000000) : Goes ((q53 al nl ml tl tr vr gr)) ((p53 al nl ml tl tr vr gr)) (S.idx (fun j => decide (tl (j + al) ≥ tr ∨ tl (j + al) ≤ vr)) 0 nl) := by
  exact s53' al nl ml tl tr vr gr hp nl 0 (by omega)
theorem k53_ok  : k53.ok Try.prog := by
  intro x hx
  obtain ⟨⟨al, nl, ml, tl, _⟩, ⟨⟨tr, vr, gr, _⟩, _⟩, _⟩ := x
  obtain ⟨h1, h2⟩ := a53 al nl ml tl tr vr gr (s53 al nl ml tl tr vr gr (of_dec hx rfl))
  exact ⟨⟨400, (by decide : 2 + 1 + 0 ≤ 400), h1⟩, h2⟩
inductive St46 where
  | h0 (x0 : Int) (x1 : Int)
abbrev Rt46  := Int
noncomputable def V46 (aa na ma : Nat) (ta : NI) (r : Rt46) : PV := PV.int .i64 r
noncomputable def N46 (aa na ma : Nat) (ta : NI) (r : Rt46) : List Blk := []
noncomputable def I46 (aa na ma : Nat) (ta : NI) : St46 → Hd
  | .h0 x0 x1 => ⟨hd Try.f84 0, [PV.loose (PA.mk (0) (1) aa (0)) na, PV.int .i64 x0,
 PV.int .i64 x1], [[], [(0, (false, .cols ma [.int .i64 ta]))]], 1⟩
noncomputable def q46 (aa na ma : Nat) (ta : NI) : St46 → Option (St46 ⊕ Rt46) | .h0 x0 x1 => bif (decide (x1 < (↑na : Int))) then (bif (decide ((0 : Int) ≤ x1 ∧ x1 < (↑na : Int))) then (bif (decide (Int.toNat x1 + aa < ma)) then (bif (lim .i64 (x1 + 1)) then (some (.inl (.h0 (Max.max x0 (ta (Int.toNat x1 + aa))) (x1 + 1)))) else (none)) else (none)) else (none)) else (some (.inr (x0)))
noncomputable def p46 (aa na ma : Nat) (ta : NI) : Option (St46 ⊕ Rt46) := bif (decide ((↑na : Int) < 1)) then (none) else (bif (decide ((0 : Int) ≤ 0 ∧ (0 : Int) < (↑na : Int))) then (bif (decide (0 + aa < ma)) then (some (.inl (.h0 (ta (0 + aa)) ((1 : Int))))) else (none)) else (none))
def Te46 (test : TT) (Kst : KS) (Kret : KR) (aa na ma : Nat) (ta : NI) : Prop := test (decide ((↑na : Int) < 1)) (False) (test (decide ((0 : Int) ≤ 0 ∧ (0 : Int) < (↑na : Int))) (test (decide (0 + aa < ma)) (Kst (hd Try.f84 0) ([PV.loose (PA.mk (0) (1) aa (0)) na, PV.int .i64 (ta (0 + aa)), PV.int .i64 (1 : Int)]) ([[(0, false, Blk.cols ma [Col.int .i64 ta])]]) (1)) (False)) (False))
theorem te46 (test : TT) (Kst : KS) (Kret : KR) (aa na ma : Nat) (ta : NI) : run test Try.env true noX true 400 ⟨84, [.cd (mkFn Try.f84).body], argT 0 [.loose ⟨0, 1, aa, 0⟩ na], [[], [(0, (false, .cols ma [.int .i64 ta]))]], 1⟩ (proj 1 [0, 3, 4] Kst Kret) =
  Te46 test Kst Kret aa na ma ta := by kernel_rfl
def T46_0 (test : TT) (Kst : KS) (Kret : KR) (aa na ma : Nat) (ta : NI) (x0 x1 : Int) : Prop := test (decide (x1 < (↑na : Int))) (test (decide ((0 : Int) ≤ x1 ∧ x1 < (↑na : Int))) (test (decide (Int.toNat x1 + aa < ma)) (test (lim .i64 (x1 + 1)) (Kst (hd Try.f84 0) ([PV.loose (PA.mk (0) (1) aa (0)) na, PV.int .i64 (Max.max x0 (ta (Int.toNat x1 + aa))), PV.int .i64 (x1 + 1)]) ([[(0, false, Blk.cols ma [Col.int .i64 ta])]]) (1)) (False)) (False)) (False)) (Kret (PV.int .i64 x0) ([[(0, false, Blk.cols ma [Col.int .i64 ta])]]) (1))
theorem t46_0 (test : TT) (Kst : KS) (Kret : KR) (aa na ma : Nat) (ta : NI) (x0 x1 : Int) : run test Try.env true noX true 400 ⟨84, hd Try.f84 0, zipT [0, 3, 4] [PV.loose (PA.mk (0) (1) aa (0)) na, PV.int .i64 x0,
 PV.int .i64 x1], [[], [(0, (false, .cols ma [.int .i64 ta]))]], 1⟩ (proj 1 [0, 3, 4] Kst Kret) =
  T46_0 test Kst Kret aa na ma ta x0 x1 := by kernel_rfl
noncomputable abbrev J46 (aa na ma : Nat) (ta : NI) : Rt46 → Heap := fun r => [newL (1 + 1) ((N46 aa na ma ta) r) ++ [(0, (false, .cols ma [.int .i64 ta]))]]
attribute [local irreducible] Int.subNatNat in
theorem be46 (aa na ma : Nat) (ta : NI) (Kst : KS) (Kret : KR) (x : St46 ⊕ Rt46) (hS : HS 1 400 ((I46 aa na ma ta)) Kst x) (hR : HR 1 400 ((V46 aa na ma ta)) (J46 aa na ma ta) Kret x) (h : p46 aa na ma ta = some x) : Te46 cond Kst Kret aa na ma ta := by
  unfold Te46
  unfold p46 at h
  exact bif_split h (fun c0 h => no_some h) (fun c0 h => bif_split h (fun c1 h => bif_split h (fun c2 h => stop_at hS _ h (fun n => n) rfl rfl rfl ⟨(rn_loose (use_lo rfl) rfl rfl rfl), ⟨(rn_int rfl), ⟨(rn_int rfl), trivial⟩⟩⟩ rfl (entl_bor (use_lo rfl) rfl rfl entl_nil)) (fun c2 h => no_some h)) (fun c1 h => no_some h))
attribute [local irreducible] Int.subNatNat in
theorem b46_0 (aa na ma : Nat) (ta : NI) (Kst : KS) (Kret : KR) (x : St46 ⊕ Rt46) (hS : HS 1 400 ((I46 aa na ma ta)) Kst x) (hR : HR 1 400 ((V46 aa na ma ta)) (J46 aa na ma ta) Kret x) (x0 x1 : Int) (h : q46 aa na ma ta (.h0 x0 x1) = some x) : T46_0 cond Kst Kret aa na ma ta x0 x1 := by
  unfold T46_0
  rw [q46] at h
  exact bif_split h (fun c0 h => bif_split h (fun c1 h => bif_split h (fun c2 h => bif_split h (fun c3 h => stop_at hS _ h (fun n => n) rfl rfl rfl ⟨(rn_loose (use_lo rfl) rfl rfl rfl), ⟨(rn_int rfl), ⟨(rn_int rfl), trivial⟩⟩⟩ rfl (entl_bor (use_lo rfl) rfl rfl entl_nil)) (fun c3 h => no_some h)) (fun c2 h => no_some h)) (fun c1 h => no_some h)) (fun c0 h => ret_at hR _ h (fun n => n) rfl rfl rfl (rn_int rfl) rfl (entl_bor (use_lo rfl) rfl rfl entl_nil))
theorem a46 (aa na ma : Nat) (ta : NI) {r : Rt46} (h : Goes ((q46 aa na ma ta)) ((p46 aa na ma ta)) r) : CallR Try.prog 84 [.loose ⟨0, 1, aa, 0⟩ na] [[(0, (false, .cols ma [.int .i64 ta]))]] 1 ((V46 aa na ma ta) r) ((J46 aa na ma ta) r) 400 ∧ ∃ F, Try.prog.funcs[84]? = some F ∧ F.body.isSome = true ∧ (F.name == "runtime.NumGoroutine") = false := by
  refine dec_calls (f := 84) (lo := 1) (hi := 400) (H := [[(0, (false, .cols ma [.int .i64 ta]))]]) (args := [.loose ⟨0, 1, aa, 0⟩ na]) Try.envOk Try.mixed noX_ok ((I46 aa na ma ta)) ((V46 aa na ma ta)) (J46 aa na ma ta) (fn := mkFn Try.f84) (ts := [0, 3, 4]) (n := 400) rfl (by decide) (by simp) (names_of rfl) ?_ ?_ ?_ h
  · intro s; cases s <;> exact ⟨hd_ok _ _, by simp [I46], names_of rfl, Nat.le_of_ble_eq_true rfl⟩
  · intro Kst Kret x hS hR h
    exact Holds.eq (te46 cond Kst Kret aa na ma ta) (be46 aa na ma ta Kst Kret x hS hR h)
  · intro Kst Kret x hS hR s h
    cases s with
    | h0 x0 x1 => exact Holds.eq (t46_0 cond Kst Kret aa na ma ta x0 x1) (b46_0 aa na ma ta Kst Kret x hS hR x0 x1 h)
noncomputable abbrev w46 {α : Type} (g : Nat → Nat → Nat → (Nat → Int) → α) (x : (Nat × Nat × Nat × (Nat → Int) × Unit) × Unit) : α := g x.1.1 x.1.2.1 x.1.2.2.1 x.1.2.2.2.1
noncomputable def k46  : Con := ⟨84, [.one (.list [.int .i64])], w46 (fun aa na ma ta => decide (aa + na ≤ ma ∧ na ≤ 1000000 ∧ 0 < na)), w46 (fun aa na ma ta => (V46 aa na ma ta) (S.maxN (fun j => ta (j + aa)) (na - 1))), w46 (fun aa na ma ta => (N46 aa na ma ta) (S.maxN (fun j => ta (j + aa)) (na - 1))), fun _ _ => .dead⟩
theorem s46' (aa na ma : Nat) (ta : Nat → Int) (hp : aa + na ≤ ma ∧ na ≤ 1000000 ∧ 0 < na) : ∀ k i : Nat, i + 1 + k = na → Comes (q46 aa na ma ta) (.h0 (S.maxN (fun j => ta (j + aa)) i) ((i : Int) + 1)) (S.maxN (fun j => ta (j + aa)) (na - 1)) := by
  obtain ⟨hp1, hp2, hp3⟩ := hp
  intro k
  induction k with
  | zero =>
    intro i hi
    obtain rfl : i = na - 1 := by omega
    apply Comes.of
    show Goes _ _ _
    (first | rw [q46] | unfold q46)
    repeat' (first | with_reducible refine goes_if (fun h => ?_) (fun h => ?_) <;> (try simp only [SH] at h) | exact goes_none.mpr (by omega))
    all_goals first | (exfalso; omega) | rfl
  | succ k ih =>
    intro i hi
    have ih := ih (i + 1) (by omega)
    apply Comes.of
    show Goes _ _ _
    (first | rw [q46] | unfold q46)
    repeat' (first | with_reducible refine goes_if (fun h => ?_) (fun h => ?_) <;> (try simp only [SH] at h) | exact goes_none.mpr (by omega))
    all_goals first | (exfalso; omega) | exact ih
theorem s46 (aa na ma : Nat) (ta : Nat → Int) (hp : aa + na ≤ ma ∧ na ≤ 1000000 ∧ 0 < na) : Goes ((q46 aa na ma ta)) ((p46 aa na ma ta)) (S.maxN (fun j => ta (j + aa)) (na - 1)) := by
  have hm := s46' aa na ma ta hp (na - 1) 0 (by omega)
  obtain ⟨hp1, hp2, hp3⟩ := hp
  show Goes _ _ _
  unfold p46
  repeat' (first | with_reducible refine goes_if (fun h => ?_) (fun h => ?_) <;> (try simp only [SH] at h) | exact goes_none.mpr (by omega))
  all_goals first | (exfalso; omega) | exact hm
theorem k46_ok  : k46.ok Try.prog := by
  intro x hx
  obtain ⟨⟨aa, na, ma, ta, _⟩, _⟩ := x
  obtain ⟨h1, h2⟩ := a46 aa na ma ta (s46 aa na ma ta (of_dec hx rfl))
  exact ⟨⟨400, (by decide : 1 + 1 + 0 ≤ 400), h1⟩, h2⟩
inductive St47 where
  | h0 (x0 : Int) (x1 : Int)
abbrev Rt47  := Int
noncomputable def V47 (aa na ma : Nat) (ta : NI) (r : Rt47) : PV := PV.int .i64 r
noncomputable def N47 (aa na ma : Nat) (ta : NI) (r : Rt47) : List Blk := []
noncomputable def I47 (aa na ma : Nat) (ta : NI) : St47 → Hd
  | .h0 x0 x1 => ⟨hd Try.f85 0, [PV.loose (PA.mk (0) (1) aa (0)) na, PV.int .i64 x0,
 PV.int .i64 x1], [[], [(0, (false, .cols ma [.int .i64 ta]))]], 1⟩
noncomputable def q47 (aa na ma : Nat) (ta : NI) : St47 → Option (St47 ⊕ Rt47) | .h0 x0 x1 => bif (decide (x1 < (↑na : Int))) then (bif (decide ((0 : Int) ≤ x1 ∧ x1 < (↑na : Int))) then (bif (decide (Int.toNat x1 + aa < ma)) then (bif (lim .i64 (x1 + 1)) then (some (.inl (.h0 (Min.min x0 (ta (Int.toNat x1 + aa))) (x1 + 1)))) else (none)) else (none)) else (none)) else (some (.inr (x0)))
noncomputable def p47 (aa na ma : Nat) (ta : NI) : Option (St47 ⊕ Rt47) := bif (decide ((↑na : Int) < 1)) then (none) else (bif (decide ((0 : Int) ≤ 0 ∧ (0 : Int) < (↑na : Int))) then (bif (decide (0 + aa < ma)) then (some (.inl (.h0 (ta (0 + aa)) ((1 : Int))))) else (none)) else (none))
def Te47 (test : TT) (Kst : KS) (Kret : KR) (aa na ma : Nat) (ta : NI) : Prop := test (decide ((↑na : Int) < 1)) (False) (test (decide ((0 : Int) ≤ 0 ∧ (0 : Int) < (↑na : Int))) (test (decide (0 + aa < ma)) (Kst (hd Try.f85 0) ([PV.loose (PA.mk (0) (1) aa (0)) na, PV.int .i64 (ta (0 + aa)), PV.int .i64 (1 : Int)]) ([[(0, false, Blk.cols ma [Col.int .i64 ta])]]) (1)) (False)) (False))
theorem te47 (test : TT) (Kst : KS) (Kret : KR) (aa na ma : Nat) (ta : NI) : run test Try.env true noX true 400 ⟨85, [.cd (mkFn Try.f85).body], argT 0 [.loose ⟨0, 1, aa, 0⟩ na], [[], [(0, (false, .cols ma [.int .i64 ta]))]], 1⟩ (proj 1 [0, 3, 4] Kst Kret) =
  Te47 test Kst Kret aa na ma ta := by kernel_rfl
def T47_0 (test : TT) (Kst : KS) (Kret : KR) (aa na ma : Nat) (ta : NI) (x0 x1 : Int) : Prop := test (decide (x1 < (↑na : Int))) (test (decide ((0 : Int) ≤ x1 ∧ x1 < (↑na : Int))) (test (decide (Int.toNat x1 + aa < ma)) (test (lim .i64 (x1 + 1)) (Kst (hd Try.f85 0) ([PV.loose (PA.mk (0) (1) aa (0)) na, PV.int .i64 (Min.min x0 (ta (Int.toNat x1 + aa))), PV.int .i64 (x1 + 1)]) ([[(0, false, Blk.cols ma [Col.int .i64 ta])]]) (1)) (False)) (False)) (False)) (Kret (PV.int .i64 x0) ([[(0, false, Blk.cols ma [Col.int .i64 ta])]]) (1))
theorem t47_0 (test : TT) (Kst : KS) (Kret : KR) (aa na ma : Nat) (ta : NI) (x0 x1 : Int) : run test Try.env true noX true 400 ⟨85, hd Try.f85 0, zipT [0, 3, 4] [PV.loose (PA.mk (0) (1) aa (0)) na, PV.int .i64 x0,
 PV.int .i64 x1], [[], [(0, (false, .cols ma [.int .i64 ta]))]], 1⟩ (proj 1 [0, 3, 4] Kst Kret) =
  T47_0 test Kst Kret aa na ma ta x0 x1 := by kernel_rfl
noncomputable abbrev J47 (aa na ma : Nat) (ta : NI) : Rt47 → Heap := fun r => [newL (1 + 1) ((N47 aa na ma ta) r) ++ [(0, (false, .cols ma [.int .i64 ta]))]]
attribute [local irreducible] Int.subNatNat in
theorem be47 (aa na ma : Nat) (ta : NI) (Kst : KS) (Kret : KR) (x : St47 ⊕ Rt47) (hS : HS 1 400 ((I47 aa na ma ta)) Kst x) (hR : HR 1 400 ((V47 aa na ma ta)) (J47 aa na ma ta) Kret x) (h : p47 aa na ma ta = some x) : Te47 cond Kst Kret aa na ma ta := by
  unfold Te47
  unfold p47 at h
  exact bif_split h (fun c0 h => no_some h) (fun c0 h => bif_split h (fun c1 h => bif_split h (fun c2 h => stop_at hS _ h (fun n => n) rfl rfl rfl ⟨(rn_loose (use_lo rfl) rfl rfl rfl), ⟨(rn_int rfl), ⟨(rn_int rfl), trivial⟩⟩⟩ rfl (entl_bor (use_lo rfl) rfl rfl entl_nil)) (fun c2 h => no_some h)) (fun c1 h => no_some h))
attribute [local irreducible] Int.subNatNat in
theorem b47_0 (aa na ma : Nat) (ta : NI) (Kst : KS) (Kret : KR) (x : St47 ⊕ Rt47) (hS : HS 1 400 ((I47 aa na ma ta)) Kst x) (hR : HR 1 400 ((V47 aa na ma ta)) (J47 aa na ma ta) Kret x) (x0 x1 : Int) (h : q47 aa na ma ta (.h0 x0 x1) = some x) : T47_0 cond Kst Kret aa na ma ta x0 x1 := by
  unfold T47_0
  rw [q47] at h
  exact bif_split h (fun c0 h => bif_split h (fun c1 h => bif_split h (fun c2 h => bif_split h (fun c3 h => stop_at hS _ h (fun n => n) rfl rfl rfl ⟨(rn_loose (use_lo rfl) rfl rfl rfl), ⟨(rn_int rfl), ⟨(rn_int rfl), trivial⟩⟩⟩ rfl (entl_bor (use_lo rfl) rfl rfl entl_nil)) (fun c3 h => no_some h)) (fun c2 h => no_some h)) (fun c1 h => no_some h)) (fun c0 h => ret_at hR _ h (fun n => n) rfl rfl rfl (rn_int rfl) rfl (entl_bor (use_lo rfl) rfl rfl entl_nil))
theorem a47 (aa na ma : Nat) (ta : NI) {r : Rt47} (h : Goes ((q47 aa na ma ta)) ((p47 aa na ma ta)) r) : CallR Try.prog 85 [.loose ⟨0, 1, aa, 0⟩ na] [[(0, (false, .cols ma [.int .i64 ta]))]] 1 ((V47 aa na ma ta) r) ((J47 aa na ma ta) r) 400 ∧ ∃ F, Try.prog.funcs[85]? = some F ∧ F.body.isSome = true ∧ (F.name == "runtime.NumGoroutine") = false := by
  refine dec_calls (f := 85) (lo := 1) (hi := 400) (H := [[(0, (false, .cols ma [.int .i64 ta]))]]) (args := [.loose ⟨0, 1, aa, 0⟩ na]) Try.envOk Try.mixed noX_ok ((I47 aa na ma ta)) ((V47 aa na ma ta)) (J47 aa na ma ta) (fn := mkFn Try.f85) (ts := [0, 3, 4]) (n := 400) rfl (by decide) (by simp) (names_of rfl) ?_ ?_ ?_ h
  · intro s; cases s <;> exact ⟨hd_ok _ _, by simp [I47], names_of rfl, Nat.le_of_ble_eq_true rfl⟩
  · intro Kst Kret x hS hR h
    exact Holds.eq (te47 cond Kst Kret aa na ma ta) (be47 aa na ma ta Kst Kret x hS hR h)
  · intro Kst Kret x hS hR s h
    cases s with
    | h0 x0 x1 => exact Holds.eq (t47_0 cond Kst Kret aa na ma ta x0 x1) (b47_0 aa na ma ta Kst Kret x hS hR x0 x1 h)
noncomputable abbrev w47 {α : Type} (g : Nat → Nat → Nat → (Nat → Int) → α) (x : (Nat × Nat × Nat × (Nat → Int) × Unit) × Unit) : α := g x.1.1 x.1.2.1 x.1.2.2.1 x.1.2.2.2.1
noncomputable def k47  : Con := ⟨85, [.one (.list [.int .i64])], w47 (fun aa na ma ta => decide (aa + na ≤ ma ∧ na ≤ 1000000 ∧ 0 < na)), w47 (fun aa na ma ta => (V47 aa na ma ta) (S.minN (fun j => ta (j + aa)) (na - 1))), w47 (fun aa na ma ta => (N47 aa na ma ta) (S.minN (fun j => ta (j + aa)) (na - 1))), fun _ _ => .dead⟩
theorem s47' (aa na ma : Nat) (ta : Nat → Int) (hp : aa + na ≤ ma ∧ na ≤ 1000000 ∧ 0 < na) : ∀ k i : Nat, i + 1 + k = na → Comes (q47 aa na ma ta) (.h0 (S.minN (fun j => ta (j + aa)) i) ((i : Int) + 1)) (S.minN (fun j => ta (j + aa)) (na - 1)) := by
  obtain ⟨hp1, hp2, hp3⟩ := hp
  intro k
  induction k with
  | zero =>
    intro i hi
    obtain rfl : i = na - 1 := by omega
    apply Comes.of
    show Goes _ _ _
    (first | rw [q47] | unfold q47)
    repeat' (first | with_reducible refine goes_if (fun h => ?_) (fun h => ?_) <;> (try simp only [SH] at h) | exact goes_none.mpr (by omega))
    all_goals first | (exfalso; omega) | rfl
  | succ k ih =>
    intro i hi
    have ih := ih (i + 1) (by omega)
    apply Comes.of
    show Goes _ _ _
    (first | rw [q47] | unfold q47)
    repeat' (first | with_reducible refine goes_if (fun h => ?_) (fun h => ?_) <;> (try simp only [SH] at h) | exact goes_none.mpr (by omega))
    all_goals first | (exfalso; omega) | exact ih
theorem s47 (aa na ma : Nat) (ta : Nat → Int) (hp : aa + na ≤ ma ∧ na ≤ 1000000 ∧ 0 < na) : Goes ((q47 aa na ma ta)) ((p47 aa na ma ta)) (S.minN (fun j => ta (j + aa)) (na - 1)) := by
  have hm := s47' aa na ma ta hp (na - 1) 0 (by omega)
  obtain ⟨hp1, hp2, hp3⟩ := hp
  show Goes _ _ _
  unfold p47
  repeat' (first | with_reducible refine goes_if (fun h => ?_) (fun h => ?_) <;> (try simp only [SH] at h) | exact goes_none.mpr (by omega))
  all_goals first | (exfalso; omega) | exact hm
theorem k47_ok  : k47.ok Try.prog := by
  intro x hx
  obtain ⟨⟨aa, na, ma, ta, _⟩, _⟩ := x
  obtain ⟨h1, h2⟩ := a47 aa na ma ta (s47 aa na ma ta (of_dec hx rfl))
  exact ⟨⟨400, (by decide : 1 + 1 + 0 ≤ 400), h1⟩, h2⟩
noncomputable def xL (test : Bool → Prop → Prop → Prop) : Ext := consX test [k53]
theorem xL_ok  : ExtOk Try.prog (xL cond) := consX_ok ⟨k53_ok, trivial⟩
abbrev St49  := Empty
abbrev Rt49  := Bool
noncomputable def V49 (al nl ml : Nat) (tl : NI) (tr vr gr : Int) (r : Rt49) : PV := PV.bool r
noncomputable def N49 (al nl ml : Nat) (tl : NI) (tr vr gr : Int) (r : Rt49) : List Blk := []
noncomputable def I49 (al nl ml : Nat) (tl : NI) (tr vr gr : Int) : St49 → Hd := fun s => s.elim
noncomputable def q49 (al nl ml : Nat) (tl : NI) (tr vr gr : Int) : St49 → Option (St49 ⊕ Rt49) := fun s => s.elim
noncomputable def p49 (al nl ml : Nat) (tl : NI) (tr vr gr : Int) : Option (St49 ⊕ Rt49) := bif (decide (al + nl ≤ ml ∧ nl ≤ 1000000)) then (bif (decide (S.idx (fun j => decide (tl (j + al) ≥ tr ∨ tl (j + al) ≤ vr)) (0) nl ≥ 0)) then (some (.inr (true))) else (some (.inr (false)))) else (none)
def Te49 (test : TT) (Kst : KS) (Kret : KR) (al nl ml : Nat) (tl : NI) (tr vr gr : Int) : Prop := test (decide (al + nl ≤ ml ∧ nl ≤ 1000000)) (test (decide (S.idx (fun j => decide (tl (j + al) ≥ tr ∨ tl (j + al) ≤ vr)) (0) nl ≥ 0)) (Kret (PV.tf true) ([[(1, false, Blk.cells [PV.int .i64 tr, PV.int .i64 vr, PV.int .i64 gr]), (0, false, Blk.cols ml [Col.int .i64 tl])]]) (3)) (Kret (PV.tf false) ([[(1, false, Blk.cells [PV.int .i64 tr, PV.int .i64 vr, PV.int .i64 gr]), (0, false, Blk.cols ml [Col.int .i64 tl])]]) (3))) (False)
theorem te49 (test : TT) (Kst : KS) (Kret : KR) (al nl ml : Nat) (tl : NI) (tr vr gr : Int) : run test Try.env true (xL test) true 400 ⟨62, [.cd (mkFn Try.f62).body], argT 0 [.loose ⟨0, 1, al, 0⟩ nl, .fn (.func 63) [] [.ptr ⟨1, 0, 0, 0⟩]], [[], [(0, (false, .cols ml [.int .i64 tl])), (1, (false, .cells [.int .i64 tr, .int .i64 vr, .int .i64 gr]))]], 2⟩ (proj 2 [] Kst Kret) =
  Te49 test Kst Kret al nl ml tl tr vr gr := by kernel_rfl
noncomputable abbrev J49 (al nl ml : Nat) (tl : NI) (tr : Int) (vr : Int) (gr : Int) : Rt49 → Heap := fun r => [newL (2 + 1) ((N49 al nl ml tl tr vr gr) r) ++ [(0, (false, .cols ml [.int .i64 tl])), (1, (false, .cells [.int .i64 tr, .int .i64 vr, .int .i64 gr]))]]
attribute [local irreducible] Int.subNatNat in
theorem be49 (al nl ml : Nat) (tl : NI) (tr vr gr : Int) (Kst : KS) (Kret : KR) (x : St49 ⊕ Rt49) (hS : HS 2 400 ((I49 al nl ml tl tr vr gr)) Kst x) (hR : HR 2 400 ((V49 al nl ml tl tr vr gr)) (J49 al nl ml tl tr vr gr) Kret x) (h : p49 al nl ml tl tr vr gr = some x) : Te49 cond Kst Kret al nl ml tl tr vr gr := by
  unfold Te49
  unfold p49 at h
  exact bif_split h (fun c0 h => bif_split h (fun c1 h => ret_at hR _ h (fun n => n) rfl rfl rfl (rn_bool_tf rfl) rfl (entl_bor (use_lo rfl) rfl rfl (entl_borc (use_lo rfl) rfl rfl entl_nil))) (fun c1 h => ret_at hR _ h (fun n => n) rfl rfl rfl (rn_bool_tf rfl) rfl (entl_bor (use_lo rfl) rfl rfl (entl_borc (use_lo rfl) rfl rfl entl_nil)))) (fun c0 h => no_some h)
theorem a49 (al nl ml : Nat) (tl : NI) (tr vr gr : Int) {r : Rt49} (h : Goes ((q49 al nl ml tl tr vr gr)) ((p49 al nl ml tl tr vr gr)) r) : CallR Try.prog 62 [.loose ⟨0, 1, al, 0⟩ nl, .fn (.func 63) [] [.ptr ⟨1, 0, 0, 0⟩]] [[(0, (false, .cols ml [.int .i64 tl])), (1, (false, .cells [.int .i64 tr, .int .i64 vr, .int .i64 gr]))]] 2 ((V49 al nl ml tl tr vr gr) r) ((J49 al nl ml tl tr vr gr) r) 400 ∧ ∃ F, Try.prog.funcs[62]? = some F ∧ F.body.isSome = true ∧ (F.name == "runtime.NumGoroutine") = false := by
  refine dec_calls (f := 62) (lo := 2) (hi := 400) (H := [[(0, (false, .cols ml [.int .i64 tl])), (1, (false, .cells [.int .i64 tr, .int .i64 vr, .int .i64 gr]))]]) (args := [.loose ⟨0, 1, al, 0⟩ nl, .fn (.func 63) [] [.ptr ⟨1, 0, 0, 0⟩]]) Try.envOk Try.mixed xL_ok ((I49 al nl ml tl tr vr gr)) ((V49 al nl ml tl tr vr gr)) (J49 al nl ml tl tr vr gr) (fn := mkFn Try.f62) (ts := []) (n := 400) rfl (by decide) (by simp) (names_of rfl) ?_ ?_ ?_ h
  · intro s; exact s.elim
  · intro Kst Kret x hS hR h
    exact Holds.eq (te49 cond Kst Kret al nl ml tl tr vr gr) (be49 al nl ml tl tr vr gr Kst Kret x hS hR h)
  · intro Kst Kret x hS hR s h; exact s.elim
noncomputable abbrev w49 {α : Type} (g : Nat → Nat → Nat → (Nat → Int) → Int → Int → Int → α) (x : (Nat × Nat × Nat × (Nat → Int) × Unit) × ((Int × Int × Int × Unit) × Unit) × Unit) : α := g x.1.1 x.1.2.1 x.1.2.2.1 x.1.2.2.2.1 x.2.1.1.1 x.2.1.1.2.1 x.2.1.1.2.2.1
noncomputable def k49  : Con := ⟨62, [.one (.list [.int .i64]), .fn 63 [.cell [.int .i64, .int .i64, .int .i64]]], w49 (fun al nl ml tl tr vr gr => decide (al + nl ≤ ml ∧ nl ≤ 1000000)), w49 (fun al nl ml tl tr vr gr => (V49 al nl ml tl tr vr gr) (S.any (fun j => decide (tl (j + al) ≥ tr ∨ tl (j + al) ≤ vr)) nl)), w49 (fun al nl ml tl tr vr gr => (N49 al nl ml tl tr vr gr) (S.any (fun j => decide (tl (j + al) ≥ tr ∨ tl (j + al) ≤ vr)) nl)), fun _ _ => .dead⟩
theorem s49 (al nl ml : Nat) (tl : Nat → Int) (tr vr gr : Int) (hp : al + nl ≤ ml ∧ nl ≤ 1000000) : Goes ((q49 al nl ml tl tr vr gr)) ((p49 al nl ml tl tr vr gr)) (S.any (fun j => decide (tl (j + al) ≥ tr ∨ tl (j + al) ≤ vr)) nl) := by
  have hp' := hp
  obtain ⟨hp1, hp2⟩ := hp
  rw [← idx_any (p := (fun j => decide (tl (j + al) ≥ tr ∨ tl (j + al) ≤ vr))) (n := nl)]
  show Goes _ _ _
  unfold p49
  repeat' (first | with_reducible refine goes_if (fun h => ?_) (fun h => ?_) <;> (try simp only [SH] at h) | exact goes_none.mpr (by omega))
  all_goals first | (exfalso; omega) | (exfalso; simp_all; done) | (refine goes_inr.mpr ?_; first | rfl | (symm; simp_all; done) | (symm; simp_all; omega))
theorem k49_ok  : k49.ok Try.prog := by
  intro x hx
  obtain ⟨⟨al, nl, ml, tl, _⟩, ⟨⟨tr, vr, gr, _⟩, _⟩, _⟩ := x
  obtain ⟨h1, h2⟩ := a49 al nl ml tl tr vr gr (s49 al nl ml tl tr vr gr (of_dec hx rfl))
  exact ⟨⟨400, (by decide : 2 + 1 + 0 ≤ 400), h1⟩, h2⟩
theorem rel_ok  {e : Int} {u d w : Nat → Int} : ∀ {k i : Nat}, S.relE e u d w i k = 0 → (∀ j, i ≤ j → j < i + k → S.okR (u j) (d j) (w j) = true ∧ d j < u j) ∧ e = 0
  | 0, i, h => ⟨fun j h1 h2 => by omega, h⟩
  | k + 1, i, h => by
    simp only [S.relE] at h
    split at h
    · rename_i h1
      split at h
      · cases h
      · rename_i h2
        obtain ⟨h3, h4⟩ := rel_ok h
        refine ⟨fun j a b => ?_, h4⟩
        by_cases hj : j = i
        · subst hj; exact ⟨h1, by omega⟩
        · exact h3 j (by omega) (by omega)
    · cases h
theorem mag_ok  {n no : Nat} {u d w : Nat → Int} (h : S.magE n u d w no = 0) : 0 < n ∧ n ≤ 40 ∧ no = n ∧ ∀ j, j < n → -1099511627776 ≤ u j ∧ u j ≤ 1099511627776 ∧ -1099511627776 ≤ d j ∧ d j ≤ 1099511627776 ∧ 1 ≤ w j ∧ w j ≤ 1073741824 ∧ d j < u j := by
  unfold S.magE at h
  split at h
  · cases h
  split at h
  · cases h
  obtain ⟨h1, h2⟩ := rel_ok h
  refine ⟨by omega, by omega, ?_, fun j hj => ?_⟩
  · split at h2
    · assumption
    · cases h2
  · obtain ⟨h3, h4⟩ := h1 j (Nat.zero_le _) (by omega)
    simp only [S.okR, decide_eq_true_eq] at h3
    omega
theorem in_ok  {t : Nat → Int} : ∀ {k i : Nat}, S.inE t i k = 0 → ∀ j, i ≤ j → j < i + k → -1099511627776 ≤ t j ∧ t j ≤ 1099511627776
  | 0, i, _, j, h1, h2 => by omega
  | k + 1, i, h, j, h1, h2 => by
    simp only [S.inE] at h
    split at h
    · by_cases hj : j = i
      · subst hj; assumption
      · exact in_ok h j (by omega) (by omega)
    · cases h
theorem hist_ok  {n no nl : Nat} {u d w t : Nat → Int} (h : S.histE n u d w no nl t = 0) : S.magE n u d w no = 0 ∧ nl ≤ 1000 ∧ ∀ j, j < nl → -1099511627776 ≤ t j ∧ t j ≤ 1099511627776 := by
  unfold S.histE at h
  split at h
  · split at h
    · cases h
    · exact ⟨by assumption, by omega, fun j hj => in_ok h j (Nat.zero_le _) (by omega)⟩
  · contradiction
namespace S
def fldN (w : Nat → Int) (o : Nat → Bool) : Nat → Int
  | 0 => 0
  | i + 1 => bif o i then fldN w o i + w i else fldN w o i
def fieldS (n : Nat) (u d w : Nat → Int) (no : Nat) (o : Nat → Bool) : Int × Int := if magE n u d w no = 0 then (fldN w o n, 0) else (0, magE n u d w no)
def aftN (u d : Int) (t : Nat → Int) (o : Bool) : Nat → Bool
  | 0 => o
  | k + 1 => aft u d (aftN u d t o k) (t k)
def histS (n : Nat) (u d w : Nat → Int) (no : Nat) (o : Nat → Bool) (nl : Nat) (t : Nat → Int) : Int × List (Int × Int × Int) × List Bool :=
  if histE n u d w no nl t = 0 then (0, mkl n fun j => (u j, d j, w j), mkl no fun j => aftN (u j) (d j) t (o j) nl) else (histE n u d w no nl t, [], [])
def erB (u d : Nat → Int) (nl : Nat) (t : Nat → Int) : Nat → Nat → Bool
  | _, 0 => true
  | i, k + 1 => if any (fun j => decide (t j ≥ u i ∨ t j ≤ d i)) nl = true then erB u d nl t (i + 1) k else false
def erS (n : Nat) (u d w : Nat → Int) (no nl : Nat) (t : Nat → Int) : Bool × Int := if histE n u d w no nl t = 0 then (erB u d nl t 0 n, 0) else (false, histE n u d w no nl t)
end S
theorem fld_ge  {w : Nat → Int} {o : Nat → Bool} {n : Nat} (h : ∀ j, j < n → 1 ≤ w j ∧ w j ≤ 1073741824) : ∀ k, k ≤ n → 0 ≤ S.fldN w o k ∧ S.fldN w o k ≤ k * 1073741824
  | 0, _ => ⟨Int.le_refl _, Int.le_refl _⟩
  | k + 1, hk => by
    have ih := fld_ge h (o := o) k (by omega)
    have := h k (by omega)
    simp only [S.fldN]
    cases o k <;> simp only [cond_true, cond_false] <;> omega
namespace S
def curE (e : Int) (t : Nat → Int) : Nat → Nat → Int
  | _, 0 => e
  | i, k + 1 => if -1099511627776 ≤ t i ∧ t i ≤ 1099511627776 then (if 0 < i ∧ t i = t (i - 1) then 12 else curE e t (i + 1) k) else 6
def cyE (cn : ByteArray) (n : Nat) (t : Nat → Int) (rp fl : Int) : Int := if isNam cn = true then (if n < 2 then 7 else if 20 < n then 3 else curE (if (1 ≤ rp ∧ rp ≤ 9) ∧ -1099511627776 ≤ fl ∧ fl ≤ 1099511627776 then (if fl = t (n - 1) then 12 else 0) else 6) t 0 n) else 2
def stpL (n : Nat) (t : Nat → Int) (rp fl : Int) : List Int := snoc (mkl (n * rp.toNat) fun j => t (j % n)) fl
def fewC (cn : ByteArray) (n l : Nat) : Bool := decide (cn.size ≤ 60 ∧ n ≤ 25 ∧ (l ≤ 60 ∨ (500 < l ∧ l ≤ 510)))
def setE (n : Nat) (t : Nat → Int) : Int := if 500 < n then 3 else if all (fun j => decide (-1099511627776 ≤ t j ∧ t j ≤ 1099511627776)) n = true then 0 else 6
end S
theorem curE_ok  {e : Int} {t : Nat → Int} : ∀ {k i : Nat}, S.curE e t i k = 0 → e = 0 ∧ ∀ j, i ≤ j → j < i + k → (-1099511627776 ≤ t j ∧ t j ≤ 1099511627776) ∧ (0 < j → t j ≠ t (j - 1))
  | 0, i, h => ⟨h, fun j h1 h2 => by omega⟩
  | k + 1, i, h => by
    simp only [S.curE] at h
    split at h
    · split at h
      · cases h
      · rename_i h1 h3
        obtain ⟨q1, q2⟩ := curE_ok h
        refine ⟨q1, fun j h2 h4 => ?_⟩
        rcases Nat.lt_or_ge i j with h5 | h5
        · exact q2 j h5 (by omega)
        · obtain rfl : j = i := by omega
          exact ⟨h1, fun h6 h7 => h3 ⟨h6, h7⟩⟩
    · cases h
theorem cy_ok  {cn : ByteArray} {n : Nat} {t : Nat → Int} {rp fl : Int} (h : S.cyE cn n t rp fl = 0) : (2 ≤ n ∧ n ≤ 20) ∧ (1 ≤ rp ∧ rp ≤ 9) ∧ (-1099511627776 ≤ fl ∧ fl ≤ 1099511627776) ∧ fl ≠ t (n - 1) ∧ ∀ j, j < n → (-1099511627776 ≤ t j ∧ t j ≤ 1099511627776) ∧ (0 < j → t j ≠ t (j - 1)) := by
  unfold S.cyE at h
  split at h
  · split at h
    · cases h
    · split at h
      · cases h
      · obtain ⟨q1, q2⟩ := curE_ok h
        split at q1
        · rename_i q3
          split at q1
          · cases q1
          · rename_i q4
            exact ⟨by omega, q3.1, q3.2, q4, fun j hj => q2 j (Nat.zero_le _) (by omega)⟩
        · cases q1
  · cases h
theorem stp_len  {n : Nat} {t : Nat → Int} {rp fl : Int} : (S.stpL n t rp fl).length = n * rp.toNat + 1 := by unfold S.stpL; rw [snoc_len, mkl_len]
theorem mul_bd  {n : Nat} {rp : Int} (h1 : n ≤ 20) (h2 : rp ≤ 9) : n * rp.toNat ≤ 180 := by
  have : n * rp.toNat ≤ 20 * 9 := Nat.mul_le_mul h1 (by omega)
  omega
theorem limu64  {n : Int} : lim .u64 n = decide (0 ≤ n ∧ n ≤ 18446744073709551615) := rfl
theorem shr32  {x : Int} (h : 0 ≤ x ∧ x < 4294967296) : S.shrB .u64 x 32 = 0 := by
  show Int.fdiv x (2 ^ (min (32 : Int).toNat 64)) = 0
  have e : (2 : Int) ^ (min (32 : Int).toNat 64) = 4294967296 := by decide
  rw [e, Int.fdiv_eq_ediv_of_nonneg _ (by decide)]
  omega
theorem and32  {x : Int} (h : 0 ≤ x ∧ x < 4294967296) : S.andB .u64 x 4294967295 = x := by
  obtain ⟨n, rfl⟩ := Int.eq_ofNat_of_zero_le h.1
  show IntKind.wrap .u64 (((BitVec.ofInt 64 (n : Int) &&& BitVec.ofInt 64 4294967295).toNat : Nat) : Int) = n
  have e1 : (BitVec.ofInt 64 (n : Int)).toNat = n := by
    rw [BitVec.toNat_ofInt]; omega
  have e2 : (BitVec.ofInt 64 4294967295).toNat = 2 ^ 32 - 1 := by decide
  rw [BitVec.toNat_and, e1, e2, Nat.and_two_pow_sub_one_eq_mod]
  have e3 : n % 2 ^ 32 = n := Nat.mod_eq_of_lt (by omega)
  rw [e3]
  exact u64_in n (by omega)
inductive St155 where
  | h0 (x0 : Int) (x1 : List Int)
abbrev Rt155  := List Int
noncomputable def V155 (al nl ml : Nat) (tl : NI) (ct : Int) (r : Rt155) : PV := PV.own (2) (1) (List.length r)
noncomputable def N155 (al nl ml : Nat) (tl : NI) (ct : Int) (r : Rt155) : List Blk := [Blk.cols (List.length r) [Col.int .i64 fun j => S.at' r j]]
noncomputable def I155 (al nl ml : Nat) (tl : NI) (ct : Int) : St155 → Hd
  | .h0 x0 x1 => ⟨hd Try.f55 0, [PV.own (1) (1) (List.length x1), PV.int .i64 x0], [[(1, (true, Blk.cols (List.length x1) [Col.int .i64 fun j => S.at' x1 j]))], [(0, (false, .cols ml [.int .i64 tl]))]], 2⟩
noncomputable def q155 (al nl ml : Nat) (tl : NI) (ct : Int) : St155 → Option (St155 ⊕ Rt155) | .h0 x0 x1 => bif (decide (x0 < (↑(List.length x1) : Int))) then (bif (decide ((0 : Int) ≤ x0 ∧ x0 ≤ (↑(List.length x1) : Int) ∧ (↑(List.length x1) : Int) ≤ (↑(List.length x1) : Int))) then (bif (decide ((0 : Int) ≤ x0 ∧ x0 ≤ (↑(List.length x1) : Int))) then (bif (decide (Int.toNat x0 + Min.min (List.length x1 - Int.toNat x0) (Int.toNat x0) ≤ List.length x1)) then (bif (decide (0 + Int.toNat x0 ≤ List.length x1)) then (bif (lim .i64 (x0 + (↑(Min.min (List.length x1 - Int.toNat x0) (Int.toNat x0)) : Int))) then (some (.inl (.h0 (x0 + (↑(Min.min (List.length x1 - Int.toNat x0) (Int.toNat x0)) : Int)) (S.mkl (List.length x1) fun j => bif Nat.ble (Int.toNat x0) j then bif Nat.blt j (Int.toNat x0 + Min.min (List.length x1 - Int.toNat x0) (Int.toNat x0)) then S.at' x1 (j - Int.toNat x0) else S.at' x1 j else S.at' x1 j)))) else (none)) else (none)) else (none)) else (none)) else (none)) else (some (.inr (x1)))
noncomputable def p155 (al nl ml : Nat) (tl : NI) (ct : Int) : Option (St155 ⊕ Rt155) := bif (decide (ct < 0)) then (none) else (bif (lim .u64 (S.andB .u64 (IntKind.wrap .u64 (↑nl : Int)) (4294967295 : Int) * S.andB .u64 (IntKind.wrap .u64 ct) (4294967295 : Int))) then (bif (lim .u64 (S.shrB .u64 (IntKind.wrap .u64 (↑nl : Int)) (32 : Int) * S.andB .u64 (IntKind.wrap .u64 ct) (4294967295 : Int))) then (bif (lim .u64 (S.shrB .u64 (IntKind.wrap .u64 (↑nl : Int)) (32 : Int) * S.andB .u64 (IntKind.wrap .u64 ct) (4294967295 : Int) + S.shrB .u64 (S.andB .u64 (IntKind.wrap .u64 (↑nl : Int)) (4294967295 : Int) * S.andB .u64 (IntKind.wrap .u64 ct) (4294967295 : Int)) (32 : Int))) then (bif (lim .u64 (S.andB .u64 (IntKind.wrap .u64 (↑nl : Int)) (4294967295 : Int) * S.shrB .u64 (IntKind.wrap .u64 ct) (32 : Int))) then (bif (lim .u64 (S.andB .u64 (S.shrB .u64 (IntKind.wrap .u64 (↑nl : Int)) (32 : Int) * S.andB .u64 (IntKind.wrap .u64 ct) (4294967295 : Int) + S.shrB .u64 (S.andB .u64 (IntKind.wrap .u64 (↑nl : Int)) (4294967295 : Int) * S.andB .u64 (IntKind.wrap .u64 ct) (4294967295 : Int)) (32 : Int)) (4294967295 : Int) + S.andB .u64 (IntKind.wrap .u64 (↑nl : Int)) (4294967295 : Int) * S.shrB .u64 (IntKind.wrap .u64 ct) (32 : Int))) then (bif (lim .u64 (S.shrB .u64 (IntKind.wrap .u64 (↑nl : Int)) (32 : Int) * S.shrB .u64 (IntKind.wrap .u64 ct) (32 : Int))) then (bif (lim .u64 (S.shrB .u64 (IntKind.wrap .u64 (↑nl : Int)) (32 : Int) * S.shrB .u64 (IntKind.wrap .u64 ct) (32 : Int) + S.shrB .u64 (S.shrB .u64 (IntKind.wrap .u64 (↑nl : Int)) (32 : Int) * S.andB .u64 (IntKind.wrap .u64 ct) (4294967295 : Int) + S.shrB .u64 (S.andB .u64 (IntKind.wrap .u64 (↑nl : Int)) (4294967295 : Int) * S.andB .u64 (IntKind.wrap .u64 ct) (4294967295 : Int)) (32 : Int)) (32 : Int))) then (bif (lim .u64 (S.shrB .u64 (IntKind.wrap .u64 (↑nl : Int)) (32 : Int) * S.shrB .u64 (IntKind.wrap .u64 ct) (32 : Int) + S.shrB .u64 (S.shrB .u64 (IntKind.wrap .u64 (↑nl : Int)) (32 : Int) * S.andB .u64 (IntKind.wrap .u64 ct) (4294967295 : Int) + S.shrB .u64 (S.andB .u64 (IntKind.wrap .u64 (↑nl : Int)) (4294967295 : Int) * S.andB .u64 (IntKind.wrap .u64 ct) (4294967295 : Int)) (32 : Int)) (32 : Int) + S.shrB .u64 (S.andB .u64 (S.shrB .u64 (IntKind.wrap .u64 (↑nl : Int)) (32 : Int) * S.andB .u64 (IntKind.wrap .u64 ct) (4294967295 : Int) + S.shrB .u64 (S.andB .u64 (IntKind.wrap .u64 (↑nl : Int)) (4294967295 : Int) * S.andB .u64 (IntKind.wrap .u64 ct) (4294967295 : Int)) (32 : Int)) (4294967295 : Int) + S.andB .u64 (IntKind.wrap .u64 (↑nl : Int)) (4294967295 : Int) * S.shrB .u64 (IntKind.wrap .u64 ct) (32 : Int)) (32 : Int))) then (bif (lim .u64 (IntKind.wrap .u64 (↑nl : Int) * IntKind.wrap .u64 ct)) then (bif (decide (S.shrB .u64 (IntKind.wrap .u64 (↑nl : Int)) (32 : Int) * S.shrB .u64 (IntKind.wrap .u64 ct) (32 : Int) + S.shrB .u64 (S.shrB .u64 (IntKind.wrap .u64 (↑nl : Int)) (32 : Int) * S.andB .u64 (IntKind.wrap .u64 ct) (4294967295 : Int) + S.shrB .u64 (S.andB .u64 (IntKind.wrap .u64 (↑nl : Int)) (4294967295 : Int) * S.andB .u64 (IntKind.wrap .u64 ct) (4294967295 : Int)) (32 : Int)) (32 : Int) + S.shrB .u64 (S.andB .u64 (S.shrB .u64 (IntKind.wrap .u64 (↑nl : Int)) (32 : Int) * S.andB .u64 (IntKind.wrap .u64 ct) (4294967295 : Int) + S.shrB .u64 (S.andB .u64 (IntKind.wrap .u64 (↑nl : Int)) (4294967295 : Int) * S.andB .u64 (IntKind.wrap .u64 ct) (4294967295 : Int)) (32 : Int)) (4294967295 : Int) + S.andB .u64 (IntKind.wrap .u64 (↑nl : Int)) (4294967295 : Int) * S.shrB .u64 (IntKind.wrap .u64 ct) (32 : Int)) (32 : Int) > 0)) then (none) else (bif (decide (IntKind.wrap .u64 (↑nl : Int) * IntKind.wrap .u64 ct > 9223372036854775807)) then (none) else (bif (decide ((0 : Int) ≤ IntKind.wrap .i64 (IntKind.wrap .u64 (↑nl : Int) * IntKind.wrap .u64 ct) ∧ IntKind.wrap .i64 (IntKind.wrap .u64 (↑nl : Int) * IntKind.wrap .u64 ct) ≤ IntKind.wrap .i64 (IntKind.wrap .u64 (↑nl : Int) * IntKind.wrap .u64 ct) ∧ IntKind.wrap .i64 (IntKind.wrap .u64 (↑nl : Int) * IntKind.wrap .u64 ct) ≤ 1000000)) then (bif (decide (0 + Min.min (Int.toNat (IntKind.wrap .i64 (IntKind.wrap .u64 (↑nl : Int) * IntKind.wrap .u64 ct))) nl ≤ Int.toNat (IntKind.wrap .i64 (IntKind.wrap .u64 (↑nl : Int) * IntKind.wrap .u64 ct)))) then (bif (decide (al + nl ≤ ml)) then (some (.inl (.h0 ((↑(Min.min (Int.toNat (IntKind.wrap .i64 (IntKind.wrap .u64 (↑nl : Int) * IntKind.wrap .u64 ct))) nl) : Int)) (S.mkl (Int.toNat (IntKind.wrap .i64 (IntKind.wrap .u64 (↑nl : Int) * IntKind.wrap .u64 ct))) fun j => bif Nat.ble (0) j then bif Nat.blt j (0 + Min.min (Int.toNat (IntKind.wrap .i64 (IntKind.wrap .u64 (↑nl : Int) * IntKind.wrap .u64 ct))) nl) then tl (j + al) else (0 : Int) else (0 : Int))))) else (none)) else (none)) else (none)))) else (none)) else (none)) else (none)) else (none)) else (none)) else (none)) else (none)) else (none)) else (none))
noncomputable abbrev u155_e_0 (nl : Nat) (ct : Int) := S.shrB IntKind.u64 (IntKind.wrap IntKind.u64 (↑nl : Int)) (32 : Int) * S.andB IntKind.u64 (IntKind.wrap IntKind.u64 ct) (4294967295 : Int) + S.shrB IntKind.u64 (S.andB IntKind.u64 (IntKind.wrap IntKind.u64 (↑nl : Int)) (4294967295 : Int) * S.andB IntKind.u64 (IntKind.wrap IntKind.u64 ct) (4294967295 : Int)) (32 : Int)
noncomputable abbrev u155_e_1 (nl : Nat) (ct : Int) := IntKind.wrap IntKind.u64 (↑nl : Int) * IntKind.wrap IntKind.u64 ct
noncomputable abbrev u155_e_2 (nl : Nat) (ct : Int) := S.andB IntKind.u64 (u155_e_0 nl ct) (4294967295 : Int) + S.andB IntKind.u64 (IntKind.wrap IntKind.u64 (↑nl : Int)) (4294967295 : Int) * S.shrB IntKind.u64 (IntKind.wrap IntKind.u64 ct) (32 : Int)
def Te155 (test : TT) (Kst : KS) (Kret : KR) (al nl ml : Nat) (tl : NI) (ct : Int) : Prop := test (decide (ct < 0)) (False) (test (false) (False) (test (false) (False) (test (lim .u64 (S.andB .u64 (IntKind.wrap .u64 (↑nl : Int)) (4294967295 : Int) * S.andB .u64 (IntKind.wrap .u64 ct) (4294967295 : Int))) (test (lim .u64 (S.shrB .u64 (IntKind.wrap .u64 (↑nl : Int)) (32 : Int) * S.andB .u64 (IntKind.wrap .u64 ct) (4294967295 : Int))) (test (false) (False) (test (lim .u64 (u155_e_0 nl ct)) (test (false) (False) (test (lim .u64 (S.andB .u64 (IntKind.wrap .u64 (↑nl : Int)) (4294967295 : Int) * S.shrB .u64 (IntKind.wrap .u64 ct) (32 : Int))) (test (lim .u64 (u155_e_2 nl ct)) (test (lim .u64 (S.shrB .u64 (IntKind.wrap .u64 (↑nl : Int)) (32 : Int) * S.shrB .u64 (IntKind.wrap .u64 ct) (32 : Int))) (test (lim .u64 (S.shrB .u64 (IntKind.wrap .u64 (↑nl : Int)) (32 : Int) * S.shrB .u64 (IntKind.wrap .u64 ct) (32 : Int) + S.shrB .u64 (u155_e_0 nl ct) (32 : Int))) (test (false) (False) (test (lim .u64 (S.shrB .u64 (IntKind.wrap .u64 (↑nl : Int)) (32 : Int) * S.shrB .u64 (IntKind.wrap .u64 ct) (32 : Int) + S.shrB .u64 (u155_e_0 nl ct) (32 : Int) + S.shrB .u64 (u155_e_2 nl ct) (32 : Int))) (test (lim .u64 (u155_e_1 nl ct)) (test (decide (S.shrB .u64 (IntKind.wrap .u64 (↑nl : Int)) (32 : Int) * S.shrB .u64 (IntKind.wrap .u64 ct) (32 : Int) + S.shrB .u64 (u155_e_0 nl ct) (32 : Int) + S.shrB .u64 (u155_e_2 nl ct) (32 : Int) > 0)) (False) (test (decide (IntKind.wrap .u64 (↑nl : Int) * IntKind.wrap .u64 ct > 9223372036854775807)) (False) (test (decide ((0 : Int) ≤ IntKind.wrap .i64 (u155_e_1 nl ct) ∧ IntKind.wrap .i64 (u155_e_1 nl ct) ≤ IntKind.wrap .i64 (u155_e_1 nl ct) ∧ IntKind.wrap .i64 (u155_e_1 nl ct) ≤ 1000000)) (test (decide (0 + Min.min (Int.toNat (IntKind.wrap .i64 (u155_e_1 nl ct))) nl ≤ Int.toNat (IntKind.wrap .i64 (u155_e_1 nl ct)))) (test (decide (al + nl ≤ ml)) (Kst (hd Try.f55 0) ([PV.own (1) (1) (Int.toNat (IntKind.wrap .i64 (u155_e_1 nl ct))), PV.int .i64 (↑(Min.min (Int.toNat (IntKind.wrap .i64 (u155_e_1 nl ct))) nl) : Int)]) ([[(0, false, Blk.cols ml [Col.int .i64 tl]), (1, true, Blk.cols (Int.toNat (IntKind.wrap .i64 (u155_e_1 nl ct))) [Col.int .i64 fun j => bif Nat.ble (0) j then bif Nat.blt j (0 + Min.min (Int.toNat (IntKind.wrap .i64 (u155_e_1 nl ct))) nl) then tl (j + al) else (0 : Int) else (0 : Int)])]]) (2)) (False)) (False)) (False)))) (False)) (False))) (False)) (False)) (False)) (False))) (False))) (False)) (False))))
theorem te155 (test : TT) (Kst : KS) (Kret : KR) (al nl ml : Nat) (tl : NI) (ct : Int) : run test Try.env true noX true 400 ⟨55, [.cd (mkFn Try.f55).body], argT 0 [.loose ⟨0, 1, al, 0⟩ nl, .int .i64 ct], [[], [(0, (false, .cols ml [.int .i64 tl]))]], 1⟩ (proj 1 [7, 8] Kst Kret) =
  Te155 test Kst Kret al nl ml tl ct := by kernel_rfl
def T155_0 (test : TT) (Kst : KS) (Kret : KR) (al nl ml : Nat) (tl : NI) (ct x0 : Int) (x1 : List Int) : Prop := test (decide (x0 < (↑(List.length x1) : Int))) (test (decide ((0 : Int) ≤ x0 ∧ x0 ≤ (↑(List.length x1) : Int) ∧ (↑(List.length x1) : Int) ≤ (↑(List.length x1) : Int))) (test (decide ((0 : Int) ≤ x0 ∧ x0 ≤ (↑(List.length x1) : Int))) (test (decide (Int.toNat x0 + Min.min (List.length x1 - Int.toNat x0) (Int.toNat x0) ≤ List.length x1)) (test (decide (0 + Int.toNat x0 ≤ List.length x1)) (test (lim .i64 (x0 + (↑(Min.min (List.length x1 - Int.toNat x0) (Int.toNat x0)) : Int))) (Kst (hd Try.f55 0) ([PV.own (1) (1) (List.length x1), PV.int .i64 (x0 + (↑(Min.min (List.length x1 - Int.toNat x0) (Int.toNat x0)) : Int))]) ([[(0, false, Blk.cols ml [Col.int .i64 tl]), (1, true, Blk.cols (List.length x1) [Col.int .i64 fun j => bif Nat.ble (Int.toNat x0) j then bif Nat.blt j (Int.toNat x0 + Min.min (List.length x1 - Int.toNat x0) (Int.toNat x0)) then S.at' x1 (j - Int.toNat x0) else S.at' x1 j else S.at' x1 j])]]) (2)) (False)) (False)) (False)) (False)) (False)) (Kret (PV.own (1) (1) (List.length x1)) ([[(0, false, Blk.cols ml [Col.int .i64 tl]), (1, true, Blk.cols (List.length x1) [Col.int .i64 fun j => S.at' x1 j])]]) (2))
theorem t155_0 (test : TT) (Kst : KS) (Kret : KR) (al nl ml : Nat) (tl : NI) (ct x0 : Int) (x1 : List Int) : run test Try.env true noX true 400 ⟨55, hd Try.f55 0, zipT [7, 8] [PV.own (1) (1) (List.length x1), PV.int .i64 x0], [[(1, (true, Blk.cols (List.length x1) [Col.int .i64 fun j => S.at' x1 j]))], [(0, (false, .cols ml [.int .i64 tl]))]], 2⟩ (proj 1 [7, 8] Kst Kret) =
  T155_0 test Kst Kret al nl ml tl ct x0 x1 := by kernel_rfl
noncomputable abbrev J155 (al nl ml : Nat) (tl : NI) (ct : Int) : Rt155 → Heap := fun r => [newL (1 + 1) ((N155 al nl ml tl ct) r) ++ [(0, (false, .cols ml [.int .i64 tl]))]]
attribute [local irreducible] Int.subNatNat in
theorem be155 (al nl ml : Nat) (tl : NI) (ct : Int) (Kst : KS) (Kret : KR) (x : St155 ⊕ Rt155) (hS : HS 1 400 ((I155 al nl ml tl ct)) Kst x) (hR : HR 1 400 ((V155 al nl ml tl ct)) (J155 al nl ml tl ct) Kret x) (h : p155 al nl ml tl ct = some x) : Te155 cond Kst Kret al nl ml tl ct := by
  unfold Te155
  unfold p155 at h
  exact bif_split h (fun c0 h => no_some h) (fun c0 h => cond_no rfl (cond_no rfl (bif_split h (fun c1 h => bif_split h (fun c2 h => cond_no rfl (bif_split h (fun c3 h => cond_no rfl (bif_split h (fun c4 h => bif_split h (fun c5 h => bif_split h (fun c6 h => bif_split h (fun c7 h => cond_no rfl (bif_split h (fun c8 h => bif_split h (fun c9 h => bif_split h (fun c10 h => no_some h) (fun c10 h => bif_split h (fun c11 h => no_some h) (fun c11 h => bif_split h (fun c12 h => bif_split h (fun c13 h => bif_split h (fun c14 h => stop_at hS _ h (fun n => bif Nat.beq n 1 then 1 else n) rfl rfl rfl ⟨(rn_own (use_own rfl) rfl mkl_len), ⟨(rn_int rfl), trivial⟩⟩ rfl (entl_new (use_own rfl) rfl (Nat.le_of_eq mkl_len) (rcs_int (fun _ hj => col_mkl (fun (t : Int) => t) hj) rcs_nil) (entl_bor (use_lo rfl) rfl rfl entl_nil))) (fun c14 h => no_some h)) (fun c13 h => no_some h)) (fun c12 h => no_some h)))) (fun c9 h => no_some h)) (fun c8 h => no_some h))) (fun c7 h => no_some h)) (fun c6 h => no_some h)) (fun c5 h => no_some h)) (fun c4 h => no_some h))) (fun c3 h => no_some h))) (fun c2 h => no_some h)) (fun c1 h => no_some h))))
attribute [local irreducible] Int.subNatNat in
theorem b155_0 (al nl ml : Nat) (tl : NI) (ct : Int) (Kst : KS) (Kret : KR) (x : St155 ⊕ Rt155) (hS : HS 1 400 ((I155 al nl ml tl ct)) Kst x) (hR : HR 1 400 ((V155 al nl ml tl ct)) (J155 al nl ml tl ct) Kret x) (x0 : Int) (x1 : List Int) (h : q155 al nl ml tl ct (.h0 x0 x1) = some x) : T155_0 cond Kst Kret al nl ml tl ct x0 x1 := by
  unfold T155_0
  rw [q155] at h
  exact bif_split h (fun c0 h => bif_split h (fun c1 h => bif_split h (fun c2 h => bif_split h (fun c3 h => bif_split h (fun c4 h => bif_split h (fun c5 h => stop_at hS _ h (fun n => bif Nat.beq n 1 then 1 else n) rfl rfl rfl ⟨(rn_own (use_own rfl) rfl mkl_len), ⟨(rn_int rfl), trivial⟩⟩ rfl (entl_new (use_own rfl) rfl (Nat.le_of_eq mkl_len) (rcs_int (fun _ hj => col_mkl (fun (t : Int) => t) hj) rcs_nil) (entl_bor (use_lo rfl) rfl rfl entl_nil))) (fun c5 h => no_some h)) (fun c4 h => no_some h)) (fun c3 h => no_some h)) (fun c2 h => no_some h)) (fun c1 h => no_some h)) (fun c0 h => ret_at hR _ h (fun n => bif Nat.beq n 2 then 1 else n) rfl rfl rfl (rn_own (use_own rfl) rfl rfl) rfl (entl_new (use_own rfl) rfl (Nat.le_of_eq rfl) (rcs_int (fun _ _ => rfl) rcs_nil) (entl_bor (use_lo rfl) rfl rfl entl_nil)))
theorem a155 (al nl ml : Nat) (tl : NI) (ct : Int) {r : Rt155} (h : Goes ((q155 al nl ml tl ct)) ((p155 al nl ml tl ct)) r) : CallR Try.prog 55 [.loose ⟨0, 1, al, 0⟩ nl, .int .i64 ct] [[(0, (false, .cols ml [.int .i64 tl]))]] 1 ((V155 al nl ml tl ct) r) ((J155 al nl ml tl ct) r) 400 ∧ ∃ F, Try.prog.funcs[55]? = some F ∧ F.body.isSome = true ∧ (F.name == "runtime.NumGoroutine") = false := by
  refine dec_calls (f := 55) (lo := 1) (hi := 400) (H := [[(0, (false, .cols ml [.int .i64 tl]))]]) (args := [.loose ⟨0, 1, al, 0⟩ nl, .int .i64 ct]) Try.envOk Try.mixed noX_ok ((I155 al nl ml tl ct)) ((V155 al nl ml tl ct)) (J155 al nl ml tl ct) (fn := mkFn Try.f55) (ts := [7, 8]) (n := 400) rfl (by decide) (by simp) (names_of rfl) ?_ ?_ ?_ h
  · intro s; cases s <;> exact ⟨hd_ok _ _, by simp [I155], names_of rfl, Nat.le_of_ble_eq_true rfl⟩
  · intro Kst Kret x hS hR h
    exact Holds.eq (te155 cond Kst Kret al nl ml tl ct) (be155 al nl ml tl ct Kst Kret x hS hR h)
  · intro Kst Kret x hS hR s h
    cases s with
    | h0 x0 x1 => exact Holds.eq (t155_0 cond Kst Kret al nl ml tl ct x0 x1) (b155_0 al nl ml tl ct Kst Kret x hS hR x0 x1 h)
noncomputable abbrev w155 {α : Type} (g : Nat → Nat → Nat → (Nat → Int) → Int → α) (x : (Nat × Nat × Nat × (Nat → Int) × Unit) × Int × Unit) : α := g x.1.1 x.1.2.1 x.1.2.2.1 x.1.2.2.2.1 x.2.1
noncomputable def k155  : Con := ⟨55, [.one (.list [.int .i64]), .one (.plain (.int .i64))], w155 (fun al nl ml tl ct => decide ((al + nl ≤ ml ∧ nl ≤ 1000) ∧ 0 ≤ ct ∧ ct ≤ 1000)), w155 (fun al nl ml tl ct => (V155 al nl ml tl ct) (S.mkl (nl * ct.toNat) fun j => tl ((j % nl) + al))), w155 (fun al nl ml tl ct => (N155 al nl ml tl ct) (S.mkl (nl * ct.toNat) fun j => tl ((j % nl) + al))), fun _ _ => .dead⟩
theorem s155' (al nl ml : Nat) (tl : Nat → Int) (ct : Int) (c : Nat) (hT : nl * c ≤ 1000000) (h0 : 0 < nl) : ∀ (k d : Nat) (L : List Int), d + k = nl * c → 0 < d → (d % nl = 0 ∨ d = nl * c) → Holds (L = S.mkl (nl * c) (fun j => if j < d then tl ((j % nl) + al) else 0)) → Comes (q155 al nl ml tl ct) (.h0 (d : Int) L) (S.mkl (nl * c) fun j => tl ((j % nl) + al)) := by
  intro k
  induction k using Nat.strongRecOn with
  | ind k ih =>
    intro d L hk hd hm eL
    have hL : L.length = nl * c := by rw [eL.get, mkl_len]
    by_cases hz : k = 0
    · subst hz
      have e : L = S.mkl (nl * c) fun j => tl ((j % nl) + al) := by
        rw [eL.get]; exact mkl_congr fun j hj => if_pos (by omega)
      apply Comes.of
      show Goes _ _ _
      (first | rw [q155] | unfold q155)
      repeat' (first | with_reducible refine goes_if (fun h => ?_) (fun h => ?_) <;> (try simp only [SH] at h) | exact goes_none.mpr (by omega))
      all_goals first | (exfalso; omega) | exact goes_inr.mpr e
    · have hm : d % nl = 0 := by omega
      have hn : min (L.length - d) d ≤ L.length - d ∧ min (L.length - d) d ≤ d ∧ 0 < min (L.length - d) d := by omega
      have ih := ih (k - min (L.length - d) d) (by omega) (d + min (L.length - d) d) (S.mkl L.length fun j => bif Nat.ble d j then bif Nat.blt j (d + min (L.length - d) d) then S.at' L (j - d) else S.at' L j else S.at' L j) (by omega) (by omega) (by
          rcases Nat.le_total (L.length - d) d with h1 | h1
          · right; omega
          · left; rw [Nat.min_eq_right h1, Nat.add_mod, hm]; simp) ⟨by
          rw [hL]
          refine mkl_congr fun j hj => ?_
          have ea : ∀ j, j < nl * c → S.at' L j = if j < d then tl ((j % nl) + al) else 0 := fun j hj => by rw [eL.get, at_mkl hj]
          by_cases h1 : d ≤ j
          · rw [show Nat.ble d j = true by rw [Nat.ble_eq]; exact h1, cond_true]
            by_cases h2 : j < d + min (nl * c - d) d
            · rw [show Nat.blt j (d + min (nl * c - d) d) = true by rw [Nat.blt_eq]; exact h2, cond_true, if_pos h2, ea (j - d) (by omega), if_pos (by omega)]
              have e : (j - d) % nl = j % nl := by
                obtain ⟨w, hw⟩ := Nat.dvd_of_mod_eq_zero hm
                have : j = (j - d) + nl * w := by omega
                rw [this, Nat.add_mul_mod_self_left]
                congr 1; omega
              rw [e]
            · rw [show Nat.blt j (d + min (nl * c - d) d) = false by cases hb : Nat.blt j (d + min (nl * c - d) d); rfl; exact absurd (lt_ok hb) h2, cond_false, if_neg h2, ea j hj, if_neg (by omega)]
          · rw [show Nat.ble d j = false by cases hb : Nat.ble d j; rfl; exact absurd (le_ok hb) h1, cond_false, ea j hj, if_pos (by omega), if_pos (by omega)]⟩
      have e1 : ((d : Int) + ((min (L.length - d) d : Nat) : Int)) = ((d + min (L.length - d) d : Nat) : Int) := by omega
      apply Comes.of
      show Goes _ _ _
      (first | rw [q155] | unfold q155)
      try simp only [Int.toNat_natCast, e1]
      try show Goes _ _ _
      repeat' (first | with_reducible refine goes_if (fun h => ?_) (fun h => ?_) <;> (try simp only [SH] at h) | exact goes_none.mpr (by omega))
      all_goals first | (exfalso; omega) | exact ih
theorem s155 (al nl ml : Nat) (tl : Nat → Int) (ct : Int) (hp : (al + nl ≤ ml ∧ nl ≤ 1000) ∧ 0 ≤ ct ∧ ct ≤ 1000) : Goes ((q155 al nl ml tl ct)) ((p155 al nl ml tl ct)) (S.mkl (nl * ct.toNat) fun j => tl ((j % nl) + al)) := by
  obtain ⟨⟨hp1, hp2⟩, hp3, hp4⟩ := hp
  obtain ⟨c, rfl⟩ := Int.eq_ofNat_of_zero_le hp3
  have hc : c ≤ 1000 := by omega
  have hT0 : nl * c ≤ 1000 * 1000 := Nat.mul_le_mul hp2 hc
  have hT : nl * c ≤ 1000000 := hT0
  have hmul : (nl : Int) * (c : Int) = ((nl * c : Nat) : Int) := (Int.natCast_mul nl c).symm
  have w1 : IntKind.wrap .u64 (nl : Int) = nl := u64_in _ (by omega)
  have w2 : IntKind.wrap .u64 (c : Int) = c := u64_in _ (by omega)
  have w3 : IntKind.wrap .i64 ((nl * c : Nat) : Int) = ((nl * c : Nat) : Int) := i64_in _ (by omega)
  have a1 : S.andB .u64 (nl : Int) 4294967295 = nl := and32 (by omega)
  have a2 : S.andB .u64 (c : Int) 4294967295 = c := and32 (by omega)
  have a0 : S.andB .u64 0 4294967295 = 0 := and32 (by decide)
  have h1 : S.shrB .u64 (nl : Int) 32 = 0 := shr32 (by omega)
  have h2 : S.shrB .u64 (c : Int) 32 = 0 := shr32 (by omega)
  have h3 : S.shrB .u64 ((nl * c : Nat) : Int) 32 = 0 := shr32 (by omega)
  have h0 : S.shrB .u64 0 32 = 0 := shr32 (by decide)
  have hl0 : lim .u64 0 = true := rfl
  have hl1 : lim .u64 ((nl * c : Nat) : Int) = true := by rw [limu64]; exact decide_eq_true (by omega)
  rw [Int.toNat_natCast]
  unfold p155
  simp only [w1, w2, a1, a2, h1, h2, hmul, w3, h3, a0, h0, Int.zero_mul, Int.mul_zero, Int.add_zero, Int.zero_add, hl0, hl1, cond_true, Int.toNat_natCast]
  have hm : 0 < nl → 0 < c → Comes (q155 al nl ml tl (c : Int)) (.h0 (((min (nl * c) nl : Nat)) : Int) (S.mkl (nl * c) fun j => bif Nat.ble 0 j then bif Nat.blt j (0 + min (nl * c) nl) then tl (j + al) else 0 else 0)) (S.mkl (nl * c) fun j => tl ((j % nl) + al)) := fun q1 q2 => by
    have e : min (nl * c) nl = nl := Nat.min_eq_right (Nat.le_mul_of_pos_right nl q2)
    rw [e]
    refine s155' al nl ml tl (c : Int) c hT q1 (nl * c - nl) nl _ (by have := Nat.le_mul_of_pos_right nl q2; omega) q1 (.inl (Nat.mod_self nl)) ⟨mkl_congr fun j hj => ?_⟩
    rw [show Nat.ble 0 j = true by rw [Nat.ble_eq]; omega, cond_true, Nat.zero_add]
    by_cases h : j < nl
    · rw [show Nat.blt j nl = true by rw [Nat.blt_eq]; exact h, cond_true, if_pos h, Nat.mod_eq_of_lt h]
    · rw [show Nat.blt j nl = false by cases hb : Nat.blt j nl; rfl; exact absurd (lt_ok hb) h, cond_false, if_neg h]
  have hz : nl = 0 ∨ c = 0 → nl * c = 0 := fun h => by rcases h with h | h <;> rw [h] <;> simp
  have hz2 : ∀ (f g : Nat → Int), nl * c = 0 → S.mkl (nl * c) f = S.mkl (nl * c) g := fun f g h => by rw [h]; rfl
  show Goes _ _ _
  by_cases hn : nl = 0 ∨ c = 0
  · have hz := hz hn
    repeat' (first | with_reducible refine goes_if (fun h => ?_) (fun h => ?_) <;> (try simp only [SH] at h) | exact goes_none.mpr (by omega))
    all_goals first
      | (exfalso; omega)
      | (apply Comes.of
         show Goes _ _ _
         (first | rw [q155] | unfold q155)
         repeat' (first | with_reducible refine goes_if (fun h => ?_) (fun h => ?_) <;> (try simp only [SH, mkl_len] at h) | exact goes_none.mpr (by omega))
         all_goals first | (exfalso; omega) | (exfalso; simp_all; done) | exact goes_inr.mpr (hz2 _ _ hz))
  · have hm := hm (by omega) (by omega)
    repeat' (first | with_reducible refine goes_if (fun h => ?_) (fun h => ?_) <;> (try simp only [SH] at h) | exact goes_none.mpr (by omega))
    all_goals first | (exfalso; omega) | exact hm
theorem k155_ok  : k155.ok Try.prog := by
  intro x hx
  obtain ⟨⟨al, nl, ml, tl, _⟩, ct, _⟩ := x
  obtain ⟨h1, h2⟩ := a155 al nl ml tl ct (s155 al nl ml tl ct (of_dec hx rfl))
  exact ⟨⟨400, (by decide : 1 + 1 + 1 ≤ 400), h1⟩, h2⟩
noncomputable def xR (test : Bool → Prop → Prop → Prop) : Ext := consX test [k155]
theorem xR_ok  : ExtOk Try.prog (xR cond) := consX_ok ⟨k155_ok, trivial⟩
inductive St116 where
  | h0 (x0 : Int)
abbrev Rt116  := Int
noncomputable def V116 (cn : ByteArray) (aq nq mq : Nat) (tq : NI) (rp fl : Int) (r : Rt116) : PV := PV.int .i64 r
noncomputable def N116 (cn : ByteArray) (aq nq mq : Nat) (tq : NI) (rp fl : Int) (r : Rt116) : List Blk := []
noncomputable def I116 (cn : ByteArray) (aq nq mq : Nat) (tq : NI) (rp fl : Int) : St116 → Hd
  | .h0 x0 => ⟨hd Try.f16 0, [PV.ptr (PA.mk (1) (0) (0) (0)),
 PV.loose (PA.mk (0) (1) aq (0)) nq, PV.int .i64 (↑nq : Int),
 PV.int .i64 x0], [[(1, (true, Blk.cells
 [PV.str cn, PV.loose (PA.mk (0) (1) aq (0)) nq,
 PV.int .i64 rp, PV.int .i64 fl]))], [(0, (false, .cols mq [.int .i64 tq]))]], 2⟩
noncomputable def q116 (cn : ByteArray) (aq nq mq : Nat) (tq : NI) (rp fl : Int) : St116 → Option (St116 ⊕ Rt116) | .h0 x0 => bif (decide (x0 < (↑nq : Int))) then (bif (decide ((0 : Int) ≤ x0 ∧ x0 < (↑nq : Int))) then (bif (decide (Int.toNat x0 + aq < mq)) then (bif (decide (tq (Int.toNat x0 + aq) ≥ -1099511627776)) then (bif (decide (tq (Int.toNat x0 + aq) ≤ 1099511627776)) then (bif (decide (x0 > 0)) then (bif (lim .i64 (x0 - 1)) then (bif (decide ((0 : Int) ≤ x0 - 1 ∧ x0 - 1 < (↑nq : Int))) then (bif (decide (Int.toNat (x0 - 1) + aq < mq)) then (bif (tq (Int.toNat x0 + aq) == tq (Int.toNat (x0 - 1) + aq)) then (some (.inr ((12 : Int)))) else (bif (lim .i64 (x0 + 1)) then (some (.inl (.h0 (x0 + 1)))) else (none))) else (none)) else (none)) else (none)) else (bif (lim .i64 (x0 + 1)) then (some (.inl (.h0 (x0 + 1)))) else (none))) else (some (.inr ((6 : Int))))) else (some (.inr ((6 : Int))))) else (none)) else (none)) else (bif (decide (rp < 1)) then (some (.inr ((6 : Int)))) else (bif (decide (rp > 9)) then (some (.inr ((6 : Int)))) else (bif (decide (fl ≥ -1099511627776)) then (bif (decide (fl ≤ 1099511627776)) then (bif (lim .i64 ((↑nq : Int) - 1)) then (bif (decide ((0 : Int) ≤ (↑nq : Int) - 1 ∧ (↑nq : Int) - 1 < (↑nq : Int))) then (bif (decide (Int.toNat ((↑nq : Int) - 1) + aq < mq)) then (bif (fl == tq (Int.toNat ((↑nq : Int) - 1) + aq)) then (some (.inr ((12 : Int)))) else (some (.inr ((0 : Int))))) else (none)) else (none)) else (none)) else (some (.inr ((6 : Int))))) else (some (.inr ((6 : Int)))))))
noncomputable def p116 (cn : ByteArray) (aq nq mq : Nat) (tq : NI) (rp fl : Int) : Option (St116 ⊕ Rt116) := bif (S.isNam cn) then (bif (decide ((↑nq : Int) < 2)) then (some (.inr ((7 : Int)))) else (bif (decide ((↑nq : Int) > 20)) then (some (.inr ((3 : Int)))) else (some (.inl (.h0 ((0 : Int))))))) else (some (.inr ((2 : Int))))
def Te116 (test : TT) (Kst : KS) (Kret : KR) (cn : ByteArray) (aq nq mq : Nat) (tq : NI) (rp fl : Int) : Prop := test (true) (test (S.isNam cn) (test (decide ((↑nq : Int) < 2)) (Kret (PV.int .i64 (7 : Int)) ([[(0, false, Blk.cols mq [Col.int .i64 tq])]]) (3)) (test (decide ((↑nq : Int) > 20)) (Kret (PV.int .i64 (3 : Int)) ([[(0, false, Blk.cols mq [Col.int .i64 tq])]]) (3)) (Kst (hd Try.f16 0) ([PV.ptr (PA.mk (1) (0) (0) (0)), PV.loose (PA.mk (0) (1) aq (0)) nq, PV.int .i64 (↑nq : Int), PV.int .i64 (0 : Int)]) ([[(0, false, Blk.cols mq [Col.int .i64 tq]), (1, true, Blk.cells [PV.str cn, PV.loose (PA.mk (0) (1) aq (0)) nq, PV.int .i64 rp, PV.int .i64 fl])]]) (3)))) (Kret (PV.int .i64 (2 : Int)) ([[(0, false, Blk.cols mq [Col.int .i64 tq])]]) (3))) (False)
theorem te116 (test : TT) (Kst : KS) (Kret : KR) (cn : ByteArray) (aq nq mq : Nat) (tq : NI) (rp fl : Int) : run test Try.env true (xN test) true 400 ⟨16, [.cd (mkFn Try.f16).body], argT 0 [.agg [.str cn, .loose ⟨0, 1, aq, 0⟩ nq, .int .i64 rp, .int .i64 fl]], [[], [(0, (false, .cols mq [.int .i64 tq]))]], 1⟩ (proj 1 [1, 18, 19, 20] Kst Kret) =
  Te116 test Kst Kret cn aq nq mq tq rp fl := by kernel_rfl
noncomputable abbrev u116_0_0 (mq : Nat) (tq : Nat → Int) := (0, false, Blk.cols mq [Col.int IntKind.i64 tq])
def T116_0 (test : TT) (Kst : KS) (Kret : KR) (cn : ByteArray) (aq nq mq : Nat) (tq : NI) (rp fl x0 : Int) : Prop := test (decide (x0 < (↑nq : Int))) (test (decide ((0 : Int) ≤ x0 ∧ x0 < (↑nq : Int))) (test (decide (Int.toNat x0 + aq < mq)) (test (decide (tq (Int.toNat x0 + aq) ≥ -1099511627776)) (test (decide (tq (Int.toNat x0 + aq) ≤ 1099511627776)) (test (decide (x0 > 0)) (test (lim .i64 (x0 - 1)) (test (decide ((0 : Int) ≤ x0 - 1 ∧ x0 - 1 < (↑nq : Int))) (test (decide (Int.toNat (x0 - 1) + aq < mq)) (test (tq (Int.toNat x0 + aq) == tq (Int.toNat (x0 - 1) + aq)) (Kret (PV.int .i64 (12 : Int)) ([[(u116_0_0 mq tq)]]) (2)) (test (lim .i64 (x0 + 1)) (Kst (hd Try.f16 0) ([PV.ptr (PA.mk (1) (0) (0) (0)), PV.loose (PA.mk (0) (1) aq (0)) nq, PV.int .i64 (↑nq : Int), PV.int .i64 (x0 + 1)]) ([[(u116_0_0 mq tq), (1, true, Blk.cells [PV.str cn, PV.loose (PA.mk (0) (1) aq (0)) nq, PV.int .i64 rp, PV.int .i64 fl])]]) (2)) (False))) (False)) (False)) (False)) (test (lim .i64 (x0 + 1)) (Kst (hd Try.f16 0) ([PV.ptr (PA.mk (1) (0) (0) (0)), PV.loose (PA.mk (0) (1) aq (0)) nq, PV.int .i64 (↑nq : Int), PV.int .i64 (x0 + 1)]) ([[(u116_0_0 mq tq), (1, true, Blk.cells [PV.str cn, PV.loose (PA.mk (0) (1) aq (0)) nq, PV.int .i64 rp, PV.int .i64 fl])]]) (2)) (False))) (Kret (PV.int .i64 (6 : Int)) ([[(u116_0_0 mq tq)]]) (2))) (Kret (PV.int .i64 (6 : Int)) ([[(u116_0_0 mq tq)]]) (2))) (False)) (False)) (test (decide (rp < 1)) (Kret (PV.int .i64 (6 : Int)) ([[(u116_0_0 mq tq)]]) (2)) (test (decide (rp > 9)) (Kret (PV.int .i64 (6 : Int)) ([[(u116_0_0 mq tq)]]) (2)) (test (decide (fl ≥ -1099511627776)) (test (decide (fl ≤ 1099511627776)) (test (lim .i64 ((↑nq : Int) - 1)) (test (decide ((0 : Int) ≤ (↑nq : Int) - 1 ∧ (↑nq : Int) - 1 < (↑nq : Int))) (test (decide (Int.toNat ((↑nq : Int) - 1) + aq < mq)) (test (fl == tq (Int.toNat ((↑nq : Int) - 1) + aq)) (Kret (PV.int .i64 (12 : Int)) ([[(u116_0_0 mq tq)]]) (3)) (Kret (PV.int .i64 (0 : Int)) ([[(u116_0_0 mq tq)]]) (3))) (False)) (False)) (False)) (Kret (PV.int .i64 (6 : Int)) ([[(u116_0_0 mq tq)]]) (2))) (Kret (PV.int .i64 (6 : Int)) ([[(u116_0_0 mq tq)]]) (2)))))
theorem t116_0 (test : TT) (Kst : KS) (Kret : KR) (cn : ByteArray) (aq nq mq : Nat) (tq : NI) (rp fl x0 : Int) : run test Try.env true (xN test) true 400 ⟨16, hd Try.f16 0, zipT [1, 18, 19, 20] [PV.ptr (PA.mk (1) (0) (0) (0)),
 PV.loose (PA.mk (0) (1) aq (0)) nq, PV.int .i64 (↑nq : Int),
 PV.int .i64 x0], [[(1, (true, Blk.cells
 [PV.str cn, PV.loose (PA.mk (0) (1) aq (0)) nq,
 PV.int .i64 rp, PV.int .i64 fl]))], [(0, (false, .cols mq [.int .i64 tq]))]], 2⟩ (proj 1 [1, 18, 19, 20] Kst Kret) =
  T116_0 test Kst Kret cn aq nq mq tq rp fl x0 := by kernel_rfl
noncomputable abbrev J116 (cn : ByteArray) (aq nq mq : Nat) (tq : NI) (rp : Int) (fl : Int) : Rt116 → Heap := fun r => [newL (1 + 1) ((N116 cn aq nq mq tq rp fl) r) ++ [(0, (false, .cols mq [.int .i64 tq]))]]
attribute [local irreducible] Int.subNatNat in
theorem be116 (cn : ByteArray) (aq nq mq : Nat) (tq : NI) (rp fl : Int) (Kst : KS) (Kret : KR) (x : St116 ⊕ Rt116) (hS : HS 1 400 ((I116 cn aq nq mq tq rp fl)) Kst x) (hR : HR 1 400 ((V116 cn aq nq mq tq rp fl)) (J116 cn aq nq mq tq rp fl) Kret x) (h : p116 cn aq nq mq tq rp fl = some x) : Te116 cond Kst Kret cn aq nq mq tq rp fl := by
  unfold Te116
  unfold p116 at h
  exact cond_yes rfl (bif_split h (fun c0 h => bif_split h (fun c1 h => ret_at hR _ h (fun n => n) rfl rfl rfl (rn_int rfl) rfl (entl_bor (use_lo rfl) rfl rfl entl_nil)) (fun c1 h => bif_split h (fun c2 h => ret_at hR _ h (fun n => n) rfl rfl rfl (rn_int rfl) rfl (entl_bor (use_lo rfl) rfl rfl entl_nil)) (fun c2 h => stop_at hS _ h (fun n => bif Nat.beq n 1 then 1 else n) rfl rfl rfl ⟨(rn_ptr (use_own rfl) rfl rfl), ⟨(rn_loose (use_lo rfl) rfl rfl rfl), ⟨(rn_int rfl), ⟨(rn_int rfl), trivial⟩⟩⟩⟩ rfl (entl_b (use_own rfl) rfl (by simp) (rb_cells ⟨(rn_str rfl), (rn_loose (use_lo rfl) rfl rfl rfl), (rn_int rfl), (rn_int rfl), trivial⟩) (entl_bor (use_lo rfl) rfl rfl entl_nil))))) (fun c0 h => ret_at hR _ h (fun n => n) rfl rfl rfl (rn_int rfl) rfl (entl_bor (use_lo rfl) rfl rfl entl_nil)))
attribute [local irreducible] Int.subNatNat in
theorem b116_0 (cn : ByteArray) (aq nq mq : Nat) (tq : NI) (rp fl : Int) (Kst : KS) (Kret : KR) (x : St116 ⊕ Rt116) (hS : HS 1 400 ((I116 cn aq nq mq tq rp fl)) Kst x) (hR : HR 1 400 ((V116 cn aq nq mq tq rp fl)) (J116 cn aq nq mq tq rp fl) Kret x) (x0 : Int) (h : q116 cn aq nq mq tq rp fl (.h0 x0) = some x) : T116_0 cond Kst Kret cn aq nq mq tq rp fl x0 := by
  unfold T116_0
  rw [q116] at h
  refine bif_split h (fun c0 h => bif_split h (fun c1 h => bif_split h (fun c2 h => bif_split h (fun c3 h => bif_split h (fun c4 h => bif_split h (fun c5 h => bif_split h (fun c6 h => bif_split h (fun c7 h => bif_split h (fun c8 h => bif_split h (fun c9 h => ?_) (fun c9 h => bif_split h (fun c10 h => ?_) (fun c10 h => ?_))) (fun c8 h => ?_)) (fun c7 h => ?_)) (fun c6 h => ?_)) (fun c5 h => bif_split h (fun c6 h => ?_) (fun c6 h => ?_))) (fun c4 h => ?_)) (fun c3 h => ?_)) (fun c2 h => ?_)) (fun c1 h => ?_)) (fun c0 h => bif_split h (fun c1 h => ?_) (fun c1 h => bif_split h (fun c2 h => ?_) (fun c2 h => bif_split h (fun c3 h => bif_split h (fun c4 h => bif_split h (fun c5 h => bif_split h (fun c6 h => bif_split h (fun c7 h => bif_split h (fun c8 h => ?_) (fun c8 h => ?_)) (fun c7 h => ?_)) (fun c6 h => ?_)) (fun c5 h => ?_)) (fun c4 h => ?_)) (fun c3 h => ?_))))
  all_goals first
    | exact no_some h
    | exact ret_at hR _ h (fun n => n) rfl rfl rfl (rn_int rfl) rfl (entl_bor (use_lo rfl) rfl rfl entl_nil)
    | exact stop_at hS _ h (fun n => bif Nat.beq n 1 then 1 else n) rfl rfl rfl ⟨(rn_ptr (use_own rfl) rfl rfl), ⟨(rn_loose (use_lo rfl) rfl rfl rfl), ⟨(rn_int rfl), ⟨(rn_int rfl), trivial⟩⟩⟩⟩ rfl (entl_b (use_own rfl) rfl (by simp) (rb_cells ⟨(rn_str rfl), (rn_loose (use_lo rfl) rfl rfl rfl), (rn_int rfl), (rn_int rfl), trivial⟩) (entl_bor (use_lo rfl) rfl rfl entl_nil))
theorem a116 (cn : ByteArray) (aq nq mq : Nat) (tq : NI) (rp fl : Int) {r : Rt116} (h : Goes ((q116 cn aq nq mq tq rp fl)) ((p116 cn aq nq mq tq rp fl)) r) : CallR Try.prog 16 [.agg [.str cn, .loose ⟨0, 1, aq, 0⟩ nq, .int .i64 rp, .int .i64 fl]] [[(0, (false, .cols mq [.int .i64 tq]))]] 1 ((V116 cn aq nq mq tq rp fl) r) ((J116 cn aq nq mq tq rp fl) r) 400 ∧ ∃ F, Try.prog.funcs[16]? = some F ∧ F.body.isSome = true ∧ (F.name == "runtime.NumGoroutine") = false := by
  refine dec_calls (f := 16) (lo := 1) (hi := 400) (H := [[(0, (false, .cols mq [.int .i64 tq]))]]) (args := [.agg [.str cn, .loose ⟨0, 1, aq, 0⟩ nq, .int .i64 rp, .int .i64 fl]]) Try.envOk Try.mixed xN_ok ((I116 cn aq nq mq tq rp fl)) ((V116 cn aq nq mq tq rp fl)) (J116 cn aq nq mq tq rp fl) (fn := mkFn Try.f16) (ts := [1, 18, 19, 20]) (n := 400) rfl (by decide) (by simp) (names_of rfl) ?_ ?_ ?_ h
  · intro s; cases s <;> exact ⟨hd_ok _ _, by simp [I116], names_of rfl, Nat.le_of_ble_eq_true rfl⟩
  · intro Kst Kret x hS hR h
    exact Holds.eq (te116 cond Kst Kret cn aq nq mq tq rp fl) (be116 cn aq nq mq tq rp fl Kst Kret x hS hR h)
  · intro Kst Kret x hS hR s h
    cases s with
    | h0 x0 => exact Holds.eq (t116_0 cond Kst Kret cn aq nq mq tq rp fl x0) (b116_0 cn aq nq mq tq rp fl Kst Kret x hS hR x0 h)
noncomputable abbrev w116 {α : Type} (g : ByteArray → Nat → Nat → Nat → (Nat → Int) → Int → Int → α) (x : (ByteArray × (Nat × Nat × Nat × (Nat → Int) × Unit) × Int × Int × Unit) × Unit) : α := g x.1.1 x.1.2.1.1 x.1.2.1.2.1 x.1.2.1.2.2.1 x.1.2.1.2.2.2.1 x.1.2.2.1 x.1.2.2.2.1
noncomputable def k116  : Con := ⟨16, [.agg [.plain (.str), .list [.int .i64], .plain (.int .i64), .plain (.int .i64)]], w116 (fun cn aq nq mq tq rp fl => decide (aq + nq ≤ mq ∧ nq ≤ 1000000)), w116 (fun cn aq nq mq tq rp fl => (V116 cn aq nq mq tq rp fl) ((S.cyE cn nq (fun j => tq (j + aq)) rp fl))), w116 (fun cn aq nq mq tq rp fl => (N116 cn aq nq mq tq rp fl) ((S.cyE cn nq (fun j => tq (j + aq)) rp fl))), fun _ _ => .dead⟩
theorem s116' (cn : ByteArray) (aq nq mq : Nat) (tq : Nat → Int) (rp fl : Int) (hp1 : aq + nq ≤ mq) (hn : 2 ≤ nq ∧ nq ≤ 20) : ∀ k i : Nat, i + k = nq → Comes (q116 cn aq nq mq tq rp fl) (.h0 (i : Int)) (S.curE (if (1 ≤ rp ∧ rp ≤ 9) ∧ -1099511627776 ≤ fl ∧ fl ≤ 1099511627776 then (if fl = tq (nq - 1 + aq) then 12 else 0) else 6) (fun j => tq (j + aq)) i k) := by
  intro k
  induction k with
  | zero =>
    intro i hi
    obtain rfl : nq = i := by omega
    simp only [S.curE]
    have e1 : ((nq : Int) - 1).toNat = nq - 1 := by omega
    apply Comes.of
    show Goes _ _ _
    (first | rw [q116] | unfold q116)
    try simp only [e1]
    try show Goes _ _ _
    repeat' (first | with_reducible refine goes_if (fun h => ?_) (fun h => ?_) <;> (try simp only [SH] at h) | exact goes_none.mpr (by omega))
    all_goals first
      | (exfalso; omega)
      | (refine goes_inr.mpr ?_; first | (rw [if_neg (by omega)]; done) | (rw [if_pos (by omega), if_pos (by omega)]; done) | (rw [if_pos (by omega), if_neg (by omega)]; done))
  | succ k ih =>
    intro i hi
    have ih := ih (i + 1) (by omega)
    simp only [S.curE]
    have e1 : 0 < i → ((i : Int) - 1).toNat = i - 1 := fun _ => by omega
    by_cases h0 : 0 < i
    · have e1 := e1 h0
      apply Comes.of
      show Goes _ _ _
      (first | rw [q116] | unfold q116)
      try simp only [e1, Int.toNat_natCast]
      try show Goes _ _ _
      repeat' (first | with_reducible refine goes_if (fun h => ?_) (fun h => ?_) <;> (try simp only [SH] at h) | exact goes_none.mpr (by omega))
      all_goals first
        | (exfalso; omega)
        | (rw [if_pos (by omega), if_neg (by omega)]; exact ih)
        | (refine goes_inr.mpr ?_; first | (rw [if_neg (by omega)]; done) | (rw [if_pos (by omega), if_pos (by omega)]; done))
    · apply Comes.of
      show Goes _ _ _
      (first | rw [q116] | unfold q116)
      try simp only [Int.toNat_natCast]
      try show Goes _ _ _
      repeat' (first | with_reducible refine goes_if (fun h => ?_) (fun h => ?_) <;> (try simp only [SH] at h) | exact goes_none.mpr (by omega))
      all_goals first
        | (exfalso; omega)
        | (rw [if_pos (by omega), if_neg (by omega)]; exact ih)
        | (refine goes_inr.mpr ?_; first | (rw [if_neg (by omega)]; done) | (rw [if_pos (by omega), if_pos (by omega)]; done))
theorem s116 (cn : ByteArray) (aq nq mq : Nat) (tq : Nat → Int) (rp fl : Int) (hp : aq + nq ≤ mq ∧ nq ≤ 1000000) : Goes ((q116 cn aq nq mq tq rp fl)) ((p116 cn aq nq mq tq rp fl)) ((S.cyE cn nq (fun j => tq (j + aq)) rp fl)) := by
  obtain ⟨hp1, hp2⟩ := hp
  unfold S.cyE
  have hm := fun (h : 2 ≤ nq ∧ nq ≤ 20) => s116' cn aq nq mq tq rp fl hp1 h nq 0 (Nat.zero_add _)
  unfold p116
  generalize S.isNam cn = A
  show Goes _ _ _
  cases A
  · exact goes_inr.mpr rfl
  · rw [if_pos rfl]
    repeat' (first | with_reducible refine goes_if (fun h => ?_) (fun h => ?_) <;> (try simp only [SH] at h) | exact goes_none.mpr (by omega))
    all_goals first | (exfalso; omega) | (rw [if_neg (by omega), if_neg (by omega)]; exact hm (by omega)) | (refine goes_inr.mpr ?_; first | (rw [if_pos (by omega)]; done) | (rw [if_neg (by omega), if_pos (by omega)]; done)) | (exfalso; simp_all; done)
theorem k116_ok  : k116.ok Try.prog := by
  intro x hx
  obtain ⟨⟨cn, ⟨aq, nq, mq, tq, _⟩, rp, fl, _⟩, _⟩ := x
  obtain ⟨h1, h2⟩ := a116 cn aq nq mq tq rp fl (s116 cn aq nq mq tq rp fl (of_dec hx rfl))
  exact ⟨⟨400, (by decide : 1 + 1 + 0 ≤ 400), h1⟩, h2⟩
inductive St117 where
  | h0 (x0 : Int)
abbrev Rt117  := Int
noncomputable def V117 (cn : ByteArray) (aq nq mq : Nat) (tq : NI) (rp fl : Int) (r : Rt117) : PV := PV.int .i64 r
noncomputable def N117 (cn : ByteArray) (aq nq mq : Nat) (tq : NI) (rp fl : Int) (r : Rt117) : List Blk := []
noncomputable def I117 (cn : ByteArray) (aq nq mq : Nat) (tq : NI) (rp fl : Int) : St117 → Hd
  | .h0 x0 => ⟨hd Try.f17 0, [PV.ptr (PA.mk (1) (0) (0) (0)), PV.int .i64 (↑nq : Int),
 PV.int .i64 x0], [[(1, (true, Blk.cells
 [PV.str cn, PV.loose (PA.mk (0) (1) aq (0)) nq,
 PV.int .i64 rp, PV.int .i64 fl]))], [(0, (false, .cols mq [.int .i64 tq]))]], 2⟩
noncomputable def q117 (cn : ByteArray) (aq nq mq : Nat) (tq : NI) (rp fl : Int) : St117 → Option (St117 ⊕ Rt117) | .h0 x0 => bif (decide (x0 < (↑nq : Int))) then (bif (decide ((0 : Int) ≤ x0 ∧ x0 < (↑nq : Int))) then (bif (decide (Int.toNat x0 + aq < mq)) then (bif (decide (tq (Int.toNat x0 + aq) ≥ -1099511627776)) then (bif (decide (tq (Int.toNat x0 + aq) ≤ 1099511627776)) then (bif (decide (x0 > 0)) then (bif (lim .i64 (x0 - 1)) then (bif (decide ((0 : Int) ≤ x0 - 1 ∧ x0 - 1 < (↑nq : Int))) then (bif (decide (Int.toNat (x0 - 1) + aq < mq)) then (bif (tq (Int.toNat x0 + aq) == tq (Int.toNat (x0 - 1) + aq)) then (some (.inr ((12 : Int)))) else (bif (lim .i64 (x0 + 1)) then (some (.inl (.h0 (x0 + 1)))) else (none))) else (none)) else (none)) else (none)) else (bif (lim .i64 (x0 + 1)) then (some (.inl (.h0 (x0 + 1)))) else (none))) else (some (.inr ((6 : Int))))) else (some (.inr ((6 : Int))))) else (none)) else (none)) else (bif (decide (rp < 1)) then (some (.inr ((6 : Int)))) else (bif (decide (rp > 9)) then (some (.inr ((6 : Int)))) else (bif (decide (fl ≥ -1099511627776)) then (bif (decide (fl ≤ 1099511627776)) then (bif (lim .i64 ((↑nq : Int) - 1)) then (bif (decide ((0 : Int) ≤ (↑nq : Int) - 1 ∧ (↑nq : Int) - 1 < (↑nq : Int))) then (bif (decide (Int.toNat ((↑nq : Int) - 1) + aq < mq)) then (bif (fl == tq (Int.toNat ((↑nq : Int) - 1) + aq)) then (some (.inr ((12 : Int)))) else (some (.inr ((0 : Int))))) else (none)) else (none)) else (none)) else (some (.inr ((6 : Int))))) else (some (.inr ((6 : Int)))))))
noncomputable def p117 (cn : ByteArray) (aq nq mq : Nat) (tq : NI) (rp fl : Int) : Option (St117 ⊕ Rt117) := bif (S.isNam cn) then (bif (decide ((↑nq : Int) < 2)) then (some (.inr ((7 : Int)))) else (bif (decide ((↑nq : Int) > 20)) then (some (.inr ((3 : Int)))) else (some (.inl (.h0 ((0 : Int))))))) else (some (.inr ((2 : Int))))
def Te117 (test : TT) (Kst : KS) (Kret : KR) (cn : ByteArray) (aq nq mq : Nat) (tq : NI) (rp fl : Int) : Prop := test (true) (test (S.isNam cn) (test (decide ((↑nq : Int) < 2)) (Kret (PV.int .i64 (7 : Int)) ([[(0, false, Blk.cols mq [Col.int .i64 tq])]]) (3)) (test (decide ((↑nq : Int) > 20)) (Kret (PV.int .i64 (3 : Int)) ([[(0, false, Blk.cols mq [Col.int .i64 tq])]]) (3)) (Kst (hd Try.f17 0) ([PV.ptr (PA.mk (1) (0) (0) (0)), PV.int .i64 (↑nq : Int), PV.int .i64 (0 : Int)]) ([[(0, false, Blk.cols mq [Col.int .i64 tq]), (1, true, Blk.cells [PV.str cn, PV.loose (PA.mk (0) (1) aq (0)) nq, PV.int .i64 rp, PV.int .i64 fl])]]) (3)))) (Kret (PV.int .i64 (2 : Int)) ([[(0, false, Blk.cols mq [Col.int .i64 tq])]]) (3))) (False)
theorem te117 (test : TT) (Kst : KS) (Kret : KR) (cn : ByteArray) (aq nq mq : Nat) (tq : NI) (rp fl : Int) : run test Try.env true (xN test) true 400 ⟨17, [.cd (mkFn Try.f17).body], argT 0 [.agg [.str cn, .loose ⟨0, 1, aq, 0⟩ nq, .int .i64 rp, .int .i64 fl]], [[], [(0, (false, .cols mq [.int .i64 tq]))]], 1⟩ (proj 1 [1, 3, 4] Kst Kret) =
  Te117 test Kst Kret cn aq nq mq tq rp fl := by kernel_rfl
noncomputable abbrev u117_0_0 (mq : Nat) (tq : Nat → Int) := (0, false, Blk.cols mq [Col.int IntKind.i64 tq])
def T117_0 (test : TT) (Kst : KS) (Kret : KR) (cn : ByteArray) (aq nq mq : Nat) (tq : NI) (rp fl x0 : Int) : Prop := test (decide (x0 < (↑nq : Int))) (test (decide ((0 : Int) ≤ x0 ∧ x0 < (↑nq : Int))) (test (decide (Int.toNat x0 + aq < mq)) (test (decide (tq (Int.toNat x0 + aq) ≥ -1099511627776)) (test (decide (tq (Int.toNat x0 + aq) ≤ 1099511627776)) (test (decide (x0 > 0)) (test (decide ((0 : Int) ≤ x0 ∧ x0 < (↑nq : Int))) (test (decide (Int.toNat x0 + aq < mq)) (test (lim .i64 (x0 - 1)) (test (decide ((0 : Int) ≤ x0 - 1 ∧ x0 - 1 < (↑nq : Int))) (test (decide (Int.toNat (x0 - 1) + aq < mq)) (test (tq (Int.toNat x0 + aq) == tq (Int.toNat (x0 - 1) + aq)) (Kret (PV.int .i64 (12 : Int)) ([[(u117_0_0 mq tq)]]) (2)) (test (lim .i64 (x0 + 1)) (Kst (hd Try.f17 0) ([PV.ptr (PA.mk (1) (0) (0) (0)), PV.int .i64 (↑nq : Int), PV.int .i64 (x0 + 1)]) ([[(u117_0_0 mq tq), (1, true, Blk.cells [PV.str cn, PV.loose (PA.mk (0) (1) aq (0)) nq, PV.int .i64 rp, PV.int .i64 fl])]]) (2)) (False))) (False)) (False)) (False)) (False)) (False)) (test (lim .i64 (x0 + 1)) (Kst (hd Try.f17 0) ([PV.ptr (PA.mk (1) (0) (0) (0)), PV.int .i64 (↑nq : Int), PV.int .i64 (x0 + 1)]) ([[(u117_0_0 mq tq), (1, true, Blk.cells [PV.str cn, PV.loose (PA.mk (0) (1) aq (0)) nq, PV.int .i64 rp, PV.int .i64 fl])]]) (2)) (False))) (Kret (PV.int .i64 (6 : Int)) ([[(u117_0_0 mq tq)]]) (2))) (Kret (PV.int .i64 (6 : Int)) ([[(u117_0_0 mq tq)]]) (2))) (False)) (False)) (test (decide (rp < 1)) (Kret (PV.int .i64 (6 : Int)) ([[(u117_0_0 mq tq)]]) (2)) (test (decide (rp > 9)) (Kret (PV.int .i64 (6 : Int)) ([[(u117_0_0 mq tq)]]) (2)) (test (decide (fl ≥ -1099511627776)) (test (decide (fl ≤ 1099511627776)) (test (lim .i64 ((↑nq : Int) - 1)) (test (decide ((0 : Int) ≤ (↑nq : Int) - 1 ∧ (↑nq : Int) - 1 < (↑nq : Int))) (test (decide (Int.toNat ((↑nq : Int) - 1) + aq < mq)) (test (fl == tq (Int.toNat ((↑nq : Int) - 1) + aq)) (Kret (PV.int .i64 (12 : Int)) ([[(u117_0_0 mq tq)]]) (2)) (Kret (PV.int .i64 (0 : Int)) ([[(u117_0_0 mq tq)]]) (2))) (False)) (False)) (False)) (Kret (PV.int .i64 (6 : Int)) ([[(u117_0_0 mq tq)]]) (2))) (Kret (PV.int .i64 (6 : Int)) ([[(u117_0_0 mq tq)]]) (2)))))
theorem t117_0 (test : TT) (Kst : KS) (Kret : KR) (cn : ByteArray) (aq nq mq : Nat) (tq : NI) (rp fl x0 : Int) : run test Try.env true (xN test) true 400 ⟨17, hd Try.f17 0, zipT [1, 3, 4] [PV.ptr (PA.mk (1) (0) (0) (0)), PV.int .i64 (↑nq : Int),
 PV.int .i64 x0], [[(1, (true, Blk.cells
 [PV.str cn, PV.loose (PA.mk (0) (1) aq (0)) nq,
 PV.int .i64 rp, PV.int .i64 fl]))], [(0, (false, .cols mq [.int .i64 tq]))]], 2⟩ (proj 1 [1, 3, 4] Kst Kret) =
  T117_0 test Kst Kret cn aq nq mq tq rp fl x0 := by kernel_rfl
noncomputable abbrev J117 (cn : ByteArray) (aq nq mq : Nat) (tq : NI) (rp : Int) (fl : Int) : Rt117 → Heap := fun r => [newL (1 + 1) ((N117 cn aq nq mq tq rp fl) r) ++ [(0, (false, .cols mq [.int .i64 tq]))]]
attribute [local irreducible] Int.subNatNat in
theorem be117 (cn : ByteArray) (aq nq mq : Nat) (tq : NI) (rp fl : Int) (Kst : KS) (Kret : KR) (x : St117 ⊕ Rt117) (hS : HS 1 400 ((I117 cn aq nq mq tq rp fl)) Kst x) (hR : HR 1 400 ((V117 cn aq nq mq tq rp fl)) (J117 cn aq nq mq tq rp fl) Kret x) (h : p117 cn aq nq mq tq rp fl = some x) : Te117 cond Kst Kret cn aq nq mq tq rp fl := by
  unfold Te117
  unfold p117 at h
  exact cond_yes rfl (bif_split h (fun c0 h => bif_split h (fun c1 h => ret_at hR _ h (fun n => n) rfl rfl rfl (rn_int rfl) rfl (entl_bor (use_lo rfl) rfl rfl entl_nil)) (fun c1 h => bif_split h (fun c2 h => ret_at hR _ h (fun n => n) rfl rfl rfl (rn_int rfl) rfl (entl_bor (use_lo rfl) rfl rfl entl_nil)) (fun c2 h => stop_at hS _ h (fun n => bif Nat.beq n 1 then 1 else n) rfl rfl rfl ⟨(rn_ptr (use_own rfl) rfl rfl), ⟨(rn_int rfl), ⟨(rn_int rfl), trivial⟩⟩⟩ rfl (entl_b (use_own rfl) rfl (by simp) (rb_cells ⟨(rn_str rfl), (rn_loose (use_lo rfl) rfl rfl rfl), (rn_int rfl), (rn_int rfl), trivial⟩) (entl_bor (use_lo rfl) rfl rfl entl_nil))))) (fun c0 h => ret_at hR _ h (fun n => n) rfl rfl rfl (rn_int rfl) rfl (entl_bor (use_lo rfl) rfl rfl entl_nil)))
attribute [local irreducible] Int.subNatNat in
theorem b117_0 (cn : ByteArray) (aq nq mq : Nat) (tq : NI) (rp fl : Int) (Kst : KS) (Kret : KR) (x : St117 ⊕ Rt117) (hS : HS 1 400 ((I117 cn aq nq mq tq rp fl)) Kst x) (hR : HR 1 400 ((V117 cn aq nq mq tq rp fl)) (J117 cn aq nq mq tq rp fl) Kret x) (x0 : Int) (h : q117 cn aq nq mq tq rp fl (.h0 x0) = some x) : T117_0 cond Kst Kret cn aq nq mq tq rp fl x0 := by
  unfold T117_0
  rw [q117] at h
  refine bif_split h (fun c0 h => bif_split h (fun c1 h => bif_split h (fun c2 h => bif_split h (fun c3 h => bif_split h (fun c4 h => bif_split h (fun c5 h => cond_yes c1 (cond_yes c2 (bif_split h (fun c6 h => bif_split h (fun c7 h => bif_split h (fun c8 h => bif_split h (fun c9 h => ?_) (fun c9 h => bif_split h (fun c10 h => ?_) (fun c10 h => ?_))) (fun c8 h => ?_)) (fun c7 h => ?_)) (fun c6 h => ?_)))) (fun c5 h => bif_split h (fun c6 h => ?_) (fun c6 h => ?_))) (fun c4 h => ?_)) (fun c3 h => ?_)) (fun c2 h => ?_)) (fun c1 h => ?_)) (fun c0 h => bif_split h (fun c1 h => ?_) (fun c1 h => bif_split h (fun c2 h => ?_) (fun c2 h => bif_split h (fun c3 h => bif_split h (fun c4 h => bif_split h (fun c5 h => bif_split h (fun c6 h => bif_split h (fun c7 h => bif_split h (fun c8 h => ?_) (fun c8 h => ?_)) (fun c7 h => ?_)) (fun c6 h => ?_)) (fun c5 h => ?_)) (fun c4 h => ?_)) (fun c3 h => ?_))))
  all_goals first
    | exact no_some h
    | exact ret_at hR _ h (fun n => n) rfl rfl rfl (rn_int rfl) rfl (entl_bor (use_lo rfl) rfl rfl entl_nil)
    | exact stop_at hS _ h (fun n => bif Nat.beq n 1 then 1 else n) rfl rfl rfl ⟨(rn_ptr (use_own rfl) rfl rfl), ⟨(rn_int rfl), ⟨(rn_int rfl), trivial⟩⟩⟩ rfl (entl_b (use_own rfl) rfl (by simp) (rb_cells ⟨(rn_str rfl), (rn_loose (use_lo rfl) rfl rfl rfl), (rn_int rfl), (rn_int rfl), trivial⟩) (entl_bor (use_lo rfl) rfl rfl entl_nil))
theorem a117 (cn : ByteArray) (aq nq mq : Nat) (tq : NI) (rp fl : Int) {r : Rt117} (h : Goes ((q117 cn aq nq mq tq rp fl)) ((p117 cn aq nq mq tq rp fl)) r) : CallR Try.prog 17 [.agg [.str cn, .loose ⟨0, 1, aq, 0⟩ nq, .int .i64 rp, .int .i64 fl]] [[(0, (false, .cols mq [.int .i64 tq]))]] 1 ((V117 cn aq nq mq tq rp fl) r) ((J117 cn aq nq mq tq rp fl) r) 400 ∧ ∃ F, Try.prog.funcs[17]? = some F ∧ F.body.isSome = true ∧ (F.name == "runtime.NumGoroutine") = false := by
  refine dec_calls (f := 17) (lo := 1) (hi := 400) (H := [[(0, (false, .cols mq [.int .i64 tq]))]]) (args := [.agg [.str cn, .loose ⟨0, 1, aq, 0⟩ nq, .int .i64 rp, .int .i64 fl]]) Try.envOk Try.mixed xN_ok ((I117 cn aq nq mq tq rp fl)) ((V117 cn aq nq mq tq rp fl)) (J117 cn aq nq mq tq rp fl) (fn := mkFn Try.f17) (ts := [1, 3, 4]) (n := 400) rfl (by decide) (by simp) (names_of rfl) ?_ ?_ ?_ h
  · intro s; cases s <;> exact ⟨hd_ok _ _, by simp [I117], names_of rfl, Nat.le_of_ble_eq_true rfl⟩
  · intro Kst Kret x hS hR h
    exact Holds.eq (te117 cond Kst Kret cn aq nq mq tq rp fl) (be117 cn aq nq mq tq rp fl Kst Kret x hS hR h)
  · intro Kst Kret x hS hR s h
    cases s with
    | h0 x0 => exact Holds.eq (t117_0 cond Kst Kret cn aq nq mq tq rp fl x0) (b117_0 cn aq nq mq tq rp fl Kst Kret x hS hR x0 h)
noncomputable abbrev w117 {α : Type} (g : ByteArray → Nat → Nat → Nat → (Nat → Int) → Int → Int → α) (x : (ByteArray × (Nat × Nat × Nat × (Nat → Int) × Unit) × Int × Int × Unit) × Unit) : α := g x.1.1 x.1.2.1.1 x.1.2.1.2.1 x.1.2.1.2.2.1 x.1.2.1.2.2.2.1 x.1.2.2.1 x.1.2.2.2.1
noncomputable def k117  : Con := ⟨17, [.agg [.plain (.str), .list [.int .i64], .plain (.int .i64), .plain (.int .i64)]], w117 (fun cn aq nq mq tq rp fl => decide (aq + nq ≤ mq ∧ nq ≤ 1000000)), w117 (fun cn aq nq mq tq rp fl => (V117 cn aq nq mq tq rp fl) ((S.cyE cn nq (fun j => tq (j + aq)) rp fl))), w117 (fun cn aq nq mq tq rp fl => (N117 cn aq nq mq tq rp fl) ((S.cyE cn nq (fun j => tq (j + aq)) rp fl))), fun _ _ => .dead⟩
theorem s117' (cn : ByteArray) (aq nq mq : Nat) (tq : Nat → Int) (rp fl : Int) (hp1 : aq + nq ≤ mq) (hn : 2 ≤ nq ∧ nq ≤ 20) : ∀ k i : Nat, i + k = nq → Comes (q117 cn aq nq mq tq rp fl) (.h0 (i : Int)) (S.curE (if (1 ≤ rp ∧ rp ≤ 9) ∧ -1099511627776 ≤ fl ∧ fl ≤ 1099511627776 then (if fl = tq (nq - 1 + aq) then 12 else 0) else 6) (fun j => tq (j + aq)) i k) := by
  intro k
  induction k with
  | zero =>
    intro i hi
    obtain rfl : nq = i := by omega
    simp only [S.curE]
    have e1 : ((nq : Int) - 1).toNat = nq - 1 := by omega
    apply Comes.of
    show Goes _ _ _
    (first | rw [q117] | unfold q117)
    try simp only [e1]
    try show Goes _ _ _
    repeat' (first | with_reducible refine goes_if (fun h => ?_) (fun h => ?_) <;> (try simp only [SH] at h) | exact goes_none.mpr (by omega))
    all_goals first
      | (exfalso; omega)
      | (refine goes_inr.mpr ?_; first | (rw [if_neg (by omega)]; done) | (rw [if_pos (by omega), if_pos (by omega)]; done) | (rw [if_pos (by omega), if_neg (by omega)]; done))
  | succ k ih =>
    intro i hi
    have ih := ih (i + 1) (by omega)
    simp only [S.curE]
    have e1 : 0 < i → ((i : Int) - 1).toNat = i - 1 := fun _ => by omega
    by_cases h0 : 0 < i
    · have e1 := e1 h0
      apply Comes.of
      show Goes _ _ _
      (first | rw [q117] | unfold q117)
      try simp only [e1, Int.toNat_natCast]
      try show Goes _ _ _
      repeat' (first | with_reducible refine goes_if (fun h => ?_) (fun h => ?_) <;> (try simp only [SH] at h) | exact goes_none.mpr (by omega))
      all_goals first
        | (exfalso; omega)
        | (rw [if_pos (by omega), if_neg (by omega)]; exact ih)
        | (refine goes_inr.mpr ?_; first | (rw [if_neg (by omega)]; done) | (rw [if_pos (by omega), if_pos (by omega)]; done))
    · apply Comes.of
      show Goes _ _ _
      (first | rw [q117] | unfold q117)
      try simp only [Int.toNat_natCast]
      try show Goes _ _ _
      repeat' (first | with_reducible refine goes_if (fun h => ?_) (fun h => ?_) <;> (try simp only [SH] at h) | exact goes_none.mpr (by omega))
      all_goals first
        | (exfalso; omega)
        | (rw [if_pos (by omega), if_neg (by omega)]; exact ih)
        | (refine goes_inr.mpr ?_; first | (rw [if_neg (by omega)]; done) | (rw [if_pos (by omega), if_pos (by omega)]; done))
theorem s117 (cn : ByteArray) (aq nq mq : Nat) (tq : Nat → Int) (rp fl : Int) (hp : aq + nq ≤ mq ∧ nq ≤ 1000000) : Goes ((q117 cn aq nq mq tq rp fl)) ((p117 cn aq nq mq tq rp fl)) ((S.cyE cn nq (fun j => tq (j + aq)) rp fl)) := by
  obtain ⟨hp1, hp2⟩ := hp
  unfold S.cyE
  have hm := fun (h : 2 ≤ nq ∧ nq ≤ 20) => s117' cn aq nq mq tq rp fl hp1 h nq 0 (Nat.zero_add _)
  unfold p117
  generalize S.isNam cn = A
  show Goes _ _ _
  cases A
  · exact goes_inr.mpr rfl
  · rw [if_pos rfl]
    repeat' (first | with_reducible refine goes_if (fun h => ?_) (fun h => ?_) <;> (try simp only [SH] at h) | exact goes_none.mpr (by omega))
    all_goals first | (exfalso; omega) | (rw [if_neg (by omega), if_neg (by omega)]; exact hm (by omega)) | (refine goes_inr.mpr ?_; first | (rw [if_pos (by omega)]; done) | (rw [if_neg (by omega), if_pos (by omega)]; done)) | (exfalso; simp_all; done)
theorem k117_ok  : k117.ok Try.prog := by
  intro x hx
  obtain ⟨⟨cn, ⟨aq, nq, mq, tq, _⟩, rp, fl, _⟩, _⟩ := x
  obtain ⟨h1, h2⟩ := a117 cn aq nq mq tq rp fl (s117 cn aq nq mq tq rp fl (of_dec hx rfl))
  exact ⟨⟨400, (by decide : 1 + 1 + 0 ≤ 400), h1⟩, h2⟩
abbrev St135  := Empty
abbrev Rt135  := List Int
noncomputable def V135 (cn : ByteArray) (aq nq mq : Nat) (tq : NI) (rp fl : Int) (r : Rt135) : PV := PV.own (2) (1) (List.length r)
noncomputable def N135 (cn : ByteArray) (aq nq mq : Nat) (tq : NI) (rp fl : Int) (r : Rt135) : List Blk := [Blk.cols (List.length r) [Col.int .i64 fun j => S.at' r j]]
noncomputable def I135 (cn : ByteArray) (aq nq mq : Nat) (tq : NI) (rp fl : Int) : St135 → Hd := fun s => s.elim
noncomputable def q135 (cn : ByteArray) (aq nq mq : Nat) (tq : NI) (rp fl : Int) : St135 → Option (St135 ⊕ Rt135) := fun s => s.elim
noncomputable def p135 (cn : ByteArray) (aq nq mq : Nat) (tq : NI) (rp fl : Int) : Option (St135 ⊕ Rt135) := bif (decide ((aq + nq ≤ mq ∧ nq ≤ 1000) ∧ (0 : Int) ≤ rp ∧ rp ≤ 1000)) then (bif (decide (List.length (S.mkl (nq * Int.toNat rp) fun j => tq (j % nq + aq)) + 1 ≤ 1000000)) then (bif (decide (List.length (S.mkl (nq * Int.toNat rp) fun j => tq (j % nq + aq)) ≤ List.length (S.mkl (nq * Int.toNat rp) fun j => tq (j % nq + aq)))) then (some (.inr (S.snoc (S.mkl (nq * Int.toNat rp) fun j => tq (j % nq + aq)) fl))) else (none)) else (none)) else (none)
def Te135 (test : TT) (Kst : KS) (Kret : KR) (cn : ByteArray) (aq nq mq : Nat) (tq : NI) (rp fl : Int) : Prop := test (decide ((aq + nq ≤ mq ∧ nq ≤ 1000) ∧ (0 : Int) ≤ rp ∧ rp ≤ 1000)) (test (decide (List.length (S.mkl (nq * Int.toNat rp) fun j => tq (j % nq + aq)) + 1 ≤ 1000000)) (test (decide (List.length (S.mkl (nq * Int.toNat rp) fun j => tq (j % nq + aq)) ≤ List.length (S.mkl (nq * Int.toNat rp) fun j => tq (j % nq + aq)))) (test (true) (Kret (PV.own (5) (1) (List.length (S.mkl (nq * Int.toNat rp) fun j => tq (j % nq + aq)) + 1)) ([[(0, false, Blk.cols mq [Col.int .i64 tq]), (5, true, Blk.cols (List.length (S.mkl (nq * Int.toNat rp) fun j => tq (j % nq + aq)) + 1) [Col.int .i64 fun j => bif Nat.blt j (List.length (S.mkl (nq * Int.toNat rp) fun j => tq (j % nq + aq))) then S.at' (S.mkl (nq * Int.toNat rp) fun j => tq (j % nq + aq)) j else fl])]]) (6)) (False)) (False)) (False)) (False)
theorem te135 (test : TT) (Kst : KS) (Kret : KR) (cn : ByteArray) (aq nq mq : Nat) (tq : NI) (rp fl : Int) : run test Try.env true (xR test) true 400 ⟨35, [.cd (mkFn Try.f35).body], argT 0 [.agg [.str cn, .loose ⟨0, 1, aq, 0⟩ nq, .int .i64 rp, .int .i64 fl]], [[], [(0, (false, .cols mq [.int .i64 tq]))]], 1⟩ (proj 1 [] Kst Kret) =
  Te135 test Kst Kret cn aq nq mq tq rp fl := by kernel_rfl
attribute [local irreducible] Int.subNatNat in
theorem be135 (cn : ByteArray) (aq nq mq : Nat) (tq : NI) (rp fl : Int) (Kst : KS) (Kret : KR) (x : St135 ⊕ Rt135) (hS : HS 1 400 ((I135 cn aq nq mq tq rp fl)) Kst x) (hR : HR 1 400 ((V135 cn aq nq mq tq rp fl)) (fun r => [newL (1 + 1) ((N135 cn aq nq mq tq rp fl) r) ++ [(0, (false, .cols mq [.int .i64 tq]))]]) Kret x) (h : p135 cn aq nq mq tq rp fl = some x) : Te135 cond Kst Kret cn aq nq mq tq rp fl := by
  unfold Te135
  unfold p135 at h
  exact bif_split h (fun c0 h => bif_split h (fun c1 h => bif_split h (fun c2 h => cond_yes rfl (ret_at hR _ h (fun n => bif Nat.beq n 2 then 5 else n) rfl rfl rfl (rn_own (use_own rfl) rfl (snoc_len' rfl)) rfl (entl_new (use_own rfl) rfl (Nat.le_of_eq (snoc_len' rfl)) (rcs_int (col_snoc' (fun (t : Int) => t) rfl (fun _ _ => rfl)) rcs_nil) (entl_bor (use_lo rfl) rfl rfl entl_nil)))) (fun c2 h => no_some h)) (fun c1 h => no_some h)) (fun c0 h => no_some h)
theorem a135 (cn : ByteArray) (aq nq mq : Nat) (tq : NI) (rp fl : Int) {r : Rt135} (h : Goes ((q135 cn aq nq mq tq rp fl)) ((p135 cn aq nq mq tq rp fl)) r) : CallR Try.prog 35 [.agg [.str cn, .loose ⟨0, 1, aq, 0⟩ nq, .int .i64 rp, .int .i64 fl]] [[(0, (false, .cols mq [.int .i64 tq]))]] 1 ((V135 cn aq nq mq tq rp fl) r) ((fun r => [newL (1 + 1) ((N135 cn aq nq mq tq rp fl) r) ++ [(0, (false, .cols mq [.int .i64 tq]))]]) r) 400 ∧ ∃ F, Try.prog.funcs[35]? = some F ∧ F.body.isSome = true ∧ (F.name == "runtime.NumGoroutine") = false := by
  refine dec_calls (f := 35) (lo := 1) (hi := 400) (H := [[(0, (false, .cols mq [.int .i64 tq]))]]) (args := [.agg [.str cn, .loose ⟨0, 1, aq, 0⟩ nq, .int .i64 rp, .int .i64 fl]]) Try.envOk Try.mixed xR_ok ((I135 cn aq nq mq tq rp fl)) ((V135 cn aq nq mq tq rp fl)) (fun r => [newL (1 + 1) ((N135 cn aq nq mq tq rp fl) r) ++ [(0, (false, .cols mq [.int .i64 tq]))]]) (fn := mkFn Try.f35) (ts := []) (n := 400) rfl (by decide) (by simp) (names_of rfl) ?_ ?_ ?_ h
  · intro s; exact s.elim
  · intro Kst Kret x hS hR h
    exact Holds.eq (te135 cond Kst Kret cn aq nq mq tq rp fl) (be135 cn aq nq mq tq rp fl Kst Kret x hS hR h)
  · intro Kst Kret x hS hR s h; exact s.elim
noncomputable abbrev w135 {α : Type} (g : ByteArray → Nat → Nat → Nat → (Nat → Int) → Int → Int → α) (x : (ByteArray × (Nat × Nat × Nat × (Nat → Int) × Unit) × Int × Int × Unit) × Unit) : α := g x.1.1 x.1.2.1.1 x.1.2.1.2.1 x.1.2.1.2.2.1 x.1.2.1.2.2.2.1 x.1.2.2.1 x.1.2.2.2.1
noncomputable def k135  : Con := ⟨35, [.agg [.plain (.str), .list [.int .i64], .plain (.int .i64), .plain (.int .i64)]], w135 (fun cn aq nq mq tq rp fl => decide (aq + nq ≤ mq ∧ nq ≤ 20 ∧ 0 ≤ rp ∧ rp ≤ 9)), w135 (fun cn aq nq mq tq rp fl => (V135 cn aq nq mq tq rp fl) ((S.stpL nq (fun j => tq (j + aq)) rp fl))), w135 (fun cn aq nq mq tq rp fl => (N135 cn aq nq mq tq rp fl) ((S.stpL nq (fun j => tq (j + aq)) rp fl))), fun _ _ => .dead⟩
theorem s135 (cn : ByteArray) (aq nq mq : Nat) (tq : Nat → Int) (rp fl : Int) (hp : aq + nq ≤ mq ∧ nq ≤ 20 ∧ 0 ≤ rp ∧ rp ≤ 9) : Goes ((q135 cn aq nq mq tq rp fl)) ((p135 cn aq nq mq tq rp fl)) ((S.stpL nq (fun j => tq (j + aq)) rp fl)) := by
  obtain ⟨hp1, hp2, hp3, hp4⟩ := hp
  have hb := mul_bd hp2 hp4
  unfold p135
  simp only [mkl_len]
  show Goes _ _ _
  repeat' (first | with_reducible refine goes_if (fun h => ?_) (fun h => ?_) <;> (try simp only [SH] at h) | exact goes_none.mpr (by omega))
  all_goals first | (exfalso; omega) | exact goes_inr.mpr rfl
theorem k135_ok  : k135.ok Try.prog := by
  intro x hx
  obtain ⟨⟨cn, ⟨aq, nq, mq, tq, _⟩, rp, fl, _⟩, _⟩ := x
  obtain ⟨h1, h2⟩ := a135 cn aq nq mq tq rp fl (s135 cn aq nq mq tq rp fl (of_dec hx rfl))
  exact ⟨⟨400, (by decide : 1 + 1 + 1 ≤ 400), h1⟩, h2⟩
inductive St136 where
  | h0 (x0 : Int) (x1 : List Int)
abbrev Rt136  := List Int
noncomputable def V136 (cn : ByteArray) (aq nq mq : Nat) (tq : NI) (rp fl : Int) (r : Rt136) : PV := PV.own (2) (1) (List.length r)
noncomputable def N136 (cn : ByteArray) (aq nq mq : Nat) (tq : NI) (rp fl : Int) (r : Rt136) : List Blk := [Blk.cols (List.length r) [Col.int .i64 fun j => S.at' r j]]
noncomputable def I136 (cn : ByteArray) (aq nq mq : Nat) (tq : NI) (rp fl : Int) : St136 → Hd
  | .h0 x0 x1 => ⟨hd Try.f36 0, [PV.ptr (PA.mk (1) (0) (0) (0)),
 PV.own (2) (1) (List.length x1), PV.int .i64 x0], [[(1, (true, Blk.cells
 [PV.str cn, PV.loose (PA.mk (0) (1) aq (0)) nq,
 PV.int .i64 rp, PV.int .i64 fl])), (2, (true, Blk.cols (List.length x1) [Col.int .i64 fun j => S.at' x1 j]))], [(0, (false, .cols mq [.int .i64 tq]))]], 3⟩
noncomputable def q136 (cn : ByteArray) (aq nq mq : Nat) (tq : NI) (rp fl : Int) : St136 → Option (St136 ⊕ Rt136) | .h0 x0 x1 => bif (decide (x0 < rp)) then (bif (decide (List.length x1 + nq ≤ 1000000)) then (bif (decide (List.length x1 ≤ List.length x1)) then (bif (decide (aq + nq ≤ mq)) then (bif (lim .i64 (x0 + 1)) then (some (.inl (.h0 (x0 + 1) (S.mkl (List.length x1 + nq) fun j => bif Nat.blt j (List.length x1) then S.at' x1 j else tq (j - List.length x1 + aq))))) else (none)) else (none)) else (none)) else (none)) else (bif (decide (List.length x1 + 1 ≤ 1000000)) then (bif (decide (List.length x1 ≤ List.length x1)) then (some (.inr (S.snoc x1 fl))) else (none)) else (none))
noncomputable def p136 (cn : ByteArray) (aq nq mq : Nat) (tq : NI) (rp fl : Int) : Option (St136 ⊕ Rt136) := some (.inl (.h0 ((0 : Int)) ([])))
def Te136 (test : TT) (Kst : KS) (Kret : KR) (cn : ByteArray) (aq nq mq : Nat) (tq : NI) (rp fl : Int) : Prop := Kst (hd Try.f36 0) ([PV.ptr (PA.mk (1) (0) (0) (0)), PV.nils, PV.int .i64 (0 : Int)]) ([[(0, false, Blk.cols mq [Col.int .i64 tq]), (1, true, Blk.cells [PV.str cn, PV.loose (PA.mk (0) (1) aq (0)) nq, PV.int .i64 rp, PV.int .i64 fl])]]) (2)
theorem te136 (test : TT) (Kst : KS) (Kret : KR) (cn : ByteArray) (aq nq mq : Nat) (tq : NI) (rp fl : Int) : run test Try.env true noX true 400 ⟨36, [.cd (mkFn Try.f36).body], argT 0 [.agg [.str cn, .loose ⟨0, 1, aq, 0⟩ nq, .int .i64 rp, .int .i64 fl]], [[], [(0, (false, .cols mq [.int .i64 tq]))]], 1⟩ (proj 1 [1, 3, 4] Kst Kret) =
  Te136 test Kst Kret cn aq nq mq tq rp fl := by kernel_rfl
def T136_0 (test : TT) (Kst : KS) (Kret : KR) (cn : ByteArray) (aq nq mq : Nat) (tq : NI) (rp fl x0 : Int) (x1 : List Int) : Prop := test (decide (x0 < rp)) (test (decide (List.length x1 + nq ≤ 1000000)) (test (decide (List.length x1 ≤ List.length x1)) (test (decide (aq + nq ≤ mq)) (test (lim .i64 (x0 + 1)) (Kst (hd Try.f36 0) ([PV.ptr (PA.mk (1) (0) (0) (0)), PV.own (3) (1) (List.length x1 + nq), PV.int .i64 (x0 + 1)]) ([[(0, false, Blk.cols mq [Col.int .i64 tq]), (3, true, Blk.cols (List.length x1 + nq) [Col.int .i64 fun j => bif Nat.blt j (List.length x1) then S.at' x1 j else tq (j - List.length x1 + aq)]), (1, true, Blk.cells [PV.str cn, PV.loose (PA.mk (0) (1) aq (0)) nq, PV.int .i64 rp, PV.int .i64 fl])]]) (4)) (False)) (False)) (False)) (False)) (test (decide (List.length x1 + 1 ≤ 1000000)) (test (decide (List.length x1 ≤ List.length x1)) (test (true) (Kret (PV.own (4) (1) (List.length x1 + 1)) ([[(0, false, Blk.cols mq [Col.int .i64 tq]), (4, true, Blk.cols (List.length x1 + 1) [Col.int .i64 fun j => bif Nat.blt j (List.length x1) then S.at' x1 j else fl])]]) (5)) (False)) (False)) (False))
theorem t136_0 (test : TT) (Kst : KS) (Kret : KR) (cn : ByteArray) (aq nq mq : Nat) (tq : NI) (rp fl x0 : Int) (x1 : List Int) : run test Try.env true noX true 400 ⟨36, hd Try.f36 0, zipT [1, 3, 4] [PV.ptr (PA.mk (1) (0) (0) (0)),
 PV.own (2) (1) (List.length x1), PV.int .i64 x0], [[(1, (true, Blk.cells
 [PV.str cn, PV.loose (PA.mk (0) (1) aq (0)) nq,
 PV.int .i64 rp, PV.int .i64 fl])), (2, (true, Blk.cols (List.length x1) [Col.int .i64 fun j => S.at' x1 j]))], [(0, (false, .cols mq [.int .i64 tq]))]], 3⟩ (proj 1 [1, 3, 4] Kst Kret) =
  T136_0 test Kst Kret cn aq nq mq tq rp fl x0 x1 := by kernel_rfl
noncomputable abbrev J136 (cn : ByteArray) (aq nq mq : Nat) (tq : NI) (rp : Int) (fl : Int) : Rt136 → Heap := fun r => [newL (1 + 1) ((N136 cn aq nq mq tq rp fl) r) ++ [(0, (false, .cols mq [.int .i64 tq]))]]
attribute [local irreducible] Int.subNatNat in
theorem be136 (cn : ByteArray) (aq nq mq : Nat) (tq : NI) (rp fl : Int) (Kst : KS) (Kret : KR) (x : St136 ⊕ Rt136) (hS : HS 1 400 ((I136 cn aq nq mq tq rp fl)) Kst x) (hR : HR 1 400 ((V136 cn aq nq mq tq rp fl)) (J136 cn aq nq mq tq rp fl) Kret x) (h : (some (.inl (.h0 ((0 : Int)) ([]))) : Option (St136 ⊕ Rt136)) = some x) : Te136 cond Kst Kret cn aq nq mq tq rp fl := by
  unfold Te136
  exact stop_at hS _ h (fun n => bif Nat.beq n 1 then 1 else bif Nat.beq n 2 then 399 else n) rfl rfl rfl ⟨(rn_ptr (use_own rfl) rfl rfl), ⟨(rn_own_nils rfl), ⟨(rn_int rfl), trivial⟩⟩⟩ rfl (entl_b (use_own rfl) rfl (by simp) (rb_cells ⟨(rn_str rfl), (rn_loose (use_lo rfl) rfl rfl rfl), (rn_int rfl), (rn_int rfl), trivial⟩) (entl_fresh (use_own rfl) (fresh_ok rfl) (entl_bor (use_lo rfl) rfl rfl entl_nil)))
attribute [local irreducible] Int.subNatNat in
theorem b136_0 (cn : ByteArray) (aq nq mq : Nat) (tq : NI) (rp fl : Int) (Kst : KS) (Kret : KR) (x : St136 ⊕ Rt136) (hS : HS 1 400 ((I136 cn aq nq mq tq rp fl)) Kst x) (hR : HR 1 400 ((V136 cn aq nq mq tq rp fl)) (J136 cn aq nq mq tq rp fl) Kret x) (x0 : Int) (x1 : List Int) (h : q136 cn aq nq mq tq rp fl (.h0 x0 x1) = some x) : T136_0 cond Kst Kret cn aq nq mq tq rp fl x0 x1 := by
  unfold T136_0
  rw [q136] at h
  exact bif_split h (fun c0 h => bif_split h (fun c1 h => bif_split h (fun c2 h => bif_split h (fun c3 h => bif_split h (fun c4 h => stop_at hS _ h (fun n => bif Nat.beq n 1 then 1 else bif Nat.beq n 2 then 3 else n) rfl rfl rfl ⟨(rn_ptr (use_own rfl) rfl rfl), ⟨(rn_own (use_own rfl) rfl mkl_len), ⟨(rn_int rfl), trivial⟩⟩⟩ rfl (entl_b (use_own rfl) rfl (by simp) (rb_cells ⟨(rn_str rfl), (rn_loose (use_lo rfl) rfl rfl rfl), (rn_int rfl), (rn_int rfl), trivial⟩) (entl_new (use_own rfl) rfl (Nat.le_of_eq mkl_len) (rcs_int (fun _ hj => col_mkl (fun (t : Int) => t) hj) rcs_nil) (entl_bor (use_lo rfl) rfl rfl entl_nil)))) (fun c4 h => no_some h)) (fun c3 h => no_some h)) (fun c2 h => no_some h)) (fun c1 h => no_some h)) (fun c0 h => bif_split h (fun c1 h => bif_split h (fun c2 h => cond_yes rfl (ret_at hR _ h (fun n => bif Nat.beq n 2 then 4 else n) rfl rfl rfl (rn_own (use_own rfl) rfl (snoc_len' rfl)) rfl (entl_new (use_own rfl) rfl (Nat.le_of_eq (snoc_len' rfl)) (rcs_int (col_snoc' (fun (t : Int) => t) rfl (fun _ _ => rfl)) rcs_nil) (entl_bor (use_lo rfl) rfl rfl entl_nil)))) (fun c2 h => no_some h)) (fun c1 h => no_some h))
theorem a136 (cn : ByteArray) (aq nq mq : Nat) (tq : NI) (rp fl : Int) {r : Rt136} (h : Goes ((q136 cn aq nq mq tq rp fl)) ((p136 cn aq nq mq tq rp fl)) r) : CallR Try.prog 36 [.agg [.str cn, .loose ⟨0, 1, aq, 0⟩ nq, .int .i64 rp, .int .i64 fl]] [[(0, (false, .cols mq [.int .i64 tq]))]] 1 ((V136 cn aq nq mq tq rp fl) r) ((J136 cn aq nq mq tq rp fl) r) 400 ∧ ∃ F, Try.prog.funcs[36]? = some F ∧ F.body.isSome = true ∧ (F.name == "runtime.NumGoroutine") = false := by
  refine dec_calls (f := 36) (lo := 1) (hi := 400) (H := [[(0, (false, .cols mq [.int .i64 tq]))]]) (args := [.agg [.str cn, .loose ⟨0, 1, aq, 0⟩ nq, .int .i64 rp, .int .i64 fl]]) Try.envOk Try.mixed noX_ok ((I136 cn aq nq mq tq rp fl)) ((V136 cn aq nq mq tq rp fl)) (J136 cn aq nq mq tq rp fl) (fn := mkFn Try.f36) (ts := [1, 3, 4]) (n := 400) rfl (by decide) (by simp) (names_of rfl) ?_ ?_ ?_ h
  · intro s; cases s <;> exact ⟨hd_ok _ _, by simp [I136], names_of rfl, Nat.le_of_ble_eq_true rfl⟩
  · intro Kst Kret x hS hR h
    exact Holds.eq (te136 cond Kst Kret cn aq nq mq tq rp fl) (be136 cn aq nq mq tq rp fl Kst Kret x hS hR h)
  · intro Kst Kret x hS hR s h
    cases s with
    | h0 x0 x1 => exact Holds.eq (t136_0 cond Kst Kret cn aq nq mq tq rp fl x0 x1) (b136_0 cn aq nq mq tq rp fl Kst Kret x hS hR x0 x1 h)
noncomputable abbrev w136 {α : Type} (g : ByteArray → Nat → Nat → Nat → (Nat → Int) → Int → Int → α) (x : (ByteArray × (Nat × Nat × Nat × (Nat → Int) × Unit) × Int × Int × Unit) × Unit) : α := g x.1.1 x.1.2.1.1 x.1.2.1.2.1 x.1.2.1.2.2.1 x.1.2.1.2.2.2.1 x.1.2.2.1 x.1.2.2.2.1
noncomputable def k136  : Con := ⟨36, [.agg [.plain (.str), .list [.int .i64], .plain (.int .i64), .plain (.int .i64)]], w136 (fun cn aq nq mq tq rp fl => decide (aq + nq ≤ mq ∧ nq ≤ 20 ∧ 0 ≤ rp ∧ rp ≤ 9)), w136 (fun cn aq nq mq tq rp fl => (V136 cn aq nq mq tq rp fl) ((S.stpL nq (fun j => tq (j + aq)) rp fl))), w136 (fun cn aq nq mq tq rp fl => (N136 cn aq nq mq tq rp fl) ((S.stpL nq (fun j => tq (j + aq)) rp fl))), fun _ _ => .dead⟩
theorem s136' (cn : ByteArray) (aq nq mq : Nat) (tq : Nat → Int) (rp fl : Int) (hp : aq + nq ≤ mq ∧ nq ≤ 20 ∧ 0 ≤ rp ∧ rp ≤ 9) : ∀ (k i : Nat) (L : List Int), i + k = rp.toNat → Holds (L = S.mkl (nq * i) (fun j => tq (j % nq + aq))) → Comes (q136 cn aq nq mq tq rp fl) (.h0 (i : Int) L) (S.stpL nq (fun j => tq (j + aq)) rp fl) := by
  obtain ⟨hp1, hp2, hp3, hp4⟩ := hp
  have hb := mul_bd hp2 hp4
  intro k
  induction k with
  | zero =>
    intro i L hi eL
    have hL : L.length = nq * rp.toNat := by rw [eL.get, mkl_len, show i = rp.toNat by omega]
    have e : S.snoc L fl = (S.stpL nq (fun j => tq (j + aq)) rp fl) := by rw [eL.get, show i = rp.toNat by omega]; rfl
    generalize nq * rp.toNat = m at *
    apply Comes.of
    show Goes _ _ _
    (first | rw [q136] | unfold q136)
    repeat' (first | with_reducible refine goes_if (fun h => ?_) (fun h => ?_) <;> (try simp only [SH] at h) | exact goes_none.mpr (by omega))
    all_goals first | (exfalso; omega) | exact goes_inr.mpr e
  | succ k ih =>
    intro i L hi eL
    have hL : L.length = nq * i := by rw [eL.get, mkl_len]
    have hi2 : nq * i ≤ nq * rp.toNat := Nat.mul_le_mul_left nq (by omega)
    have hi3 : nq * (i + 1) ≤ nq * rp.toNat := Nat.mul_le_mul_left nq (by omega)
    have ih := ih (i + 1) (S.mkl (L.length + nq) fun j => bif Nat.blt j L.length then S.at' L j else tq (j - L.length + aq)) (by omega) ⟨by
      rw [hL, Nat.mul_succ]
      refine mkl_congr fun j hj => ?_
      by_cases h : j < nq * i
      · rw [show Nat.blt j (nq * i) = true by rw [Nat.blt_eq]; exact h, cond_true, eL.get, at_mkl h]
      · rw [show Nat.blt j (nq * i) = false by cases hb : Nat.blt j (nq * i); rfl; exact absurd (lt_ok hb) h, cond_false]
        have : j % nq = j - nq * i := by
          rw [show j = (j - nq * i) + nq * i by omega, Nat.add_mul_mod_self_left, Nat.mod_eq_of_lt (by omega), Nat.add_sub_cancel]
        rw [this]⟩
    rw [Nat.mul_succ] at hi3
    apply Comes.of
    show Goes _ _ _
    (first | rw [q136] | unfold q136)
    repeat' (first | with_reducible refine goes_if (fun h => ?_) (fun h => ?_) <;> (try simp only [SH] at h) | exact goes_none.mpr (by omega))
    all_goals first | (exfalso; omega) | exact ih
theorem s136 (cn : ByteArray) (aq nq mq : Nat) (tq : Nat → Int) (rp fl : Int) (hp : aq + nq ≤ mq ∧ nq ≤ 20 ∧ 0 ≤ rp ∧ rp ≤ 9) : Goes ((q136 cn aq nq mq tq rp fl)) ((p136 cn aq nq mq tq rp fl)) ((S.stpL nq (fun j => tq (j + aq)) rp fl)) := by
  exact s136' cn aq nq mq tq rp fl hp rp.toNat 0 [] (Nat.zero_add _) ⟨by rw [Nat.mul_zero]; rfl⟩
theorem k136_ok  : k136.ok Try.prog := by
  intro x hx
  obtain ⟨⟨cn, ⟨aq, nq, mq, tq, _⟩, rp, fl, _⟩, _⟩ := x
  obtain ⟨h1, h2⟩ := a136 cn aq nq mq tq rp fl (s136 cn aq nq mq tq rp fl (of_dec hx rfl))
  exact ⟨⟨400, (by decide : 1 + 1 + 1 ≤ 400), h1⟩, h2⟩
abbrev St112  := Empty
abbrev Rt112  := Bool
noncomputable def V112 (cn : ByteArray) (aq nq mq : Nat) (tq : NI) (rp fl : Int) (al nl ml : Nat) (tl : NI) (r : Rt112) : PV := PV.bool r
noncomputable def N112 (cn : ByteArray) (aq nq mq : Nat) (tq : NI) (rp fl : Int) (al nl ml : Nat) (tl : NI) (r : Rt112) : List Blk := []
noncomputable def I112 (cn : ByteArray) (aq nq mq : Nat) (tq : NI) (rp fl : Int) (al nl ml : Nat) (tl : NI) : St112 → Hd := fun s => s.elim
noncomputable def q112 (cn : ByteArray) (aq nq mq : Nat) (tq : NI) (rp fl : Int) (al nl ml : Nat) (tl : NI) : St112 → Option (St112 ⊕ Rt112) := fun s => s.elim
noncomputable def p112 (cn : ByteArray) (aq nq mq : Nat) (tq : NI) (rp fl : Int) (al nl ml : Nat) (tl : NI) : Option (St112 ⊕ Rt112) := bif (decide ((↑(ByteArray.size cn) : Int) ≤ 60)) then (bif (decide ((↑nq : Int) ≤ 25)) then (bif (decide ((↑nl : Int) ≤ 60)) then (some (.inr (true))) else (bif (decide ((↑nl : Int) > 500)) then (bif (decide ((↑nl : Int) ≤ 510)) then (some (.inr (true))) else (some (.inr (false)))) else (some (.inr (false))))) else (some (.inr (false)))) else (some (.inr (false)))
noncomputable abbrev u112_e_0 (mq : Nat) (tq : Nat → Int) (ml : Nat) (tl : Nat → Int) := ([[(1, false, Blk.cols ml [Col.int IntKind.i64 tl]), (0, false, Blk.cols mq [Col.int IntKind.i64 tq])]])
def Te112 (test : TT) (Kst : KS) (Kret : KR) (cn : ByteArray) (aq nq mq : Nat) (tq : NI) (rp fl : Int) (al nl ml : Nat) (tl : NI) : Prop := test (decide ((↑(ByteArray.size cn) : Int) ≤ 60)) (test (decide ((↑nq : Int) ≤ 25)) (test (decide ((↑nl : Int) ≤ 60)) (Kret (PV.tf true) (u112_e_0 mq tq ml tl) (3)) (test (decide ((↑nl : Int) > 500)) (test (decide ((↑nl : Int) ≤ 510)) (Kret (PV.tf true) (u112_e_0 mq tq ml tl) (3)) (Kret (PV.tf false) (u112_e_0 mq tq ml tl) (3))) (Kret (PV.tf false) (u112_e_0 mq tq ml tl) (3)))) (Kret (PV.tf false) (u112_e_0 mq tq ml tl) (3))) (Kret (PV.tf false) (u112_e_0 mq tq ml tl) (3))
theorem te112 (test : TT) (Kst : KS) (Kret : KR) (cn : ByteArray) (aq nq mq : Nat) (tq : NI) (rp fl : Int) (al nl ml : Nat) (tl : NI) : run test Try.env true noX true 400 ⟨12, [.cd (mkFn Try.f12).body], argT 0 [.agg [.str cn, .loose ⟨0, 1, aq, 0⟩ nq, .int .i64 rp, .int .i64 fl], .loose ⟨1, 1, al, 0⟩ nl], [[], [(0, (false, .cols mq [.int .i64 tq])), (1, (false, .cols ml [.int .i64 tl]))]], 2⟩ (proj 2 [] Kst Kret) =
  Te112 test Kst Kret cn aq nq mq tq rp fl al nl ml tl := by kernel_rfl
noncomputable abbrev J112 (cn : ByteArray) (aq nq mq : Nat) (tq : NI) (rp : Int) (fl : Int) (al nl ml : Nat) (tl : NI) : Rt112 → Heap := fun r => [newL (2 + 1) ((N112 cn aq nq mq tq rp fl al nl ml tl) r) ++ [(0, (false, .cols mq [.int .i64 tq])), (1, (false, .cols ml [.int .i64 tl]))]]
attribute [local irreducible] Int.subNatNat in
theorem be112 (cn : ByteArray) (aq nq mq : Nat) (tq : NI) (rp fl : Int) (al nl ml : Nat) (tl : NI) (Kst : KS) (Kret : KR) (x : St112 ⊕ Rt112) (hS : HS 2 400 ((I112 cn aq nq mq tq rp fl al nl ml tl)) Kst x) (hR : HR 2 400 ((V112 cn aq nq mq tq rp fl al nl ml tl)) (J112 cn aq nq mq tq rp fl al nl ml tl) Kret x) (h : p112 cn aq nq mq tq rp fl al nl ml tl = some x) : Te112 cond Kst Kret cn aq nq mq tq rp fl al nl ml tl := by
  unfold Te112
  unfold p112 at h
  refine bif_split h (fun c0 h => bif_split h (fun c1 h => bif_split h (fun c2 h => ?_) (fun c2 h => bif_split h (fun c3 h => bif_split h (fun c4 h => ?_) (fun c4 h => ?_)) (fun c3 h => ?_))) (fun c1 h => ?_)) (fun c0 h => ?_)
  all_goals first
    | exact ret_at hR _ h (fun n => n) rfl rfl rfl (rn_bool_tf rfl) rfl (entl_bor (use_lo rfl) rfl rfl (entl_bor (use_lo rfl) rfl rfl entl_nil))
theorem a112 (cn : ByteArray) (aq nq mq : Nat) (tq : NI) (rp fl : Int) (al nl ml : Nat) (tl : NI) {r : Rt112} (h : Goes ((q112 cn aq nq mq tq rp fl al nl ml tl)) ((p112 cn aq nq mq tq rp fl al nl ml tl)) r) : CallR Try.prog 12 [.agg [.str cn, .loose ⟨0, 1, aq, 0⟩ nq, .int .i64 rp, .int .i64 fl], .loose ⟨1, 1, al, 0⟩ nl] [[(0, (false, .cols mq [.int .i64 tq])), (1, (false, .cols ml [.int .i64 tl]))]] 2 ((V112 cn aq nq mq tq rp fl al nl ml tl) r) ((J112 cn aq nq mq tq rp fl al nl ml tl) r) 400 ∧ ∃ F, Try.prog.funcs[12]? = some F ∧ F.body.isSome = true ∧ (F.name == "runtime.NumGoroutine") = false := by
  refine dec_calls (f := 12) (lo := 2) (hi := 400) (H := [[(0, (false, .cols mq [.int .i64 tq])), (1, (false, .cols ml [.int .i64 tl]))]]) (args := [.agg [.str cn, .loose ⟨0, 1, aq, 0⟩ nq, .int .i64 rp, .int .i64 fl], .loose ⟨1, 1, al, 0⟩ nl]) Try.envOk Try.mixed noX_ok ((I112 cn aq nq mq tq rp fl al nl ml tl)) ((V112 cn aq nq mq tq rp fl al nl ml tl)) (J112 cn aq nq mq tq rp fl al nl ml tl) (fn := mkFn Try.f12) (ts := []) (n := 400) rfl (by decide) (by simp) (names_of rfl) ?_ ?_ ?_ h
  · intro s; exact s.elim
  · intro Kst Kret x hS hR h
    exact Holds.eq (te112 cond Kst Kret cn aq nq mq tq rp fl al nl ml tl) (be112 cn aq nq mq tq rp fl al nl ml tl Kst Kret x hS hR h)
  · intro Kst Kret x hS hR s h; exact s.elim
noncomputable abbrev w112 {α : Type} (g : ByteArray → Nat → Nat → Nat → (Nat → Int) → Int → Int → Nat → Nat → Nat → (Nat → Int) → α) (x : (ByteArray × (Nat × Nat × Nat × (Nat → Int) × Unit) × Int × Int × Unit) × (Nat × Nat × Nat × (Nat → Int) × Unit) × Unit) : α := g x.1.1 x.1.2.1.1 x.1.2.1.2.1 x.1.2.1.2.2.1 x.1.2.1.2.2.2.1 x.1.2.2.1 x.1.2.2.2.1 x.2.1.1 x.2.1.2.1 x.2.1.2.2.1 x.2.1.2.2.2.1
noncomputable def k112  : Con := ⟨12, [.agg [.plain (.str), .list [.int .i64], .plain (.int .i64), .plain (.int .i64)], .one (.list [.int .i64])], w112 (fun cn aq nq mq tq rp fl al nl ml tl => decide (True)), w112 (fun cn aq nq mq tq rp fl al nl ml tl => (V112 cn aq nq mq tq rp fl al nl ml tl) (S.fewC cn nq nl)), w112 (fun cn aq nq mq tq rp fl al nl ml tl => (N112 cn aq nq mq tq rp fl al nl ml tl) (S.fewC cn nq nl)), fun _ _ => .dead⟩
end Go.Ev
