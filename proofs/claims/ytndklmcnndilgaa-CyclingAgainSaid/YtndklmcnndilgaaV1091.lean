/-
  The parts that the statement needs, 1 of 2.
-/
import Derived.IntWalk
import Derived.Test.YtndklmcnndilgaaEnv
import Derived.Test.YtndklmcnndilgaaEvY
import Derived.Test.YtndklmcnndilgaaKit
namespace Go.Ev
open Go.Proofs
open Go.IntWalk
set_option linter.unusedVariables false
set_option linter.unusedSimpArgs false
set_option maxRecDepth 100000
theorem SH : type_of% (And.intro @lim64 (And.intro @imp_false (And.intro @decide_eq_true_eq (And.intro @decide_eq_false_iff_not (And.intro @Int.toNat_natCast (And.intro @toNat_pred (And.intro @toNat_succ (And.intro @Option.getD_some.{0} (And.intro @Option.getD_none.{0} (And.intro @Bool.not_eq_true' (And.intro @Bool.not_eq_false' (And.intro @Bool.and_eq_true (And.intro @Bool.or_eq_true (And.intro @Bool.and_eq_false_iff (And.intro @Bool.or_eq_false_iff (And.intro @bne_iff_ne.{0} (And.intro @beq_iff_eq.{0} (And.intro @bne_eq_false_iff_eq.{0} (And.intro @beq_eq_false_iff_ne.{0} (And.intro @ne_eq.{1} (And.intro @not_and (And.intro @Int.not_le (And.intro @Int.not_lt (And.intro @ge_iff_le.{0} (And.intro @gt_iff_lt.{0} (And.intro @Nat.not_lt (And.intro @Nat.not_le (And.intro @Bool.not_eq_true (And.intro @Bool.not_eq_false (And.intro @Bool.true_eq_false (And.intro @Bool.false_eq_true (And.intro @not_false_eq_true @not_true_eq_false)))))))))))))))))))))))))))))))) :=
  (And.intro @lim64 (And.intro @imp_false (And.intro @decide_eq_true_eq (And.intro @decide_eq_false_iff_not (And.intro @Int.toNat_natCast (And.intro @toNat_pred (And.intro @toNat_succ (And.intro @Option.getD_some.{0} (And.intro @Option.getD_none.{0} (And.intro @Bool.not_eq_true' (And.intro @Bool.not_eq_false' (And.intro @Bool.and_eq_true (And.intro @Bool.or_eq_true (And.intro @Bool.and_eq_false_iff (And.intro @Bool.or_eq_false_iff (And.intro @bne_iff_ne.{0} (And.intro @beq_iff_eq.{0} (And.intro @bne_eq_false_iff_eq.{0} (And.intro @beq_eq_false_iff_ne.{0} (And.intro @ne_eq.{1} (And.intro @not_and (And.intro @Int.not_le (And.intro @Int.not_lt (And.intro @ge_iff_le.{0} (And.intro @gt_iff_lt.{0} (And.intro @Nat.not_lt (And.intro @Nat.not_le (And.intro @Bool.not_eq_true (And.intro @Bool.not_eq_false (And.intro @Bool.true_eq_false (And.intro @Bool.false_eq_true (And.intro @not_false_eq_true @not_true_eq_false))))))))))))))))))))))))))))))))
abbrev FS (t : Nat → Int) (a : Nat) : Nat → Int := fun j => t (j + a)
abbrev CB (m : Nat) (t : Nat → Int) : Blk := .cols m [.int .i64 t]
abbrev CI (L : List Int) : Blk := .cols L.length [.int .i64 fun j => S.at' L j]
abbrev HB (P : Program) (f : Nat) : Prop := ∃ F, P.funcs[f]? = some F ∧ F.body.isSome = true ∧ (F.name == "runtime.NumGoroutine") = false
abbrev TT := Bool → Prop → Prop → Prop
abbrev NI := Nat → Int
noncomputable def k111  : Con := ⟨11, [], fun _ => true, fun _ => .bool true, fun _ => [], fun _ _ => .dead⟩
theorem te111 (Kst : KS) (Kret : KR) : run cond Try.env true noX false 4000 ⟨11, [.cd (mkFn Try.f11).body], [], [[], []], 0⟩ (proj 0 [] Kst Kret) = Kret (.tf true) [[]] 211 := by kernel_rfl
theorem k111_ok  : k111.ok Try.prog := awake_ok (fn := mkFn Try.f11) (hi := 212) (n := 4000) Try.envOk Try.mixed noX_ok rfl (by decide) (by decide : Nat.ble 211 212 = true) te111
namespace S
def idx (p : Nat → Bool) : Nat → Nat → Int
  | _, 0 => -1
  | i, k + 1 => if p i = true then i else idx p (i + 1) k
def any (p : Nat → Bool) (n : Nat) : Bool := (List.range n).any p
def maxN (t : Nat → Int) : Nat → Int
  | 0 => t 0
  | n + 1 => max (maxN t n) (t (n + 1))
def minN (t : Nat → Int) : Nat → Int
  | 0 => t 0
  | n + 1 => min (minN t n) (t (n + 1))
end S
theorem any_iff  {p : Nat → Bool} {n : Nat} : S.any p n = true ↔ ∃ j, j < n ∧ p j = true := by simp [S.any]
theorem any_no  {p : Nat → Bool} {n : Nat} : S.any p n = false ↔ ∀ j, j < n → p j = false := by simp [S.any]
theorem idx_ge  {p : Nat → Bool} : ∀ {k i : Nat}, S.idx p i k = -1 ∨ ((i : Int) ≤ S.idx p i k ∧ S.idx p i k < i + k)
  | 0, i => .inl rfl
  | k + 1, i => by
    simp only [S.idx]
    split
    · exact .inr ⟨by omega, by omega⟩
    · rcases idx_ge (p := p) (k := k) (i := i + 1) with h | h
      · exact .inl h
      · exact .inr ⟨by omega, by omega⟩
theorem idx_no  {p : Nat → Bool} : ∀ {k i : Nat}, S.idx p i k = -1 ↔ ∀ j, i ≤ j → j < i + k → p j = false
  | 0, i => ⟨fun _ j h1 h2 => by omega, fun _ => rfl⟩
  | k + 1, i => by
    simp only [S.idx]
    split
    · rename_i h
      exact ⟨fun e => by omega, fun e => by rw [e i (Nat.le_refl _) (by omega)] at h; cases h⟩
    · rename_i h
      rw [idx_no]
      constructor
      · intro e j h1 h2
        by_cases hj : j = i
        · subst hj; simpa using h
        · exact e j (by omega) (by omega)
      · exact fun e j h1 h2 => e j (by omega) (by omega)
theorem idx_any  {p : Nat → Bool} {n : Nat} : decide (S.idx p 0 n ≥ 0) = S.any p n := by
  rw [Bool.eq_iff_iff, decide_eq_true_eq, any_iff]
  constructor
  · intro h
    by_cases hn : S.idx p 0 n = -1
    · omega
    · rw [idx_no] at hn
      simp only [Classical.not_forall] at hn
      obtain ⟨j, _, h2, h3⟩ := hn
      exact ⟨j, by omega, by simpa using h3⟩
  · rintro ⟨j, h1, h2⟩
    rcases idx_ge (p := p) (k := n) (i := 0) with h | h
    · rw [idx_no] at h
      rw [h j (by omega) (by omega)] at h2; cases h2
    · omega
theorem maxN_le  {t : Nat → Int} {v : Int} : ∀ {n : Nat}, S.maxN t n ≤ v ↔ ∀ j, j ≤ n → t j ≤ v
  | 0 => ⟨fun h j hj => by obtain rfl : j = 0 := by omega
                           exact h, fun h => h 0 (Nat.le_refl _)⟩
  | n + 1 => by
    simp only [S.maxN, Int.max_le, maxN_le]
    exact ⟨fun h j hj => by rcases Nat.lt_or_eq_of_le hj with h1 | rfl; exact h.1 j (by omega); exact h.2, fun h => ⟨fun j hj => h j (by omega), h _ (Nat.le_refl _)⟩⟩
theorem maxN_congr  {t u : Nat → Int} : ∀ {n : Nat}, (∀ j, j ≤ n → t j = u j) → S.maxN t n = S.maxN u n
  | 0, h => h 0 (Nat.le_refl _)
  | n + 1, h => by
    have e : S.maxN t n = S.maxN u n := maxN_congr fun j hj => h j (by omega)
    simp only [S.maxN, h (n + 1) (Nat.le_refl _), e]
theorem minN_congr  {t u : Nat → Int} : ∀ {n : Nat}, (∀ j, j ≤ n → t j = u j) → S.minN t n = S.minN u n
  | 0, h => h 0 (Nat.le_refl _)
  | n + 1, h => by
    have e : S.minN t n = S.minN u n := minN_congr fun j hj => h j (by omega)
    simp only [S.minN, h (n + 1) (Nat.le_refl _), e]
namespace S
def runN (p : Nat → Bool) : Nat → Nat → Nat
  | _, 0 => 0
  | i, k + 1 => if p i = true then runN p (i + 1) k + 1 else 0
def lowB (c : Int) : Bool := decide (97 ≤ c ∧ c ≤ 122)
def namB (c : Int) : Bool := decide ((97 ≤ c ∧ c ≤ 122) ∨ (48 ≤ c ∧ c ≤ 57) ∨ c = 95)
def isNam (s : ByteArray) : Bool := decide (1 ≤ s.size ∧ s.size ≤ 20) && (lowB (keys s 0) && decide (runN (fun j => namB (keys s j)) 0 s.size = s.size))
def all (p : Nat → Bool) (n : Nat) : Bool := (List.range n).all p
end S
theorem all_iff  {p : Nat → Bool} {n : Nat} : S.all p n = true ↔ ∀ j, j < n → p j = true := by simp [S.all]
theorem all_no  {p : Nat → Bool} {n i : Nat} (hi : i < n) (h : p i = false) : ¬ S.all p n = true := fun e => by rw [all_iff.mp e i hi] at h; cases h
theorem runN_le  {p : Nat → Bool} : ∀ {k i : Nat}, S.runN p i k ≤ k
  | 0, _ => Nat.le_refl _
  | k + 1, i => by
    simp only [S.runN]
    split
    · have := runN_le (p := p) (k := k) (i := i + 1); omega
    · omega
theorem size_nil  {s : ByteArray} : (s.toList == []) = decide (s.size = 0) := by
  rw [ByteArray.toList_eq, Bool.eq_iff_iff, beq_iff_eq, decide_eq_true_eq]
  have : s.size = s.data.toList.length := rfl
  rw [this, List.length_eq_zero_iff]
inductive St157 where
  | h0 (x0 : Int)
abbrev Rt157  := Int
noncomputable def V157 (ws : ByteArray) (fr : Int) (r : Rt157) : PV := PV.int .i64 r
noncomputable def N157 (ws : ByteArray) (fr : Int) (r : Rt157) : List Blk := []
noncomputable def I157 (ws : ByteArray) (fr : Int) : St157 → Hd
  | .h0 x0 => ⟨hd Try.f57 0, [PV.str ws, PV.int .i64 fr, PV.fn (Go.Fn.func (58)) [] [],
 PV.int .i64 x0], [[], []], 0⟩
noncomputable def q157 (ws : ByteArray) (fr : Int) : St157 → Option (St157 ⊕ Rt157) | .h0 x0 => bif (lim .i64 (fr + x0)) then (bif (decide (fr + x0 < (↑(ByteArray.size ws) : Int))) then (bif (decide ((0 : Int) ≤ fr + x0 ∧ fr + x0 < (↑(ByteArray.size ws) : Int))) then (bif (decide (keys ws (Int.toNat (fr + x0)) ≥ 97)) then (bif (decide (keys ws (Int.toNat (fr + x0)) ≤ 122)) then (bif (lim .i64 (x0 + 1)) then (some (.inl (.h0 (x0 + 1)))) else (none)) else (bif (decide (keys ws (Int.toNat (fr + x0)) ≥ 48)) then (bif (decide (keys ws (Int.toNat (fr + x0)) ≤ 57)) then (bif (lim .i64 (x0 + 1)) then (some (.inl (.h0 (x0 + 1)))) else (none)) else (bif (keys ws (Int.toNat (fr + x0)) == 95) then (bif (lim .i64 (x0 + 1)) then (some (.inl (.h0 (x0 + 1)))) else (none)) else (some (.inr (x0))))) else (bif (keys ws (Int.toNat (fr + x0)) == 95) then (bif (lim .i64 (x0 + 1)) then (some (.inl (.h0 (x0 + 1)))) else (none)) else (some (.inr (x0)))))) else (bif (decide (keys ws (Int.toNat (fr + x0)) ≥ 48)) then (bif (decide (keys ws (Int.toNat (fr + x0)) ≤ 57)) then (bif (lim .i64 (x0 + 1)) then (some (.inl (.h0 (x0 + 1)))) else (none)) else (bif (keys ws (Int.toNat (fr + x0)) == 95) then (bif (lim .i64 (x0 + 1)) then (some (.inl (.h0 (x0 + 1)))) else (none)) else (some (.inr (x0))))) else (bif (keys ws (Int.toNat (fr + x0)) == 95) then (bif (lim .i64 (x0 + 1)) then (some (.inl (.h0 (x0 + 1)))) else (none)) else (some (.inr (x0)))))) else (none)) else (some (.inr (x0)))) else (none)
noncomputable def p157 (ws : ByteArray) (fr : Int) : Option (St157 ⊕ Rt157) := some (.inl (.h0 ((0 : Int))))
def Te157 (test : TT) (Kst : KS) (Kret : KR) (ws : ByteArray) (fr : Int) : Prop := Kst (hd Try.f57 0) ([PV.str ws, PV.int .i64 fr, PV.fn (Go.Fn.func (58)) [] [], PV.int .i64 (0 : Int)]) ([[]]) (0)
theorem te157 (test : TT) (Kst : KS) (Kret : KR) (ws : ByteArray) (fr : Int) : run test Try.env true noX true 400 ⟨57, [.cd (mkFn Try.f57).body], argT 0 [.str ws, .int .i64 fr, .fn (.func 58) [] []], [[], []], 0⟩ (proj 0 [0, 1, 2, 7] Kst Kret) =
  Te157 test Kst Kret ws fr := by kernel_rfl
noncomputable abbrev u157_0_0 (ws : ByteArray) (fr x0 : Int) := ([PV.str ws, PV.int IntKind.i64 fr, PV.fn (Go.Fn.func (58)) [] [], PV.int IntKind.i64 (x0 + (1 : Int))])
def T157_0 (test : TT) (Kst : KS) (Kret : KR) (ws : ByteArray) (fr x0 : Int) : Prop := test (lim .i64 (fr + x0)) (test (decide (fr + x0 < (↑(ByteArray.size ws) : Int))) (test (lim .i64 (fr + x0)) (test (decide ((0 : Int) ≤ fr + x0 ∧ fr + x0 < (↑(ByteArray.size ws) : Int))) (test (decide (keys ws (Int.toNat (fr + x0)) ≥ 97)) (test (decide (keys ws (Int.toNat (fr + x0)) ≤ 122)) (test (lim .i64 (x0 + 1)) (Kst (hd Try.f57 0) (u157_0_0 ws fr x0) ([[]]) (0)) (False)) (test (decide (keys ws (Int.toNat (fr + x0)) ≥ 48)) (test (decide (keys ws (Int.toNat (fr + x0)) ≤ 57)) (test (lim .i64 (x0 + 1)) (Kst (hd Try.f57 0) (u157_0_0 ws fr x0) ([[]]) (0)) (False)) (test (keys ws (Int.toNat (fr + x0)) == 95) (test (lim .i64 (x0 + 1)) (Kst (hd Try.f57 0) (u157_0_0 ws fr x0) ([[]]) (0)) (False)) (Kret (PV.int .i64 x0) ([[]]) (0)))) (test (keys ws (Int.toNat (fr + x0)) == 95) (test (lim .i64 (x0 + 1)) (Kst (hd Try.f57 0) (u157_0_0 ws fr x0) ([[]]) (0)) (False)) (Kret (PV.int .i64 x0) ([[]]) (0))))) (test (decide (keys ws (Int.toNat (fr + x0)) ≥ 48)) (test (decide (keys ws (Int.toNat (fr + x0)) ≤ 57)) (test (lim .i64 (x0 + 1)) (Kst (hd Try.f57 0) (u157_0_0 ws fr x0) ([[]]) (0)) (False)) (test (keys ws (Int.toNat (fr + x0)) == 95) (test (lim .i64 (x0 + 1)) (Kst (hd Try.f57 0) (u157_0_0 ws fr x0) ([[]]) (0)) (False)) (Kret (PV.int .i64 x0) ([[]]) (0)))) (test (keys ws (Int.toNat (fr + x0)) == 95) (test (lim .i64 (x0 + 1)) (Kst (hd Try.f57 0) (u157_0_0 ws fr x0) ([[]]) (0)) (False)) (Kret (PV.int .i64 x0) ([[]]) (0))))) (False)) (False)) (Kret (PV.int .i64 x0) ([[]]) (0))) (False)
theorem t157_0 (test : TT) (Kst : KS) (Kret : KR) (ws : ByteArray) (fr x0 : Int) : run test Try.env true noX true 400 ⟨57, hd Try.f57 0, zipT [0, 1, 2, 7] [PV.str ws, PV.int .i64 fr, PV.fn (Go.Fn.func (58)) [] [],
 PV.int .i64 x0], [[], []], 0⟩ (proj 0 [0, 1, 2, 7] Kst Kret) =
  T157_0 test Kst Kret ws fr x0 := by kernel_rfl
noncomputable abbrev J157 (ws : ByteArray) (fr : Int) : Rt157 → Heap := fun r => [newL (0 + 1) ((N157 ws fr) r) ++ []]
attribute [local irreducible] Int.subNatNat in
theorem be157 (ws : ByteArray) (fr : Int) (Kst : KS) (Kret : KR) (x : St157 ⊕ Rt157) (hS : HS 0 400 ((I157 ws fr)) Kst x) (hR : HR 0 400 ((V157 ws fr)) (J157 ws fr) Kret x) (h : (some (.inl (.h0 ((0 : Int)))) : Option (St157 ⊕ Rt157)) = some x) : Te157 cond Kst Kret ws fr := by
  unfold Te157
  exact stop_at hS _ h (fun n => n) rfl rfl rfl ⟨(rn_str rfl), ⟨(rn_int rfl), ⟨(rn_fn trivial trivial), ⟨(rn_int rfl), trivial⟩⟩⟩⟩ rfl entl_nil
attribute [local irreducible] Int.subNatNat in
theorem b157_0 (ws : ByteArray) (fr : Int) (Kst : KS) (Kret : KR) (x : St157 ⊕ Rt157) (hS : HS 0 400 ((I157 ws fr)) Kst x) (hR : HR 0 400 ((V157 ws fr)) (J157 ws fr) Kret x) (x0 : Int) (h : q157 ws fr (.h0 x0) = some x) : T157_0 cond Kst Kret ws fr x0 := by
  unfold T157_0
  rw [q157] at h
  refine bif_split h (fun c0 h => bif_split h (fun c1 h => cond_yes c0 (bif_split h (fun c2 h => bif_split h (fun c3 h => bif_split h (fun c4 h => bif_split h (fun c5 h => ?_) (fun c5 h => ?_)) (fun c4 h => bif_split h (fun c5 h => bif_split h (fun c6 h => bif_split h (fun c7 h => ?_) (fun c7 h => ?_)) (fun c6 h => bif_split h (fun c7 h => bif_split h (fun c8 h => ?_) (fun c8 h => ?_)) (fun c7 h => ?_))) (fun c5 h => bif_split h (fun c6 h => bif_split h (fun c7 h => ?_) (fun c7 h => ?_)) (fun c6 h => ?_)))) (fun c3 h => bif_split h (fun c4 h => bif_split h (fun c5 h => bif_split h (fun c6 h => ?_) (fun c6 h => ?_)) (fun c5 h => bif_split h (fun c6 h => bif_split h (fun c7 h => ?_) (fun c7 h => ?_)) (fun c6 h => ?_))) (fun c4 h => bif_split h (fun c5 h => bif_split h (fun c6 h => ?_) (fun c6 h => ?_)) (fun c5 h => ?_)))) (fun c2 h => ?_))) (fun c1 h => ?_)) (fun c0 h => ?_)
  all_goals first
    | exact no_some h
    | exact stop_at hS _ h (fun n => n) rfl rfl rfl ⟨(rn_str rfl), ⟨(rn_int rfl), ⟨(rn_fn trivial trivial), ⟨(rn_int rfl), trivial⟩⟩⟩⟩ rfl entl_nil
    | exact ret_at hR _ h (fun n => n) rfl rfl rfl (rn_int rfl) rfl entl_nil
theorem a157 (ws : ByteArray) (fr : Int) {r : Rt157} (h : Goes ((q157 ws fr)) ((p157 ws fr)) r) : CallR Try.prog 57 [.str ws, .int .i64 fr, .fn (.func 58) [] []] [[]] 0 ((V157 ws fr) r) ((J157 ws fr) r) 400 ∧ ∃ F, Try.prog.funcs[57]? = some F ∧ F.body.isSome = true ∧ (F.name == "runtime.NumGoroutine") = false := by
  refine dec_calls (f := 57) (lo := 0) (hi := 400) (H := [[]]) (args := [.str ws, .int .i64 fr, .fn (.func 58) [] []]) Try.envOk Try.mixed noX_ok ((I157 ws fr)) ((V157 ws fr)) (J157 ws fr) (fn := mkFn Try.f57) (ts := [0, 1, 2, 7]) (n := 400) rfl (by decide) (by simp) (names_of rfl) ?_ ?_ ?_ h
  · intro s; cases s <;> exact ⟨hd_ok _ _, by simp [I157], names_of rfl, Nat.le_of_ble_eq_true rfl⟩
  · intro Kst Kret x hS hR h
    exact Holds.eq (te157 cond Kst Kret ws fr) (be157 ws fr Kst Kret x hS hR h)
  · intro Kst Kret x hS hR s h
    cases s with
    | h0 x0 => exact Holds.eq (t157_0 cond Kst Kret ws fr x0) (b157_0 ws fr Kst Kret x hS hR x0 h)
noncomputable abbrev w157 {α : Type} (g : ByteArray → Int → α) (x : ByteArray × Int × (Unit) × Unit) : α := g x.1 x.2.1
noncomputable def k157  : Con := ⟨57, [.one (.plain (.str)), .one (.plain (.int .i64)), .fn 58 []], w157 (fun ws fr => decide (ws.size ≤ 1000 ∧ fr = 0)), w157 (fun ws fr => (V157 ws fr) (((S.runN (fun j => S.namB (keys ws j)) 0 ws.size : Nat) : Int))), w157 (fun ws fr => (N157 ws fr) (((S.runN (fun j => S.namB (keys ws j)) 0 ws.size : Nat) : Int))), fun _ _ => .dead⟩
theorem s157' (ws : ByteArray) (fr : Int) (hp : ws.size ≤ 1000) (hf : fr = 0) : ∀ k i : Nat, i + k = ws.size → Comes (q157 ws fr) (.h0 (i : Int)) (((i + S.runN (fun j => S.namB (keys ws j)) i k : Nat)) : Int) := by
  intro k
  induction k with
  | zero =>
    intro i hi
    apply Comes.of
    show Goes _ _ _
    (first | rw [q157] | unfold q157)
    repeat' (first | with_reducible refine goes_if (fun h => ?_) (fun h => ?_) <;> (try simp only [SH] at h) | exact goes_none.mpr (by omega))
    all_goals first | (exfalso; omega) | rfl
  | succ k ih =>
    intro i hi
    have ih := ih (i + 1) (by omega)
    have e0 : (0 : Int) + (i : Int) = i := Int.zero_add _
    simp only [S.runN]
    by_cases hc : (fun j => S.namB (keys ws j)) i = true
    · rw [if_pos hc]
      rw [show i + 1 + S.runN (fun j => S.namB (keys ws j)) (i + 1) k = i + (S.runN (fun j => S.namB (keys ws j)) (i + 1) k + 1) by omega] at ih
      simp only [S.namB, decide_eq_true_eq] at hc
      subst hf
      apply Comes.of
      show Goes _ _ _
      (first | rw [q157] | unfold q157)
      repeat' (first | with_reducible refine goes_if (fun h => ?_) (fun h => ?_) <;> (try simp only [SH, e0] at h) | exact goes_none.mpr (by omega))
      all_goals first | (exfalso; omega) | exact ih | (exfalso; simp_all; done) | (exfalso; simp_all; omega)
    · rw [if_neg hc]
      simp only [S.namB, decide_eq_true_eq] at hc
      subst hf
      apply Comes.of
      show Goes _ _ _
      (first | rw [q157] | unfold q157)
      repeat' (first | with_reducible refine goes_if (fun h => ?_) (fun h => ?_) <;> (try simp only [SH, e0] at h) | exact goes_none.mpr (by omega))
      all_goals first | (exfalso; omega) | (exact goes_inr.mpr rfl) | (exfalso; simp_all; done) | (exfalso; simp_all; omega)
theorem s157 (ws : ByteArray) (fr : Int) (hp : ws.size ≤ 1000 ∧ fr = 0) : Goes ((q157 ws fr)) ((p157 ws fr)) (((S.runN (fun j => S.namB (keys ws j)) 0 ws.size : Nat) : Int)) := by
  obtain ⟨hp1, hp2⟩ := hp
  have hm := s157' ws fr hp1 hp2 ws.size 0 (by omega)
  rw [Nat.zero_add] at hm
  show Goes _ _ _
  unfold p157
  repeat' (first | with_reducible refine goes_if (fun h => ?_) (fun h => ?_) <;> (try simp only [SH] at h) | exact goes_none.mpr (by omega))
  all_goals first | (exfalso; omega) | exact hm
theorem k157_ok  : k157.ok Try.prog := by
  intro x hx
  obtain ⟨ws, fr, ⟨_⟩, _⟩ := x
  obtain ⟨h1, h2⟩ := a157 ws fr (s157 ws fr (of_dec hx rfl))
  exact ⟨⟨400, (by decide : 0 + 1 + 0 ≤ 400), h1⟩, h2⟩
noncomputable def xN0 (test : Bool → Prop → Prop → Prop) : Ext := consX test [k157]
theorem xN0_ok  : ExtOk Try.prog (xN0 cond) := consX_ok ⟨k157_ok, trivial⟩
abbrev St137  := Empty
abbrev Rt137  := Bool
noncomputable def V137 (ws : ByteArray) (r : Rt137) : PV := PV.bool r
noncomputable def N137 (ws : ByteArray) (r : Rt137) : List Blk := []
noncomputable def I137 (ws : ByteArray) : St137 → Hd := fun s => s.elim
noncomputable def q137 (ws : ByteArray) : St137 → Option (St137 ⊕ Rt137) := fun s => s.elim
noncomputable def p137 (ws : ByteArray) : Option (St137 ⊕ Rt137) := bif (!S.eqS ws (ByteArray.mk #[])) then (bif (decide ((↑(ByteArray.size ws) : Int) ≤ 20)) then (bif (decide ((0 : Int) ≤ 0 ∧ (0 : Int) < (↑(ByteArray.size ws) : Int))) then (bif (decide (keys ws (0) ≥ 97)) then (bif (decide (keys ws (0) ≤ 122)) then (bif (decide (ByteArray.size ws ≤ 1000 ∧ (0 : Int) = 0)) then (bif ((↑(S.runN (fun j => S.namB (keys ws j)) (0) (ByteArray.size ws)) : Int) == (↑(ByteArray.size ws) : Int)) then (some (.inr (true))) else (some (.inr (false)))) else (none)) else (some (.inr (false)))) else (some (.inr (false)))) else (none)) else (some (.inr (false)))) else (some (.inr (false)))
def Te137 (test : TT) (Kst : KS) (Kret : KR) (ws : ByteArray) : Prop := test (!S.eqS ws (ByteArray.mk #[])) (test (decide ((↑(ByteArray.size ws) : Int) ≤ 20)) (test (decide ((0 : Int) ≤ 0 ∧ (0 : Int) < (↑(ByteArray.size ws) : Int))) (test (decide (keys ws (0) ≥ 97)) (test (decide (keys ws (0) ≤ 122)) (test (decide (ByteArray.size ws ≤ 1000 ∧ (0 : Int) = 0)) (test ((↑(S.runN (fun j => S.namB (keys ws j)) (0) (ByteArray.size ws)) : Int) == (↑(ByteArray.size ws) : Int)) (Kret (PV.tf true) ([[]]) (1)) (Kret (PV.tf false) ([[]]) (1))) (False)) (Kret (PV.tf false) ([[]]) (0))) (Kret (PV.tf false) ([[]]) (0))) (False)) (Kret (PV.tf false) ([[]]) (0))) (Kret (PV.tf false) ([[]]) (0))
theorem te137 (test : TT) (Kst : KS) (Kret : KR) (ws : ByteArray) : run test Try.env true (xN0 test) true 400 ⟨37, [.cd (mkFn Try.f37).body], argT 0 [.str ws], [[], []], 0⟩ (proj 0 [] Kst Kret) =
  Te137 test Kst Kret ws := by kernel_rfl
attribute [local irreducible] Int.subNatNat in
theorem be137 (ws : ByteArray) (Kst : KS) (Kret : KR) (x : St137 ⊕ Rt137) (hS : HS 0 400 ((I137 ws)) Kst x) (hR : HR 0 400 ((V137 ws)) (fun r => [newL (0 + 1) ((N137 ws) r) ++ []]) Kret x) (h : p137 ws = some x) : Te137 cond Kst Kret ws := by
  unfold Te137
  unfold p137 at h
  refine bif_split h (fun c0 h => bif_split h (fun c1 h => bif_split h (fun c2 h => bif_split h (fun c3 h => bif_split h (fun c4 h => bif_split h (fun c5 h => bif_split h (fun c6 h => ?_) (fun c6 h => ?_)) (fun c5 h => ?_)) (fun c4 h => ?_)) (fun c3 h => ?_)) (fun c2 h => ?_)) (fun c1 h => ?_)) (fun c0 h => ?_)
  all_goals first
    | exact ret_at hR _ h (fun n => n) rfl rfl rfl (rn_bool_tf rfl) rfl entl_nil
    | exact no_some h
theorem a137 (ws : ByteArray) {r : Rt137} (h : Goes ((q137 ws)) ((p137 ws)) r) : CallR Try.prog 37 [.str ws] [[]] 0 ((V137 ws) r) ((fun r => [newL (0 + 1) ((N137 ws) r) ++ []]) r) 400 ∧ ∃ F, Try.prog.funcs[37]? = some F ∧ F.body.isSome = true ∧ (F.name == "runtime.NumGoroutine") = false := by
  refine dec_calls (f := 37) (lo := 0) (hi := 400) (H := [[]]) (args := [.str ws]) Try.envOk Try.mixed xN0_ok ((I137 ws)) ((V137 ws)) (fun r => [newL (0 + 1) ((N137 ws) r) ++ []]) (fn := mkFn Try.f37) (ts := []) (n := 400) rfl (by decide) (by simp) (names_of rfl) ?_ ?_ ?_ h
  · intro s; exact s.elim
  · intro Kst Kret x hS hR h
    exact Holds.eq (te137 cond Kst Kret ws) (be137 ws Kst Kret x hS hR h)
  · intro Kst Kret x hS hR s h; exact s.elim
noncomputable abbrev w137 {α : Type} (g : ByteArray → α) (x : ByteArray × Unit) : α := g x.1
noncomputable def k137  : Con := ⟨37, [.one (.plain (.str))], w137 (fun ws => decide (True)), w137 (fun ws => (V137 ws) (S.isNam ws)), w137 (fun ws => (N137 ws) (S.isNam ws)), fun _ _ => .dead⟩
theorem s137 (ws : ByteArray) (hp : True) : Goes ((q137 ws)) ((p137 ws)) (S.isNam ws) := by
  have hs : S.eqS ws (ByteArray.mk #[]) = decide (ws.size = 0) := by
    show (ws.toList == (ByteArray.mk #[]).toList) = _
    rw [ByteArray.toList_eq (ByteArray.mk #[])]
    exact size_nil
  have hr := runN_le (p := (fun j => S.namB (keys ws j))) (k := ws.size) (i := 0)
  have e : S.isNam ws = (decide (1 ≤ ws.size ∧ ws.size ≤ 20) && (S.lowB (keys ws 0) && decide (S.runN (fun j => S.namB (keys ws j)) 0 ws.size = ws.size))) := rfl
  rw [e]
  unfold p137
  simp only [hs]
  have hk : S.lowB (keys ws 0) = decide (97 ≤ keys ws 0 ∧ keys ws 0 ≤ 122) := rfl
  generalize S.runN (fun j => S.namB (keys ws j)) 0 ws.size = rn at *
  show Goes _ _ _
  repeat' (first | with_reducible refine goes_if (fun h => ?_) (fun h => ?_) <;> (try simp only [SH] at h) | exact goes_none.mpr (by omega))
  all_goals first
    | (exfalso; omega)
    | (refine goes_inr.mpr ?_; simp only [hk, ← Bool.decide_and]; first | exact (decide_eq_true (by omega)).symm | exact (decide_eq_false (by omega)).symm | (rw [Bool.eq_iff_iff]; simp only [decide_eq_true_eq, beq_iff_eq]; omega))
theorem k137_ok  : k137.ok Try.prog := by
  intro x hx
  obtain ⟨ws, _⟩ := x
  obtain ⟨h1, h2⟩ := a137 ws (s137 ws (of_dec hx rfl))
  exact ⟨⟨400, (by decide : 0 + 1 + 0 ≤ 400), h1⟩, h2⟩
noncomputable def xN (test : Bool → Prop → Prop → Prop) : Ext := consX test [k137]
theorem xN_ok  : ExtOk Try.prog (xN cond) := consX_ok ⟨k137_ok, trivial⟩
noncomputable abbrev w25 {α : Type} (g : Nat → Nat → Nat → (Nat → Int) → α) (x : (Nat × Nat × Nat × (Nat → Int) × Unit) × Unit) : α := g x.1.1 x.1.2.1 x.1.2.2.1 x.1.2.2.2.1
noncomputable def k25  : Con := ⟨25, [.one (.list [.int .i64])], w25 (fun aa na ma ta => decide (aa + na ≤ ma ∧ na ≤ 1000000)), w25 (fun aa na ma ta => .own 2 1 na), w25 (fun aa na ma ta => [.cols na [.int .i64 (fun j => ta (j + aa))]]), fun _ _ => .dead⟩
theorem e25s (test : Bool → Prop → Prop → Prop) (Kst : List It → List PV → Heap → Nat → Prop) (Kret : PV → Heap → Nat → Prop) (aa na ma : Nat) (ta : Nat → Int) :
  (run test Try.env true noX true 300 ⟨25, [.cd (mkFn Try.f25).body], argT 0 [.sl ⟨0, 1, aa, 0⟩ na], [[], [(0, (false, .cols ma [.int .i64 ta]))]], 1⟩ (proj 1 [] Kst Kret)) =
  (test (decide (0 + na ≤ 1000000))
  (test true
    (test (decide (aa + na ≤ ma))
      (Kret (PV.own (2) (1) (0 + na))
        [[(0, false, Blk.cols ma [Col.int IntKind.i64 ta]),
            (2, true, Blk.cols (0 + na) [Col.int IntKind.i64 fun j => ta (j + aa)])]]
        (3))
      False)
    False)
  False) := by kernel_rfl
theorem c25s (aa na ma : Nat) (ta : NI) (hp : aa + na ≤ ma ∧ na ≤ 1000000) (h0 : 0 < na) : CallR Try.prog 25 [.sl ⟨0, 1, aa, 0⟩ na] [[(0, (false, .cols ma [.int .i64 ta]))]] 1 (.own 2 1 na) [(2, (true, .cols na [.int .i64 (fun j => ta (j + aa))])) :: [(0, (false, .cols ma [.int .i64 ta]))]] 40 ∧ ∃ F, Try.prog.funcs[25]? = some F ∧ F.body.isSome = true ∧ (F.name == "runtime.NumGoroutine") = false := by
  refine @ret_eq _ _ Try.envOk Try.mixed _ noX_ok 25 (mkFn Try.f25) [.sl ⟨0, 1, aa, 0⟩ na] [[(0, (false, .cols ma [.int .i64 ta]))]] [(2, (true, .cols na [.int .i64 (fun j => ta (j + aa))])) :: [(0, (false, .cols ma [.int .i64 ta]))]] 1 40 (.own 2 1 na) true 300 rfl (by decide) (by simp) (names_of rfl) _ (e25s cond _ _ aa na ma ta) ?_
  repeat' first
    | with_reducible refine cond_yes rfl ?_
    | with_reducible refine cond_no rfl ?_
    | (with_reducible refine cond_intro (fun h => ?_) (fun h => ?_)) <;> (try simp only [lim64, decide_eq_true_eq, decide_eq_false_iff_not, reduceCtorEq, Int.toNat_natCast, Bool.not_eq_true', Bool.not_eq_false', Bool.and_eq_true, Bool.or_eq_true, Bool.and_eq_false_iff, Bool.or_eq_false_iff, bne_iff_ne, beq_iff_eq, bne_eq_false_iff_eq, beq_eq_false_iff_ne, ne_eq] at h)
  all_goals first
    | with_reducible apply ret_k
    | omega
  repeat' first
    | with_reducible exact rns_nil
    | with_reducible refine rns_cons ?_ ?_
    | with_reducible refine rn_tup ?_
    | with_reducible refine rn_agg ?_
    | with_reducible refine rn_int ?_
    | with_reducible refine rn_tf ?_
    | with_reducible refine rn_bool_tf ?_
    | with_reducible refine rn_bool ?_
    | with_reducible refine rn_str ?_
    | with_reducible exact rn_nils
    | with_reducible refine rn_own_nils ?_
    | with_reducible refine rn_own ?_ ?_ ?_
    | with_reducible refine rn_own_sl ?_ ?_ ?_ ?_ ?_
    | with_reducible refine rn_own_loose ?_ ?_ ?_ ?_
    | with_reducible refine rn_loose ?_ ?_ ?_ ?_
    | with_reducible refine rn_loose_sl ?_ ?_ ?_ ?_
    | exact use_lo rfl
    | exact use_own rfl
    | exact nm_k rfl
    | exact nm_lo rfl
    | ((with_reducible refine (id : pos _ = pos _ → _) ?_); exact rfl)
    | ((with_reducible refine (id : pos _ = 0 → _) ?_); exact rfl)
    | ((with_reducible refine (id : Nat.ble _ _ = true → _) ?_); exact rfl)
    | ((with_reducible refine (id : injL _ _ = true → _) ?_); exact rfl)
    | ((with_reducible refine (id : plainC _ = true → _) ?_); exact rfl)
    | ((with_reducible refine (id : hget _ _ = some _ → _) ?_); exact rfl)
    | with_reducible exact (id : (_ : Bool) = true → _ = true)
    | with_reducible exact entl_nil
    | with_reducible refine entl_bor ?_ ?_ ?_ ?_
    | refine entl_new (use_own rfl) (by rfl) ?_ ?_ ?_
    | refine entl_rows (use_own rfl) (by rfl) rfl ?_ (nthc_all ?_) ?_
    | refine entl_zero (use_own rfl) (by rfl) (by simp) (by omega) ?_
    | with_reducible exact rcs_nil
    | with_reducible refine rcs_int (fun j hj => ?_) ?_
    | with_reducible refine rcs_bool (fun j hj => ?_) ?_
    | with_reducible refine rcs_str (fun j hj => ?_) ?_
    | refine entl_fresh (k := 2) (use_own rfl) (fresh_ok (n := 39) rfl) ?_
    | with_reducible rfl
  all_goals try exact (0 : Nat)
  all_goals try ((with_reducible refine (id : injL _ _ = true → _) ?_); exact rfl)
  all_goals first
    | omega
    | skip
theorem e25z (test : Bool → Prop → Prop → Prop) (Kst : List It → List PV → Heap → Nat → Prop) (Kret : PV → Heap → Nat → Prop) (aa na ma : Nat) (ta : Nat → Int) :
  (run test Try.env true noX true 300 ⟨25, [.cd (mkFn Try.f25).body], argT 0 [.zer true], [[], [(0, (false, .cols ma [.int .i64 ta]))]], 1⟩ (proj 1 [] Kst Kret)) =
  (Kret (PV.own (1) (1) (0))
  [[(0, false, Blk.cols ma [Col.int IntKind.i64 ta]), (1, true, Blk.cells [])]] (2)) := by kernel_rfl
theorem c25z (aa na ma : Nat) (ta : NI) (hp : aa + na ≤ ma ∧ na ≤ 1000000) (h0 : na = 0) : CallR Try.prog 25 [.zer true] [[(0, (false, .cols ma [.int .i64 ta]))]] 1 (.own 2 1 na) [(2, (true, .cols na [.int .i64 (fun j => ta (j + aa))])) :: [(0, (false, .cols ma [.int .i64 ta]))]] 40 ∧ ∃ F, Try.prog.funcs[25]? = some F ∧ F.body.isSome = true ∧ (F.name == "runtime.NumGoroutine") = false := by
  refine @ret_eq _ _ Try.envOk Try.mixed _ noX_ok 25 (mkFn Try.f25) [.zer true] [[(0, (false, .cols ma [.int .i64 ta]))]] [(2, (true, .cols na [.int .i64 (fun j => ta (j + aa))])) :: [(0, (false, .cols ma [.int .i64 ta]))]] 1 40 (.own 2 1 na) true 300 rfl (by decide) (by simp) (names_of rfl) _ (e25z cond _ _ aa na ma ta) ?_
  repeat' first
    | with_reducible refine cond_yes rfl ?_
    | with_reducible refine cond_no rfl ?_
    | (with_reducible refine cond_intro (fun h => ?_) (fun h => ?_)) <;> (try simp only [lim64, decide_eq_true_eq, decide_eq_false_iff_not, reduceCtorEq, Int.toNat_natCast, Bool.not_eq_true', Bool.not_eq_false', Bool.and_eq_true, Bool.or_eq_true, Bool.and_eq_false_iff, Bool.or_eq_false_iff, bne_iff_ne, beq_iff_eq, bne_eq_false_iff_eq, beq_eq_false_iff_ne, ne_eq] at h)
  all_goals first
    | with_reducible apply ret_k
    | omega
  repeat' first
    | with_reducible exact rns_nil
    | with_reducible refine rns_cons ?_ ?_
    | with_reducible refine rn_tup ?_
    | with_reducible refine rn_agg ?_
    | with_reducible refine rn_int ?_
    | with_reducible refine rn_tf ?_
    | with_reducible refine rn_bool_tf ?_
    | with_reducible refine rn_bool ?_
    | with_reducible refine rn_str ?_
    | with_reducible exact rn_nils
    | with_reducible refine rn_own_nils ?_
    | with_reducible refine rn_own ?_ ?_ ?_
    | with_reducible refine rn_own_sl ?_ ?_ ?_ ?_ ?_
    | with_reducible refine rn_own_loose ?_ ?_ ?_ ?_
    | with_reducible refine rn_loose ?_ ?_ ?_ ?_
    | with_reducible refine rn_loose_sl ?_ ?_ ?_ ?_
    | exact use_lo rfl
    | exact use_own rfl
    | exact nm_k rfl
    | exact nm_lo rfl
    | ((with_reducible refine (id : pos _ = pos _ → _) ?_); exact rfl)
    | ((with_reducible refine (id : pos _ = 0 → _) ?_); exact rfl)
    | ((with_reducible refine (id : Nat.ble _ _ = true → _) ?_); exact rfl)
    | ((with_reducible refine (id : injL _ _ = true → _) ?_); exact rfl)
    | ((with_reducible refine (id : plainC _ = true → _) ?_); exact rfl)
    | ((with_reducible refine (id : hget _ _ = some _ → _) ?_); exact rfl)
    | with_reducible exact (id : (_ : Bool) = true → _ = true)
    | with_reducible exact entl_nil
    | with_reducible refine entl_bor ?_ ?_ ?_ ?_
    | refine entl_new (use_own rfl) (by rfl) ?_ ?_ ?_
    | refine entl_rows (use_own rfl) (by rfl) rfl ?_ (nthc_all ?_) ?_
    | refine entl_zero (use_own rfl) (by rfl) (by simp) (by omega) ?_
    | with_reducible exact rcs_nil
    | with_reducible refine rcs_int (fun j hj => ?_) ?_
    | with_reducible refine rcs_bool (fun j hj => ?_) ?_
    | with_reducible refine rcs_str (fun j hj => ?_) ?_
    | refine entl_fresh (k := 2) (use_own rfl) (fresh_ok (n := 39) rfl) ?_
    | with_reducible rfl
  all_goals try exact (0 : Nat)
  all_goals try ((with_reducible refine (id : injL _ _ = true → _) ?_); exact rfl)
  all_goals first
    | omega
    | skip
theorem e25y (test : Bool → Prop → Prop → Prop) (Kst : List It → List PV → Heap → Nat → Prop) (Kret : PV → Heap → Nat → Prop) (aa na ma : Nat) (ta : Nat → Int) :
  (run test Try.env true noX true 300 ⟨25, [.cd (mkFn Try.f25).body], argT 0 [.zer false], [[], [(0, (false, .cols ma [.int .i64 ta]))]], 1⟩ (proj 1 [] Kst Kret)) =
  (Kret PV.nils [[(0, false, Blk.cols ma [Col.int IntKind.i64 ta])]] (1)) := by kernel_rfl
theorem c25y (aa na ma : Nat) (ta : NI) (hp : aa + na ≤ ma ∧ na ≤ 1000000) (h0 : na = 0) : CallR Try.prog 25 [.zer false] [[(0, (false, .cols ma [.int .i64 ta]))]] 1 (.own 2 1 na) [(2, (true, .cols na [.int .i64 (fun j => ta (j + aa))])) :: [(0, (false, .cols ma [.int .i64 ta]))]] 40 ∧ ∃ F, Try.prog.funcs[25]? = some F ∧ F.body.isSome = true ∧ (F.name == "runtime.NumGoroutine") = false := by
  refine @ret_eq _ _ Try.envOk Try.mixed _ noX_ok 25 (mkFn Try.f25) [.zer false] [[(0, (false, .cols ma [.int .i64 ta]))]] [(2, (true, .cols na [.int .i64 (fun j => ta (j + aa))])) :: [(0, (false, .cols ma [.int .i64 ta]))]] 1 40 (.own 2 1 na) true 300 rfl (by decide) (by simp) (names_of rfl) _ (e25y cond _ _ aa na ma ta) ?_
  repeat' first
    | with_reducible refine cond_yes rfl ?_
    | with_reducible refine cond_no rfl ?_
    | (with_reducible refine cond_intro (fun h => ?_) (fun h => ?_)) <;> (try simp only [lim64, decide_eq_true_eq, decide_eq_false_iff_not, reduceCtorEq, Int.toNat_natCast, Bool.not_eq_true', Bool.not_eq_false', Bool.and_eq_true, Bool.or_eq_true, Bool.and_eq_false_iff, Bool.or_eq_false_iff, bne_iff_ne, beq_iff_eq, bne_eq_false_iff_eq, beq_eq_false_iff_ne, ne_eq] at h)
  all_goals first
    | with_reducible apply ret_k
    | omega
  repeat' first
    | with_reducible exact rns_nil
    | with_reducible refine rns_cons ?_ ?_
    | with_reducible refine rn_tup ?_
    | with_reducible refine rn_agg ?_
    | with_reducible refine rn_int ?_
    | with_reducible refine rn_tf ?_
    | with_reducible refine rn_bool_tf ?_
    | with_reducible refine rn_bool ?_
    | with_reducible refine rn_str ?_
    | with_reducible exact rn_nils
    | with_reducible refine rn_own_nils ?_
    | with_reducible refine rn_own ?_ ?_ ?_
    | with_reducible refine rn_own_sl ?_ ?_ ?_ ?_ ?_
    | with_reducible refine rn_own_loose ?_ ?_ ?_ ?_
    | with_reducible refine rn_loose ?_ ?_ ?_ ?_
    | with_reducible refine rn_loose_sl ?_ ?_ ?_ ?_
    | exact use_lo rfl
    | exact use_own rfl
    | exact nm_k rfl
    | exact nm_lo rfl
    | ((with_reducible refine (id : pos _ = pos _ → _) ?_); exact rfl)
    | ((with_reducible refine (id : pos _ = 0 → _) ?_); exact rfl)
    | ((with_reducible refine (id : Nat.ble _ _ = true → _) ?_); exact rfl)
    | ((with_reducible refine (id : injL _ _ = true → _) ?_); exact rfl)
    | ((with_reducible refine (id : plainC _ = true → _) ?_); exact rfl)
    | ((with_reducible refine (id : hget _ _ = some _ → _) ?_); exact rfl)
    | with_reducible exact (id : (_ : Bool) = true → _ = true)
    | with_reducible exact entl_nil
    | with_reducible refine entl_bor ?_ ?_ ?_ ?_
    | refine entl_new (use_own rfl) (by rfl) ?_ ?_ ?_
    | refine entl_rows (use_own rfl) (by rfl) rfl ?_ (nthc_all ?_) ?_
    | refine entl_zero (use_own rfl) (by rfl) (by simp) (by omega) ?_
    | with_reducible exact rcs_nil
    | with_reducible refine rcs_int (fun j hj => ?_) ?_
    | with_reducible refine rcs_bool (fun j hj => ?_) ?_
    | with_reducible refine rcs_str (fun j hj => ?_) ?_
    | refine entl_fresh (k := 2) (use_own rfl) (fresh_ok (n := 39) rfl) ?_
    | with_reducible rfl
  all_goals try exact (0 : Nat)
  all_goals try ((with_reducible refine (id : injL _ _ = true → _) ?_); exact rfl)
  all_goals first
    | omega
    | skip
theorem c25 (aa na ma : Nat) (ta : NI) (hp : aa + na ≤ ma ∧ na ≤ 1000000) : CallR Try.prog 25 [.loose ⟨0, 1, aa, 0⟩ na] [[(0, (false, .cols ma [.int .i64 ta]))]] 1 (.own 2 1 na) [(2, (true, .cols na [.int .i64 (fun j => ta (j + aa))])) :: [(0, (false, .cols ma [.int .i64 ta]))]] 40 ∧ ∃ F, Try.prog.funcs[25]? = some F ∧ F.body.isSome = true ∧ (F.name == "runtime.NumGoroutine") = false :=
  ⟨loose_cases (fun h => (c25s aa na ma ta hp h).1) (fun h b => by cases b; exact (c25y aa na ma ta hp h).1; exact (c25z aa na ma ta hp h).1), by
    rcases Nat.eq_zero_or_pos na with h | h
    · exact (c25y aa na ma ta hp h).2
    · exact (c25s aa na ma ta hp h).2⟩
theorem k25_ok  : k25.ok Try.prog := by
  intro x hx
  obtain ⟨⟨aa, na, ma, ta, _⟩, _⟩ := x
  have hp : aa + na ≤ ma ∧ na ≤ 1000000 := of_decide_eq_true hx
  obtain ⟨h1, h2⟩ := c25 aa na ma ta hp
  exact ⟨⟨40, (by decide : 1 + 1 + 1 ≤ 40), h1⟩, h2⟩
inductive St46 where
  | h0 (x0 : Int) (x1 : Int)
abbrev Rt46  := Int
noncomputable def V46 (aa na ma : Nat) (ta : NI) (r : Rt46) : PV := PV.int .i64 r
noncomputable def N46 (aa na ma : Nat) (ta : NI) (r : Rt46) : List Blk := []
noncomputable def I46 (aa na ma : Nat) (ta : NI) : St46 → Hd
  | .h0 x0 x1 => ⟨hd Try.f84 0, [PV.loose (PA.mk (0) (1) aa (0)) na, PV.int .i64 x0,
 PV.int .i64 x1], [[], [(0, (false, .cols ma [.int .i64 ta]))]], 1⟩
noncomputable def q46 (aa na ma : Nat) (ta : NI) : St46 → Option (St46 ⊕ Rt46) | .h0 x0 x1 => bif (decide (x1 < (↑na : Int))) then (bif (decide ((0 : Int) ≤ x1 ∧ x1 < (↑na : Int))) then (bif (decide (Int.toNat x1 + aa < ma)) then (bif (lim .i64 (x1 + 1)) then (some (.inl (.h0 (Max.max x0 (ta (Int.toNat x1 + aa))) (x1 + 1)))) else (none)) else (none)) else (none)) else (some (.inr (x0)))
noncomputable def p46 (aa na ma : Nat) (ta : NI) : Option (St46 ⊕ Rt46) := bif (decide ((↑na : Int) < 1)) then (none) else (bif (decide ((0 : Int) ≤ 0 ∧ (0 : Int) < (↑na : Int))) then (bif (decide (0 + aa < ma)) then (some (.inl (.h0 (ta (0 + aa)) ((1 : Int))))) else (none)) else (none))
def Te46 (test : TT) (Kst : KS) (Kret : KR) (aa na ma : Nat) (ta : NI) : Prop := test (decide ((↑na : Int) < 1)) (False) (test (decide ((0 : Int) ≤ 0 ∧ (0 : Int) < (↑na : Int))) (test (decide (0 + aa < ma)) (Kst (hd Try.f84 0) ([PV.loose (PA.mk (0) (1) aa (0)) na, PV.int .i64 (ta (0 + aa)), PV.int .i64 (1 : Int)]) ([[(0, false, Blk.cols ma [Col.int .i64 ta])]]) (1)) (False)) (False))
theorem te46 (test : TT) (Kst : KS) (Kret : KR) (aa na ma : Nat) (ta : NI) : run test Try.env true noX true 400 ⟨84, [.cd (mkFn Try.f84).body], argT 0 [.loose ⟨0, 1, aa, 0⟩ na], [[], [(0, (false, .cols ma [.int .i64 ta]))]], 1⟩ (proj 1 [0, 3, 4] Kst Kret) =
  Te46 test Kst Kret aa na ma ta := by kernel_rfl
def T46_0 (test : TT) (Kst : KS) (Kret : KR) (aa na ma : Nat) (ta : NI) (x0 x1 : Int) : Prop := test (decide (x1 < (↑na : Int))) (test (decide ((0 : Int) ≤ x1 ∧ x1 < (↑na : Int))) (test (decide (Int.toNat x1 + aa < ma)) (test (lim .i64 (x1 + 1)) (Kst (hd Try.f84 0) ([PV.loose (PA.mk (0) (1) aa (0)) na, PV.int .i64 (Max.max x0 (ta (Int.toNat x1 + aa))), PV.int .i64 (x1 + 1)]) ([[(0, false, Blk.cols ma [Col.int .i64 ta])]]) (1)) (False)) (False)) (False)) (Kret (PV.int .i64 x0) ([[(0, false, Blk.cols ma [Col.int .i64 ta])]]) (1))
theorem t46_0 (test : TT) (Kst : KS) (Kret : KR) (aa na ma : Nat) (ta : NI) (x0 x1 : Int) : run test Try.env true noX true 400 ⟨84, hd Try.f84 0, zipT [0, 3, 4] [PV.loose (PA.mk (0) (1) aa (0)) na, PV.int .i64 x0,
 PV.int .i64 x1], [[], [(0, (false, .cols ma [.int .i64 ta]))]], 1⟩ (proj 1 [0, 3, 4] Kst Kret) =
  T46_0 test Kst Kret aa na ma ta x0 x1 := by kernel_rfl
noncomputable abbrev J46 (aa na ma : Nat) (ta : NI) : Rt46 → Heap := fun r => [newL (1 + 1) ((N46 aa na ma ta) r) ++ [(0, (false, .cols ma [.int .i64 ta]))]]
attribute [local irreducible] Int.subNatNat in
theorem be46 (aa na ma : Nat) (ta : NI) (Kst : KS) (Kret : KR) (x : St46 ⊕ Rt46) (hS : HS 1 400 ((I46 aa na ma ta)) Kst x) (hR : HR 1 400 ((V46 aa na ma ta)) (J46 aa na ma ta) Kret x) (h : p46 aa na ma ta = some x) : Te46 cond Kst Kret aa na ma ta := by
  unfold Te46
  unfold p46 at h
  exact bif_split h (fun c0 h => no_some h) (fun c0 h => bif_split h (fun c1 h => bif_split h (fun c2 h => stop_at hS _ h (fun n => n) rfl rfl rfl ⟨(rn_loose (use_lo rfl) rfl rfl rfl), ⟨(rn_int rfl), ⟨(rn_int rfl), trivial⟩⟩⟩ rfl (entl_bor (use_lo rfl) rfl rfl entl_nil)) (fun c2 h => no_some h)) (fun c1 h => no_some h))
attribute [local irreducible] Int.subNatNat in
theorem b46_0 (aa na ma : Nat) (ta : NI) (Kst : KS) (Kret : KR) (x : St46 ⊕ Rt46) (hS : HS 1 400 ((I46 aa na ma ta)) Kst x) (hR : HR 1 400 ((V46 aa na ma ta)) (J46 aa na ma ta) Kret x) (x0 x1 : Int) (h : q46 aa na ma ta (.h0 x0 x1) = some x) : T46_0 cond Kst Kret aa na ma ta x0 x1 := by
  unfold T46_0
  rw [q46] at h
  exact bif_split h (fun c0 h => bif_split h (fun c1 h => bif_split h (fun c2 h => bif_split h (fun c3 h => stop_at hS _ h (fun n => n) rfl rfl rfl ⟨(rn_loose (use_lo rfl) rfl rfl rfl), ⟨(rn_int rfl), ⟨(rn_int rfl), trivial⟩⟩⟩ rfl (entl_bor (use_lo rfl) rfl rfl entl_nil)) (fun c3 h => no_some h)) (fun c2 h => no_some h)) (fun c1 h => no_some h)) (fun c0 h => ret_at hR _ h (fun n => n) rfl rfl rfl (rn_int rfl) rfl (entl_bor (use_lo rfl) rfl rfl entl_nil))
theorem a46 (aa na ma : Nat) (ta : NI) {r : Rt46} (h : Goes ((q46 aa na ma ta)) ((p46 aa na ma ta)) r) : CallR Try.prog 84 [.loose ⟨0, 1, aa, 0⟩ na] [[(0, (false, .cols ma [.int .i64 ta]))]] 1 ((V46 aa na ma ta) r) ((J46 aa na ma ta) r) 400 ∧ ∃ F, Try.prog.funcs[84]? = some F ∧ F.body.isSome = true ∧ (F.name == "runtime.NumGoroutine") = false := by
  refine dec_calls (f := 84) (lo := 1) (hi := 400) (H := [[(0, (false, .cols ma [.int .i64 ta]))]]) (args := [.loose ⟨0, 1, aa, 0⟩ na]) Try.envOk Try.mixed noX_ok ((I46 aa na ma ta)) ((V46 aa na ma ta)) (J46 aa na ma ta) (fn := mkFn Try.f84) (ts := [0, 3, 4]) (n := 400) rfl (by decide) (by simp) (names_of rfl) ?_ ?_ ?_ h
  · intro s; cases s <;> exact ⟨hd_ok _ _, by simp [I46], names_of rfl, Nat.le_of_ble_eq_true rfl⟩
  · intro Kst Kret x hS hR h
    exact Holds.eq (te46 cond Kst Kret aa na ma ta) (be46 aa na ma ta Kst Kret x hS hR h)
  · intro Kst Kret x hS hR s h
    cases s with
    | h0 x0 x1 => exact Holds.eq (t46_0 cond Kst Kret aa na ma ta x0 x1) (b46_0 aa na ma ta Kst Kret x hS hR x0 x1 h)
noncomputable abbrev w46 {α : Type} (g : Nat → Nat → Nat → (Nat → Int) → α) (x : (Nat × Nat × Nat × (Nat → Int) × Unit) × Unit) : α := g x.1.1 x.1.2.1 x.1.2.2.1 x.1.2.2.2.1
noncomputable def k46  : Con := ⟨84, [.one (.list [.int .i64])], w46 (fun aa na ma ta => decide (aa + na ≤ ma ∧ na ≤ 1000000 ∧ 0 < na)), w46 (fun aa na ma ta => (V46 aa na ma ta) (S.maxN (fun j => ta (j + aa)) (na - 1))), w46 (fun aa na ma ta => (N46 aa na ma ta) (S.maxN (fun j => ta (j + aa)) (na - 1))), fun _ _ => .dead⟩
theorem s46' (aa na ma : Nat) (ta : Nat → Int) (hp : aa + na ≤ ma ∧ na ≤ 1000000 ∧ 0 < na) : ∀ k i : Nat, i + 1 + k = na → Comes (q46 aa na ma ta) (.h0 (S.maxN (fun j => ta (j + aa)) i) ((i : Int) + 1)) (S.maxN (fun j => ta (j + aa)) (na - 1)) := by
  obtain ⟨hp1, hp2, hp3⟩ := hp
  intro k
  induction k with
  | zero =>
    intro i hi
    obtain rfl : i = na - 1 := by omega
    apply Comes.of
    show Goes _ _ _
    (first | rw [q46] | unfold q46)
    repeat' (first | with_reducible refine goes_if (fun h => ?_) (fun h => ?_) <;> (try simp only [SH] at h) | exact goes_none.mpr (by omega))
    all_goals first | (exfalso; omega) | rfl
  | succ k ih =>
    intro i hi
    have ih := ih (i + 1) (by omega)
    apply Comes.of
    show Goes _ _ _
    (first | rw [q46] | unfold q46)
    repeat' (first | with_reducible refine goes_if (fun h => ?_) (fun h => ?_) <;> (try simp only [SH] at h) | exact goes_none.mpr (by omega))
    all_goals first | (exfalso; omega) | exact ih
theorem s46 (aa na ma : Nat) (ta : Nat → Int) (hp : aa + na ≤ ma ∧ na ≤ 1000000 ∧ 0 < na) : Goes ((q46 aa na ma ta)) ((p46 aa na ma ta)) (S.maxN (fun j => ta (j + aa)) (na - 1)) := by
  have hm := s46' aa na ma ta hp (na - 1) 0 (by omega)
  obtain ⟨hp1, hp2, hp3⟩ := hp
  show Goes _ _ _
  unfold p46
  repeat' (first | with_reducible refine goes_if (fun h => ?_) (fun h => ?_) <;> (try simp only [SH] at h) | exact goes_none.mpr (by omega))
  all_goals first | (exfalso; omega) | exact hm
theorem k46_ok  : k46.ok Try.prog := by
  intro x hx
  obtain ⟨⟨aa, na, ma, ta, _⟩, _⟩ := x
  obtain ⟨h1, h2⟩ := a46 aa na ma ta (s46 aa na ma ta (of_dec hx rfl))
  exact ⟨⟨400, (by decide : 1 + 1 + 0 ≤ 400), h1⟩, h2⟩
inductive St47 where
  | h0 (x0 : Int) (x1 : Int)
abbrev Rt47  := Int
noncomputable def V47 (aa na ma : Nat) (ta : NI) (r : Rt47) : PV := PV.int .i64 r
noncomputable def N47 (aa na ma : Nat) (ta : NI) (r : Rt47) : List Blk := []
noncomputable def I47 (aa na ma : Nat) (ta : NI) : St47 → Hd
  | .h0 x0 x1 => ⟨hd Try.f85 0, [PV.loose (PA.mk (0) (1) aa (0)) na, PV.int .i64 x0,
 PV.int .i64 x1], [[], [(0, (false, .cols ma [.int .i64 ta]))]], 1⟩
noncomputable def q47 (aa na ma : Nat) (ta : NI) : St47 → Option (St47 ⊕ Rt47) | .h0 x0 x1 => bif (decide (x1 < (↑na : Int))) then (bif (decide ((0 : Int) ≤ x1 ∧ x1 < (↑na : Int))) then (bif (decide (Int.toNat x1 + aa < ma)) then (bif (lim .i64 (x1 + 1)) then (some (.inl (.h0 (Min.min x0 (ta (Int.toNat x1 + aa))) (x1 + 1)))) else (none)) else (none)) else (none)) else (some (.inr (x0)))
noncomputable def p47 (aa na ma : Nat) (ta : NI) : Option (St47 ⊕ Rt47) := bif (decide ((↑na : Int) < 1)) then (none) else (bif (decide ((0 : Int) ≤ 0 ∧ (0 : Int) < (↑na : Int))) then (bif (decide (0 + aa < ma)) then (some (.inl (.h0 (ta (0 + aa)) ((1 : Int))))) else (none)) else (none))
def Te47 (test : TT) (Kst : KS) (Kret : KR) (aa na ma : Nat) (ta : NI) : Prop := test (decide ((↑na : Int) < 1)) (False) (test (decide ((0 : Int) ≤ 0 ∧ (0 : Int) < (↑na : Int))) (test (decide (0 + aa < ma)) (Kst (hd Try.f85 0) ([PV.loose (PA.mk (0) (1) aa (0)) na, PV.int .i64 (ta (0 + aa)), PV.int .i64 (1 : Int)]) ([[(0, false, Blk.cols ma [Col.int .i64 ta])]]) (1)) (False)) (False))
theorem te47 (test : TT) (Kst : KS) (Kret : KR) (aa na ma : Nat) (ta : NI) : run test Try.env true noX true 400 ⟨85, [.cd (mkFn Try.f85).body], argT 0 [.loose ⟨0, 1, aa, 0⟩ na], [[], [(0, (false, .cols ma [.int .i64 ta]))]], 1⟩ (proj 1 [0, 3, 4] Kst Kret) =
  Te47 test Kst Kret aa na ma ta := by kernel_rfl
def T47_0 (test : TT) (Kst : KS) (Kret : KR) (aa na ma : Nat) (ta : NI) (x0 x1 : Int) : Prop := test (decide (x1 < (↑na : Int))) (test (decide ((0 : Int) ≤ x1 ∧ x1 < (↑na : Int))) (test (decide (Int.toNat x1 + aa < ma)) (test (lim .i64 (x1 + 1)) (Kst (hd Try.f85 0) ([PV.loose (PA.mk (0) (1) aa (0)) na, PV.int .i64 (Min.min x0 (ta (Int.toNat x1 + aa))), PV.int .i64 (x1 + 1)]) ([[(0, false, Blk.cols ma [Col.int .i64 ta])]]) (1)) (False)) (False)) (False)) (Kret (PV.int .i64 x0) ([[(0, false, Blk.cols ma [Col.int .i64 ta])]]) (1))
theorem t47_0 (test : TT) (Kst : KS) (Kret : KR) (aa na ma : Nat) (ta : NI) (x0 x1 : Int) : run test Try.env true noX true 400 ⟨85, hd Try.f85 0, zipT [0, 3, 4] [PV.loose (PA.mk (0) (1) aa (0)) na, PV.int .i64 x0,
 PV.int .i64 x1], [[], [(0, (false, .cols ma [.int .i64 ta]))]], 1⟩ (proj 1 [0, 3, 4] Kst Kret) =
  T47_0 test Kst Kret aa na ma ta x0 x1 := by kernel_rfl
noncomputable abbrev J47 (aa na ma : Nat) (ta : NI) : Rt47 → Heap := fun r => [newL (1 + 1) ((N47 aa na ma ta) r) ++ [(0, (false, .cols ma [.int .i64 ta]))]]
attribute [local irreducible] Int.subNatNat in
theorem be47 (aa na ma : Nat) (ta : NI) (Kst : KS) (Kret : KR) (x : St47 ⊕ Rt47) (hS : HS 1 400 ((I47 aa na ma ta)) Kst x) (hR : HR 1 400 ((V47 aa na ma ta)) (J47 aa na ma ta) Kret x) (h : p47 aa na ma ta = some x) : Te47 cond Kst Kret aa na ma ta := by
  unfold Te47
  unfold p47 at h
  exact bif_split h (fun c0 h => no_some h) (fun c0 h => bif_split h (fun c1 h => bif_split h (fun c2 h => stop_at hS _ h (fun n => n) rfl rfl rfl ⟨(rn_loose (use_lo rfl) rfl rfl rfl), ⟨(rn_int rfl), ⟨(rn_int rfl), trivial⟩⟩⟩ rfl (entl_bor (use_lo rfl) rfl rfl entl_nil)) (fun c2 h => no_some h)) (fun c1 h => no_some h))
attribute [local irreducible] Int.subNatNat in
theorem b47_0 (aa na ma : Nat) (ta : NI) (Kst : KS) (Kret : KR) (x : St47 ⊕ Rt47) (hS : HS 1 400 ((I47 aa na ma ta)) Kst x) (hR : HR 1 400 ((V47 aa na ma ta)) (J47 aa na ma ta) Kret x) (x0 x1 : Int) (h : q47 aa na ma ta (.h0 x0 x1) = some x) : T47_0 cond Kst Kret aa na ma ta x0 x1 := by
  unfold T47_0
  rw [q47] at h
  exact bif_split h (fun c0 h => bif_split h (fun c1 h => bif_split h (fun c2 h => bif_split h (fun c3 h => stop_at hS _ h (fun n => n) rfl rfl rfl ⟨(rn_loose (use_lo rfl) rfl rfl rfl), ⟨(rn_int rfl), ⟨(rn_int rfl), trivial⟩⟩⟩ rfl (entl_bor (use_lo rfl) rfl rfl entl_nil)) (fun c3 h => no_some h)) (fun c2 h => no_some h)) (fun c1 h => no_some h)) (fun c0 h => ret_at hR _ h (fun n => n) rfl rfl rfl (rn_int rfl) rfl (entl_bor (use_lo rfl) rfl rfl entl_nil))
theorem a47 (aa na ma : Nat) (ta : NI) {r : Rt47} (h : Goes ((q47 aa na ma ta)) ((p47 aa na ma ta)) r) : CallR Try.prog 85 [.loose ⟨0, 1, aa, 0⟩ na] [[(0, (false, .cols ma [.int .i64 ta]))]] 1 ((V47 aa na ma ta) r) ((J47 aa na ma ta) r) 400 ∧ ∃ F, Try.prog.funcs[85]? = some F ∧ F.body.isSome = true ∧ (F.name == "runtime.NumGoroutine") = false := by
  refine dec_calls (f := 85) (lo := 1) (hi := 400) (H := [[(0, (false, .cols ma [.int .i64 ta]))]]) (args := [.loose ⟨0, 1, aa, 0⟩ na]) Try.envOk Try.mixed noX_ok ((I47 aa na ma ta)) ((V47 aa na ma ta)) (J47 aa na ma ta) (fn := mkFn Try.f85) (ts := [0, 3, 4]) (n := 400) rfl (by decide) (by simp) (names_of rfl) ?_ ?_ ?_ h
  · intro s; cases s <;> exact ⟨hd_ok _ _, by simp [I47], names_of rfl, Nat.le_of_ble_eq_true rfl⟩
  · intro Kst Kret x hS hR h
    exact Holds.eq (te47 cond Kst Kret aa na ma ta) (be47 aa na ma ta Kst Kret x hS hR h)
  · intro Kst Kret x hS hR s h
    cases s with
    | h0 x0 x1 => exact Holds.eq (t47_0 cond Kst Kret aa na ma ta x0 x1) (b47_0 aa na ma ta Kst Kret x hS hR x0 x1 h)
noncomputable abbrev w47 {α : Type} (g : Nat → Nat → Nat → (Nat → Int) → α) (x : (Nat × Nat × Nat × (Nat → Int) × Unit) × Unit) : α := g x.1.1 x.1.2.1 x.1.2.2.1 x.1.2.2.2.1
noncomputable def k47  : Con := ⟨85, [.one (.list [.int .i64])], w47 (fun aa na ma ta => decide (aa + na ≤ ma ∧ na ≤ 1000000 ∧ 0 < na)), w47 (fun aa na ma ta => (V47 aa na ma ta) (S.minN (fun j => ta (j + aa)) (na - 1))), w47 (fun aa na ma ta => (N47 aa na ma ta) (S.minN (fun j => ta (j + aa)) (na - 1))), fun _ _ => .dead⟩
theorem s47' (aa na ma : Nat) (ta : Nat → Int) (hp : aa + na ≤ ma ∧ na ≤ 1000000 ∧ 0 < na) : ∀ k i : Nat, i + 1 + k = na → Comes (q47 aa na ma ta) (.h0 (S.minN (fun j => ta (j + aa)) i) ((i : Int) + 1)) (S.minN (fun j => ta (j + aa)) (na - 1)) := by
  obtain ⟨hp1, hp2, hp3⟩ := hp
  intro k
  induction k with
  | zero =>
    intro i hi
    obtain rfl : i = na - 1 := by omega
    apply Comes.of
    show Goes _ _ _
    (first | rw [q47] | unfold q47)
    repeat' (first | with_reducible refine goes_if (fun h => ?_) (fun h => ?_) <;> (try simp only [SH] at h) | exact goes_none.mpr (by omega))
    all_goals first | (exfalso; omega) | rfl
  | succ k ih =>
    intro i hi
    have ih := ih (i + 1) (by omega)
    apply Comes.of
    show Goes _ _ _
    (first | rw [q47] | unfold q47)
    repeat' (first | with_reducible refine goes_if (fun h => ?_) (fun h => ?_) <;> (try simp only [SH] at h) | exact goes_none.mpr (by omega))
    all_goals first | (exfalso; omega) | exact ih
theorem s47 (aa na ma : Nat) (ta : Nat → Int) (hp : aa + na ≤ ma ∧ na ≤ 1000000 ∧ 0 < na) : Goes ((q47 aa na ma ta)) ((p47 aa na ma ta)) (S.minN (fun j => ta (j + aa)) (na - 1)) := by
  have hm := s47' aa na ma ta hp (na - 1) 0 (by omega)
  obtain ⟨hp1, hp2, hp3⟩ := hp
  show Goes _ _ _
  unfold p47
  repeat' (first | with_reducible refine goes_if (fun h => ?_) (fun h => ?_) <;> (try simp only [SH] at h) | exact goes_none.mpr (by omega))
  all_goals first | (exfalso; omega) | exact hm
theorem k47_ok  : k47.ok Try.prog := by
  intro x hx
  obtain ⟨⟨aa, na, ma, ta, _⟩, _⟩ := x
  obtain ⟨h1, h2⟩ := a47 aa na ma ta (s47 aa na ma ta (of_dec hx rfl))
  exact ⟨⟨400, (by decide : 1 + 1 + 0 ≤ 400), h1⟩, h2⟩
namespace S
def curE (e : Int) (t : Nat → Int) : Nat → Nat → Int
  | _, 0 => e
  | i, k + 1 => if -1099511627776 ≤ t i ∧ t i ≤ 1099511627776 then (if 0 < i ∧ t i = t (i - 1) then 12 else curE e t (i + 1) k) else 6
def cyE (cn : ByteArray) (n : Nat) (t : Nat → Int) (rp fl : Int) : Int := if isNam cn = true then (if n < 2 then 7 else if 20 < n then 3 else curE (if (1 ≤ rp ∧ rp ≤ 9) ∧ -1099511627776 ≤ fl ∧ fl ≤ 1099511627776 then (if fl = t (n - 1) then 12 else 0) else 6) t 0 n) else 2
def stpL (n : Nat) (t : Nat → Int) (rp fl : Int) : List Int := snoc (mkl (n * rp.toNat) fun j => t (j % n)) fl
def stpS (e : Int) (n : Nat) (t : Nat → Int) (rp fl : Int) : Int × List Int := if e = 0 then (0, stpL n t rp fl) else (e, [])
def setE (n : Nat) (t : Nat → Int) : Int := if 500 < n then 3 else if all (fun j => decide (-1099511627776 ≤ t j ∧ t j ≤ 1099511627776)) n = true then 0 else 6
end S
theorem curE_ok  {e : Int} {t : Nat → Int} : ∀ {k i : Nat}, S.curE e t i k = 0 → e = 0 ∧ ∀ j, i ≤ j → j < i + k → (-1099511627776 ≤ t j ∧ t j ≤ 1099511627776) ∧ (0 < j → t j ≠ t (j - 1))
  | 0, i, h => ⟨h, fun j h1 h2 => by omega⟩
  | k + 1, i, h => by
    simp only [S.curE] at h
    split at h
    · split at h
      · cases h
      · rename_i h1 h3
        obtain ⟨q1, q2⟩ := curE_ok h
        refine ⟨q1, fun j h2 h4 => ?_⟩
        rcases Nat.lt_or_ge i j with h5 | h5
        · exact q2 j h5 (by omega)
        · obtain rfl : j = i := by omega
          exact ⟨h1, fun h6 h7 => h3 ⟨h6, h7⟩⟩
    · cases h
theorem cy_ok  {cn : ByteArray} {n : Nat} {t : Nat → Int} {rp fl : Int} (h : S.cyE cn n t rp fl = 0) : (2 ≤ n ∧ n ≤ 20) ∧ (1 ≤ rp ∧ rp ≤ 9) ∧ (-1099511627776 ≤ fl ∧ fl ≤ 1099511627776) ∧ fl ≠ t (n - 1) ∧ ∀ j, j < n → (-1099511627776 ≤ t j ∧ t j ≤ 1099511627776) ∧ (0 < j → t j ≠ t (j - 1)) := by
  unfold S.cyE at h
  split at h
  · split at h
    · cases h
    · split at h
      · cases h
      · obtain ⟨q1, q2⟩ := curE_ok h
        split at q1
        · rename_i q3
          split at q1
          · cases q1
          · rename_i q4
            exact ⟨by omega, q3.1, q3.2, q4, fun j hj => q2 j (Nat.zero_le _) (by omega)⟩
        · cases q1
  · cases h
theorem stp_len  {n : Nat} {t : Nat → Int} {rp fl : Int} : (S.stpL n t rp fl).length = n * rp.toNat + 1 := by unfold S.stpL; rw [snoc_len, mkl_len]
theorem mul_bd  {n : Nat} {rp : Int} (h1 : n ≤ 20) (h2 : rp ≤ 9) : n * rp.toNat ≤ 180 := by
  have : n * rp.toNat ≤ 20 * 9 := Nat.mul_le_mul h1 (by omega)
  omega
theorem limu64  {n : Int} : lim .u64 n = decide (0 ≤ n ∧ n ≤ 18446744073709551615) := rfl
theorem shr32  {x : Int} (h : 0 ≤ x ∧ x < 4294967296) : S.shrB .u64 x 32 = 0 := by
  show Int.fdiv x (2 ^ (min (32 : Int).toNat 64)) = 0
  have e : (2 : Int) ^ (min (32 : Int).toNat 64) = 4294967296 := by decide
  rw [e, Int.fdiv_eq_ediv_of_nonneg _ (by decide)]
  omega
theorem and32  {x : Int} (h : 0 ≤ x ∧ x < 4294967296) : S.andB .u64 x 4294967295 = x := by
  obtain ⟨n, rfl⟩ := Int.eq_ofNat_of_zero_le h.1
  show IntKind.wrap .u64 (((BitVec.ofInt 64 (n : Int) &&& BitVec.ofInt 64 4294967295).toNat : Nat) : Int) = n
  have e1 : (BitVec.ofInt 64 (n : Int)).toNat = n := by
    rw [BitVec.toNat_ofInt]; omega
  have e2 : (BitVec.ofInt 64 4294967295).toNat = 2 ^ 32 - 1 := by decide
  rw [BitVec.toNat_and, e1, e2, Nat.and_two_pow_sub_one_eq_mod]
  have e3 : n % 2 ^ 32 = n := Nat.mod_eq_of_lt (by omega)
  rw [e3]
  exact u64_in n (by omega)
inductive St155 where
  | h0 (x0 : Int) (x1 : List Int)
abbrev Rt155  := List Int
noncomputable def V155 (al nl ml : Nat) (tl : NI) (ct : Int) (r : Rt155) : PV := PV.own (2) (1) (List.length r)
noncomputable def N155 (al nl ml : Nat) (tl : NI) (ct : Int) (r : Rt155) : List Blk := [Blk.cols (List.length r) [Col.int .i64 fun j => S.at' r j]]
noncomputable def I155 (al nl ml : Nat) (tl : NI) (ct : Int) : St155 → Hd
  | .h0 x0 x1 => ⟨hd Try.f55 0, [PV.own (1) (1) (List.length x1), PV.int .i64 x0], [[(1, (true, Blk.cols (List.length x1) [Col.int .i64 fun j => S.at' x1 j]))], [(0, (false, .cols ml [.int .i64 tl]))]], 2⟩
noncomputable def q155 (al nl ml : Nat) (tl : NI) (ct : Int) : St155 → Option (St155 ⊕ Rt155) | .h0 x0 x1 => bif (decide (x0 < (↑(List.length x1) : Int))) then (bif (decide ((0 : Int) ≤ x0 ∧ x0 ≤ (↑(List.length x1) : Int) ∧ (↑(List.length x1) : Int) ≤ (↑(List.length x1) : Int))) then (bif (decide ((0 : Int) ≤ x0 ∧ x0 ≤ (↑(List.length x1) : Int))) then (bif (decide (Int.toNat x0 + Min.min (List.length x1 - Int.toNat x0) (Int.toNat x0) ≤ List.length x1)) then (bif (decide (0 + Int.toNat x0 ≤ List.length x1)) then (bif (lim .i64 (x0 + (↑(Min.min (List.length x1 - Int.toNat x0) (Int.toNat x0)) : Int))) then (some (.inl (.h0 (x0 + (↑(Min.min (List.length x1 - Int.toNat x0) (Int.toNat x0)) : Int)) (S.mkl (List.length x1) fun j => bif Nat.ble (Int.toNat x0) j then bif Nat.blt j (Int.toNat x0 + Min.min (List.length x1 - Int.toNat x0) (Int.toNat x0)) then S.at' x1 (j - Int.toNat x0) else S.at' x1 j else S.at' x1 j)))) else (none)) else (none)) else (none)) else (none)) else (none)) else (some (.inr (x1)))
noncomputable def p155 (al nl ml : Nat) (tl : NI) (ct : Int) : Option (St155 ⊕ Rt155) := bif (decide (ct < 0)) then (none) else (bif (lim .u64 (S.andB .u64 (IntKind.wrap .u64 (↑nl : Int)) (4294967295 : Int) * S.andB .u64 (IntKind.wrap .u64 ct) (4294967295 : Int))) then (bif (lim .u64 (S.shrB .u64 (IntKind.wrap .u64 (↑nl : Int)) (32 : Int) * S.andB .u64 (IntKind.wrap .u64 ct) (4294967295 : Int))) then (bif (lim .u64 (S.shrB .u64 (IntKind.wrap .u64 (↑nl : Int)) (32 : Int) * S.andB .u64 (IntKind.wrap .u64 ct) (4294967295 : Int) + S.shrB .u64 (S.andB .u64 (IntKind.wrap .u64 (↑nl : Int)) (4294967295 : Int) * S.andB .u64 (IntKind.wrap .u64 ct) (4294967295 : Int)) (32 : Int))) then (bif (lim .u64 (S.andB .u64 (IntKind.wrap .u64 (↑nl : Int)) (4294967295 : Int) * S.shrB .u64 (IntKind.wrap .u64 ct) (32 : Int))) then (bif (lim .u64 (S.andB .u64 (S.shrB .u64 (IntKind.wrap .u64 (↑nl : Int)) (32 : Int) * S.andB .u64 (IntKind.wrap .u64 ct) (4294967295 : Int) + S.shrB .u64 (S.andB .u64 (IntKind.wrap .u64 (↑nl : Int)) (4294967295 : Int) * S.andB .u64 (IntKind.wrap .u64 ct) (4294967295 : Int)) (32 : Int)) (4294967295 : Int) + S.andB .u64 (IntKind.wrap .u64 (↑nl : Int)) (4294967295 : Int) * S.shrB .u64 (IntKind.wrap .u64 ct) (32 : Int))) then (bif (lim .u64 (S.shrB .u64 (IntKind.wrap .u64 (↑nl : Int)) (32 : Int) * S.shrB .u64 (IntKind.wrap .u64 ct) (32 : Int))) then (bif (lim .u64 (S.shrB .u64 (IntKind.wrap .u64 (↑nl : Int)) (32 : Int) * S.shrB .u64 (IntKind.wrap .u64 ct) (32 : Int) + S.shrB .u64 (S.shrB .u64 (IntKind.wrap .u64 (↑nl : Int)) (32 : Int) * S.andB .u64 (IntKind.wrap .u64 ct) (4294967295 : Int) + S.shrB .u64 (S.andB .u64 (IntKind.wrap .u64 (↑nl : Int)) (4294967295 : Int) * S.andB .u64 (IntKind.wrap .u64 ct) (4294967295 : Int)) (32 : Int)) (32 : Int))) then (bif (lim .u64 (S.shrB .u64 (IntKind.wrap .u64 (↑nl : Int)) (32 : Int) * S.shrB .u64 (IntKind.wrap .u64 ct) (32 : Int) + S.shrB .u64 (S.shrB .u64 (IntKind.wrap .u64 (↑nl : Int)) (32 : Int) * S.andB .u64 (IntKind.wrap .u64 ct) (4294967295 : Int) + S.shrB .u64 (S.andB .u64 (IntKind.wrap .u64 (↑nl : Int)) (4294967295 : Int) * S.andB .u64 (IntKind.wrap .u64 ct) (4294967295 : Int)) (32 : Int)) (32 : Int) + S.shrB .u64 (S.andB .u64 (S.shrB .u64 (IntKind.wrap .u64 (↑nl : Int)) (32 : Int) * S.andB .u64 (IntKind.wrap .u64 ct) (4294967295 : Int) + S.shrB .u64 (S.andB .u64 (IntKind.wrap .u64 (↑nl : Int)) (4294967295 : Int) * S.andB .u64 (IntKind.wrap .u64 ct) (4294967295 : Int)) (32 : Int)) (4294967295 : Int) + S.andB .u64 (IntKind.wrap .u64 (↑nl : Int)) (4294967295 : Int) * S.shrB .u64 (IntKind.wrap .u64 ct) (32 : Int)) (32 : Int))) then (bif (lim .u64 (IntKind.wrap .u64 (↑nl : Int) * IntKind.wrap .u64 ct)) then (bif (decide (S.shrB .u64 (IntKind.wrap .u64 (↑nl : Int)) (32 : Int) * S.shrB .u64 (IntKind.wrap .u64 ct) (32 : Int) + S.shrB .u64 (S.shrB .u64 (IntKind.wrap .u64 (↑nl : Int)) (32 : Int) * S.andB .u64 (IntKind.wrap .u64 ct) (4294967295 : Int) + S.shrB .u64 (S.andB .u64 (IntKind.wrap .u64 (↑nl : Int)) (4294967295 : Int) * S.andB .u64 (IntKind.wrap .u64 ct) (4294967295 : Int)) (32 : Int)) (32 : Int) + S.shrB .u64 (S.andB .u64 (S.shrB .u64 (IntKind.wrap .u64 (↑nl : Int)) (32 : Int) * S.andB .u64 (IntKind.wrap .u64 ct) (4294967295 : Int) + S.shrB .u64 (S.andB .u64 (IntKind.wrap .u64 (↑nl : Int)) (4294967295 : Int) * S.andB .u64 (IntKind.wrap .u64 ct) (4294967295 : Int)) (32 : Int)) (4294967295 : Int) + S.andB .u64 (IntKind.wrap .u64 (↑nl : Int)) (4294967295 : Int) * S.shrB .u64 (IntKind.wrap .u64 ct) (32 : Int)) (32 : Int) > 0)) then (none) else (bif (decide (IntKind.wrap .u64 (↑nl : Int) * IntKind.wrap .u64 ct > 9223372036854775807)) then (none) else (bif (decide ((0 : Int) ≤ IntKind.wrap .i64 (IntKind.wrap .u64 (↑nl : Int) * IntKind.wrap .u64 ct) ∧ IntKind.wrap .i64 (IntKind.wrap .u64 (↑nl : Int) * IntKind.wrap .u64 ct) ≤ IntKind.wrap .i64 (IntKind.wrap .u64 (↑nl : Int) * IntKind.wrap .u64 ct) ∧ IntKind.wrap .i64 (IntKind.wrap .u64 (↑nl : Int) * IntKind.wrap .u64 ct) ≤ 1000000)) then (bif (decide (0 + Min.min (Int.toNat (IntKind.wrap .i64 (IntKind.wrap .u64 (↑nl : Int) * IntKind.wrap .u64 ct))) nl ≤ Int.toNat (IntKind.wrap .i64 (IntKind.wrap .u64 (↑nl : Int) * IntKind.wrap .u64 ct)))) then (bif (decide (al + nl ≤ ml)) then (some (.inl (.h0 ((↑(Min.min (Int.toNat (IntKind.wrap .i64 (IntKind.wrap .u64 (↑nl : Int) * IntKind.wrap .u64 ct))) nl) : Int)) (S.mkl (Int.toNat (IntKind.wrap .i64 (IntKind.wrap .u64 (↑nl : Int) * IntKind.wrap .u64 ct))) fun j => bif Nat.ble (0) j then bif Nat.blt j (0 + Min.min (Int.toNat (IntKind.wrap .i64 (IntKind.wrap .u64 (↑nl : Int) * IntKind.wrap .u64 ct))) nl) then tl (j + al) else (0 : Int) else (0 : Int))))) else (none)) else (none)) else (none)))) else (none)) else (none)) else (none)) else (none)) else (none)) else (none)) else (none)) else (none)) else (none))
noncomputable abbrev u155_e_0 (nl : Nat) (ct : Int) := S.shrB IntKind.u64 (IntKind.wrap IntKind.u64 (↑nl : Int)) (32 : Int) * S.andB IntKind.u64 (IntKind.wrap IntKind.u64 ct) (4294967295 : Int) + S.shrB IntKind.u64 (S.andB IntKind.u64 (IntKind.wrap IntKind.u64 (↑nl : Int)) (4294967295 : Int) * S.andB IntKind.u64 (IntKind.wrap IntKind.u64 ct) (4294967295 : Int)) (32 : Int)
noncomputable abbrev u155_e_1 (nl : Nat) (ct : Int) := IntKind.wrap IntKind.u64 (↑nl : Int) * IntKind.wrap IntKind.u64 ct
noncomputable abbrev u155_e_2 (nl : Nat) (ct : Int) := S.andB IntKind.u64 (u155_e_0 nl ct) (4294967295 : Int) + S.andB IntKind.u64 (IntKind.wrap IntKind.u64 (↑nl : Int)) (4294967295 : Int) * S.shrB IntKind.u64 (IntKind.wrap IntKind.u64 ct) (32 : Int)
def Te155 (test : TT) (Kst : KS) (Kret : KR) (al nl ml : Nat) (tl : NI) (ct : Int) : Prop := test (decide (ct < 0)) (False) (test (false) (False) (test (false) (False) (test (lim .u64 (S.andB .u64 (IntKind.wrap .u64 (↑nl : Int)) (4294967295 : Int) * S.andB .u64 (IntKind.wrap .u64 ct) (4294967295 : Int))) (test (lim .u64 (S.shrB .u64 (IntKind.wrap .u64 (↑nl : Int)) (32 : Int) * S.andB .u64 (IntKind.wrap .u64 ct) (4294967295 : Int))) (test (false) (False) (test (lim .u64 (u155_e_0 nl ct)) (test (false) (False) (test (lim .u64 (S.andB .u64 (IntKind.wrap .u64 (↑nl : Int)) (4294967295 : Int) * S.shrB .u64 (IntKind.wrap .u64 ct) (32 : Int))) (test (lim .u64 (u155_e_2 nl ct)) (test (lim .u64 (S.shrB .u64 (IntKind.wrap .u64 (↑nl : Int)) (32 : Int) * S.shrB .u64 (IntKind.wrap .u64 ct) (32 : Int))) (test (lim .u64 (S.shrB .u64 (IntKind.wrap .u64 (↑nl : Int)) (32 : Int) * S.shrB .u64 (IntKind.wrap .u64 ct) (32 : Int) + S.shrB .u64 (u155_e_0 nl ct) (32 : Int))) (test (false) (False) (test (lim .u64 (S.shrB .u64 (IntKind.wrap .u64 (↑nl : Int)) (32 : Int) * S.shrB .u64 (IntKind.wrap .u64 ct) (32 : Int) + S.shrB .u64 (u155_e_0 nl ct) (32 : Int) + S.shrB .u64 (u155_e_2 nl ct) (32 : Int))) (test (lim .u64 (u155_e_1 nl ct)) (test (decide (S.shrB .u64 (IntKind.wrap .u64 (↑nl : Int)) (32 : Int) * S.shrB .u64 (IntKind.wrap .u64 ct) (32 : Int) + S.shrB .u64 (u155_e_0 nl ct) (32 : Int) + S.shrB .u64 (u155_e_2 nl ct) (32 : Int) > 0)) (False) (test (decide (IntKind.wrap .u64 (↑nl : Int) * IntKind.wrap .u64 ct > 9223372036854775807)) (False) (test (decide ((0 : Int) ≤ IntKind.wrap .i64 (u155_e_1 nl ct) ∧ IntKind.wrap .i64 (u155_e_1 nl ct) ≤ IntKind.wrap .i64 (u155_e_1 nl ct) ∧ IntKind.wrap .i64 (u155_e_1 nl ct) ≤ 1000000)) (test (decide (0 + Min.min (Int.toNat (IntKind.wrap .i64 (u155_e_1 nl ct))) nl ≤ Int.toNat (IntKind.wrap .i64 (u155_e_1 nl ct)))) (test (decide (al + nl ≤ ml)) (Kst (hd Try.f55 0) ([PV.own (1) (1) (Int.toNat (IntKind.wrap .i64 (u155_e_1 nl ct))), PV.int .i64 (↑(Min.min (Int.toNat (IntKind.wrap .i64 (u155_e_1 nl ct))) nl) : Int)]) ([[(0, false, Blk.cols ml [Col.int .i64 tl]), (1, true, Blk.cols (Int.toNat (IntKind.wrap .i64 (u155_e_1 nl ct))) [Col.int .i64 fun j => bif Nat.ble (0) j then bif Nat.blt j (0 + Min.min (Int.toNat (IntKind.wrap .i64 (u155_e_1 nl ct))) nl) then tl (j + al) else (0 : Int) else (0 : Int)])]]) (2)) (False)) (False)) (False)))) (False)) (False))) (False)) (False)) (False)) (False))) (False))) (False)) (False))))
theorem te155 (test : TT) (Kst : KS) (Kret : KR) (al nl ml : Nat) (tl : NI) (ct : Int) : run test Try.env true noX true 400 ⟨55, [.cd (mkFn Try.f55).body], argT 0 [.loose ⟨0, 1, al, 0⟩ nl, .int .i64 ct], [[], [(0, (false, .cols ml [.int .i64 tl]))]], 1⟩ (proj 1 [7, 8] Kst Kret) =
  Te155 test Kst Kret al nl ml tl ct := by kernel_rfl
def T155_0 (test : TT) (Kst : KS) (Kret : KR) (al nl ml : Nat) (tl : NI) (ct x0 : Int) (x1 : List Int) : Prop := test (decide (x0 < (↑(List.length x1) : Int))) (test (decide ((0 : Int) ≤ x0 ∧ x0 ≤ (↑(List.length x1) : Int) ∧ (↑(List.length x1) : Int) ≤ (↑(List.length x1) : Int))) (test (decide ((0 : Int) ≤ x0 ∧ x0 ≤ (↑(List.length x1) : Int))) (test (decide (Int.toNat x0 + Min.min (List.length x1 - Int.toNat x0) (Int.toNat x0) ≤ List.length x1)) (test (decide (0 + Int.toNat x0 ≤ List.length x1)) (test (lim .i64 (x0 + (↑(Min.min (List.length x1 - Int.toNat x0) (Int.toNat x0)) : Int))) (Kst (hd Try.f55 0) ([PV.own (1) (1) (List.length x1), PV.int .i64 (x0 + (↑(Min.min (List.length x1 - Int.toNat x0) (Int.toNat x0)) : Int))]) ([[(0, false, Blk.cols ml [Col.int .i64 tl]), (1, true, Blk.cols (List.length x1) [Col.int .i64 fun j => bif Nat.ble (Int.toNat x0) j then bif Nat.blt j (Int.toNat x0 + Min.min (List.length x1 - Int.toNat x0) (Int.toNat x0)) then S.at' x1 (j - Int.toNat x0) else S.at' x1 j else S.at' x1 j])]]) (2)) (False)) (False)) (False)) (False)) (False)) (Kret (PV.own (1) (1) (List.length x1)) ([[(0, false, Blk.cols ml [Col.int .i64 tl]), (1, true, Blk.cols (List.length x1) [Col.int .i64 fun j => S.at' x1 j])]]) (2))
theorem t155_0 (test : TT) (Kst : KS) (Kret : KR) (al nl ml : Nat) (tl : NI) (ct x0 : Int) (x1 : List Int) : run test Try.env true noX true 400 ⟨55, hd Try.f55 0, zipT [7, 8] [PV.own (1) (1) (List.length x1), PV.int .i64 x0], [[(1, (true, Blk.cols (List.length x1) [Col.int .i64 fun j => S.at' x1 j]))], [(0, (false, .cols ml [.int .i64 tl]))]], 2⟩ (proj 1 [7, 8] Kst Kret) =
  T155_0 test Kst Kret al nl ml tl ct x0 x1 := by kernel_rfl
noncomputable abbrev J155 (al nl ml : Nat) (tl : NI) (ct : Int) : Rt155 → Heap := fun r => [newL (1 + 1) ((N155 al nl ml tl ct) r) ++ [(0, (false, .cols ml [.int .i64 tl]))]]
attribute [local irreducible] Int.subNatNat in
theorem be155 (al nl ml : Nat) (tl : NI) (ct : Int) (Kst : KS) (Kret : KR) (x : St155 ⊕ Rt155) (hS : HS 1 400 ((I155 al nl ml tl ct)) Kst x) (hR : HR 1 400 ((V155 al nl ml tl ct)) (J155 al nl ml tl ct) Kret x) (h : p155 al nl ml tl ct = some x) : Te155 cond Kst Kret al nl ml tl ct := by
  unfold Te155
  unfold p155 at h
  exact bif_split h (fun c0 h => no_some h) (fun c0 h => cond_no rfl (cond_no rfl (bif_split h (fun c1 h => bif_split h (fun c2 h => cond_no rfl (bif_split h (fun c3 h => cond_no rfl (bif_split h (fun c4 h => bif_split h (fun c5 h => bif_split h (fun c6 h => bif_split h (fun c7 h => cond_no rfl (bif_split h (fun c8 h => bif_split h (fun c9 h => bif_split h (fun c10 h => no_some h) (fun c10 h => bif_split h (fun c11 h => no_some h) (fun c11 h => bif_split h (fun c12 h => bif_split h (fun c13 h => bif_split h (fun c14 h => stop_at hS _ h (fun n => bif Nat.beq n 1 then 1 else n) rfl rfl rfl ⟨(rn_own (use_own rfl) rfl mkl_len), ⟨(rn_int rfl), trivial⟩⟩ rfl (entl_new (use_own rfl) rfl (Nat.le_of_eq mkl_len) (rcs_int (fun _ hj => col_mkl (fun (t : Int) => t) hj) rcs_nil) (entl_bor (use_lo rfl) rfl rfl entl_nil))) (fun c14 h => no_some h)) (fun c13 h => no_some h)) (fun c12 h => no_some h)))) (fun c9 h => no_some h)) (fun c8 h => no_some h))) (fun c7 h => no_some h)) (fun c6 h => no_some h)) (fun c5 h => no_some h)) (fun c4 h => no_some h))) (fun c3 h => no_some h))) (fun c2 h => no_some h)) (fun c1 h => no_some h))))
attribute [local irreducible] Int.subNatNat in
theorem b155_0 (al nl ml : Nat) (tl : NI) (ct : Int) (Kst : KS) (Kret : KR) (x : St155 ⊕ Rt155) (hS : HS 1 400 ((I155 al nl ml tl ct)) Kst x) (hR : HR 1 400 ((V155 al nl ml tl ct)) (J155 al nl ml tl ct) Kret x) (x0 : Int) (x1 : List Int) (h : q155 al nl ml tl ct (.h0 x0 x1) = some x) : T155_0 cond Kst Kret al nl ml tl ct x0 x1 := by
  unfold T155_0
  rw [q155] at h
  exact bif_split h (fun c0 h => bif_split h (fun c1 h => bif_split h (fun c2 h => bif_split h (fun c3 h => bif_split h (fun c4 h => bif_split h (fun c5 h => stop_at hS _ h (fun n => bif Nat.beq n 1 then 1 else n) rfl rfl rfl ⟨(rn_own (use_own rfl) rfl mkl_len), ⟨(rn_int rfl), trivial⟩⟩ rfl (entl_new (use_own rfl) rfl (Nat.le_of_eq mkl_len) (rcs_int (fun _ hj => col_mkl (fun (t : Int) => t) hj) rcs_nil) (entl_bor (use_lo rfl) rfl rfl entl_nil))) (fun c5 h => no_some h)) (fun c4 h => no_some h)) (fun c3 h => no_some h)) (fun c2 h => no_some h)) (fun c1 h => no_some h)) (fun c0 h => ret_at hR _ h (fun n => bif Nat.beq n 2 then 1 else n) rfl rfl rfl (rn_own (use_own rfl) rfl rfl) rfl (entl_new (use_own rfl) rfl (Nat.le_of_eq rfl) (rcs_int (fun _ _ => rfl) rcs_nil) (entl_bor (use_lo rfl) rfl rfl entl_nil)))
theorem a155 (al nl ml : Nat) (tl : NI) (ct : Int) {r : Rt155} (h : Goes ((q155 al nl ml tl ct)) ((p155 al nl ml tl ct)) r) : CallR Try.prog 55 [.loose ⟨0, 1, al, 0⟩ nl, .int .i64 ct] [[(0, (false, .cols ml [.int .i64 tl]))]] 1 ((V155 al nl ml tl ct) r) ((J155 al nl ml tl ct) r) 400 ∧ ∃ F, Try.prog.funcs[55]? = some F ∧ F.body.isSome = true ∧ (F.name == "runtime.NumGoroutine") = false := by
  refine dec_calls (f := 55) (lo := 1) (hi := 400) (H := [[(0, (false, .cols ml [.int .i64 tl]))]]) (args := [.loose ⟨0, 1, al, 0⟩ nl, .int .i64 ct]) Try.envOk Try.mixed noX_ok ((I155 al nl ml tl ct)) ((V155 al nl ml tl ct)) (J155 al nl ml tl ct) (fn := mkFn Try.f55) (ts := [7, 8]) (n := 400) rfl (by decide) (by simp) (names_of rfl) ?_ ?_ ?_ h
  · intro s; cases s <;> exact ⟨hd_ok _ _, by simp [I155], names_of rfl, Nat.le_of_ble_eq_true rfl⟩
  · intro Kst Kret x hS hR h
    exact Holds.eq (te155 cond Kst Kret al nl ml tl ct) (be155 al nl ml tl ct Kst Kret x hS hR h)
  · intro Kst Kret x hS hR s h
    cases s with
    | h0 x0 x1 => exact Holds.eq (t155_0 cond Kst Kret al nl ml tl ct x0 x1) (b155_0 al nl ml tl ct Kst Kret x hS hR x0 x1 h)
noncomputable abbrev w155 {α : Type} (g : Nat → Nat → Nat → (Nat → Int) → Int → α) (x : (Nat × Nat × Nat × (Nat → Int) × Unit) × Int × Unit) : α := g x.1.1 x.1.2.1 x.1.2.2.1 x.1.2.2.2.1 x.2.1
noncomputable def k155  : Con := ⟨55, [.one (.list [.int .i64]), .one (.plain (.int .i64))], w155 (fun al nl ml tl ct => decide ((al + nl ≤ ml ∧ nl ≤ 1000) ∧ 0 ≤ ct ∧ ct ≤ 1000)), w155 (fun al nl ml tl ct => (V155 al nl ml tl ct) (S.mkl (nl * ct.toNat) fun j => tl ((j % nl) + al))), w155 (fun al nl ml tl ct => (N155 al nl ml tl ct) (S.mkl (nl * ct.toNat) fun j => tl ((j % nl) + al))), fun _ _ => .dead⟩
theorem s155' (al nl ml : Nat) (tl : Nat → Int) (ct : Int) (c : Nat) (hT : nl * c ≤ 1000000) (h0 : 0 < nl) : ∀ (k d : Nat) (L : List Int), d + k = nl * c → 0 < d → (d % nl = 0 ∨ d = nl * c) → Holds (L = S.mkl (nl * c) (fun j => if j < d then tl ((j % nl) + al) else 0)) → Comes (q155 al nl ml tl ct) (.h0 (d : Int) L) (S.mkl (nl * c) fun j => tl ((j % nl) + al)) := by
  intro k
  induction k using Nat.strongRecOn with
  | ind k ih =>
    intro d L hk hd hm eL
    have hL : L.length = nl * c := by rw [eL.get, mkl_len]
    by_cases hz : k = 0
    · subst hz
      have e : L = S.mkl (nl * c) fun j => tl ((j % nl) + al) := by
        rw [eL.get]; exact mkl_congr fun j hj => if_pos (by omega)
      apply Comes.of
      show Goes _ _ _
      (first | rw [q155] | unfold q155)
      repeat' (first | with_reducible refine goes_if (fun h => ?_) (fun h => ?_) <;> (try simp only [SH] at h) | exact goes_none.mpr (by omega))
      all_goals first | (exfalso; omega) | exact goes_inr.mpr e
    · have hm : d % nl = 0 := by omega
      have hn : min (L.length - d) d ≤ L.length - d ∧ min (L.length - d) d ≤ d ∧ 0 < min (L.length - d) d := by omega
      have ih := ih (k - min (L.length - d) d) (by omega) (d + min (L.length - d) d) (S.mkl L.length fun j => bif Nat.ble d j then bif Nat.blt j (d + min (L.length - d) d) then S.at' L (j - d) else S.at' L j else S.at' L j) (by omega) (by omega) (by
          rcases Nat.le_total (L.length - d) d with h1 | h1
          · right; omega
          · left; rw [Nat.min_eq_right h1, Nat.add_mod, hm]; simp) ⟨by
          rw [hL]
          refine mkl_congr fun j hj => ?_
          have ea : ∀ j, j < nl * c → S.at' L j = if j < d then tl ((j % nl) + al) else 0 := fun j hj => by rw [eL.get, at_mkl hj]
          by_cases h1 : d ≤ j
          · rw [show Nat.ble d j = true by rw [Nat.ble_eq]; exact h1, cond_true]
            by_cases h2 : j < d + min (nl * c - d) d
            · rw [show Nat.blt j (d + min (nl * c - d) d) = true by rw [Nat.blt_eq]; exact h2, cond_true, if_pos h2, ea (j - d) (by omega), if_pos (by omega)]
              have e : (j - d) % nl = j % nl := by
                obtain ⟨w, hw⟩ := Nat.dvd_of_mod_eq_zero hm
                have : j = (j - d) + nl * w := by omega
                rw [this, Nat.add_mul_mod_self_left]
                congr 1; omega
              rw [e]
            · rw [show Nat.blt j (d + min (nl * c - d) d) = false by cases hb : Nat.blt j (d + min (nl * c - d) d); rfl; exact absurd (lt_ok hb) h2, cond_false, if_neg h2, ea j hj, if_neg (by omega)]
          · rw [show Nat.ble d j = false by cases hb : Nat.ble d j; rfl; exact absurd (le_ok hb) h1, cond_false, ea j hj, if_pos (by omega), if_pos (by omega)]⟩
      have e1 : ((d : Int) + ((min (L.length - d) d : Nat) : Int)) = ((d + min (L.length - d) d : Nat) : Int) := by omega
      apply Comes.of
      show Goes _ _ _
      (first | rw [q155] | unfold q155)
      try simp only [Int.toNat_natCast, e1]
      try show Goes _ _ _
      repeat' (first | with_reducible refine goes_if (fun h => ?_) (fun h => ?_) <;> (try simp only [SH] at h) | exact goes_none.mpr (by omega))
      all_goals first | (exfalso; omega) | exact ih
theorem s155 (al nl ml : Nat) (tl : Nat → Int) (ct : Int) (hp : (al + nl ≤ ml ∧ nl ≤ 1000) ∧ 0 ≤ ct ∧ ct ≤ 1000) : Goes ((q155 al nl ml tl ct)) ((p155 al nl ml tl ct)) (S.mkl (nl * ct.toNat) fun j => tl ((j % nl) + al)) := by
  obtain ⟨⟨hp1, hp2⟩, hp3, hp4⟩ := hp
  obtain ⟨c, rfl⟩ := Int.eq_ofNat_of_zero_le hp3
  have hc : c ≤ 1000 := by omega
  have hT0 : nl * c ≤ 1000 * 1000 := Nat.mul_le_mul hp2 hc
  have hT : nl * c ≤ 1000000 := hT0
  have hmul : (nl : Int) * (c : Int) = ((nl * c : Nat) : Int) := (Int.natCast_mul nl c).symm
  have w1 : IntKind.wrap .u64 (nl : Int) = nl := u64_in _ (by omega)
  have w2 : IntKind.wrap .u64 (c : Int) = c := u64_in _ (by omega)
  have w3 : IntKind.wrap .i64 ((nl * c : Nat) : Int) = ((nl * c : Nat) : Int) := i64_in _ (by omega)
  have a1 : S.andB .u64 (nl : Int) 4294967295 = nl := and32 (by omega)
  have a2 : S.andB .u64 (c : Int) 4294967295 = c := and32 (by omega)
  have a0 : S.andB .u64 0 4294967295 = 0 := and32 (by decide)
  have h1 : S.shrB .u64 (nl : Int) 32 = 0 := shr32 (by omega)
  have h2 : S.shrB .u64 (c : Int) 32 = 0 := shr32 (by omega)
  have h3 : S.shrB .u64 ((nl * c : Nat) : Int) 32 = 0 := shr32 (by omega)
  have h0 : S.shrB .u64 0 32 = 0 := shr32 (by decide)
  have hl0 : lim .u64 0 = true := rfl
  have hl1 : lim .u64 ((nl * c : Nat) : Int) = true := by rw [limu64]; exact decide_eq_true (by omega)
  rw [Int.toNat_natCast]
  unfold p155
  simp only [w1, w2, a1, a2, h1, h2, hmul, w3, h3, a0, h0, Int.zero_mul, Int.mul_zero, Int.add_zero, Int.zero_add, hl0, hl1, cond_true, Int.toNat_natCast]
  have hm : 0 < nl → 0 < c → Comes (q155 al nl ml tl (c : Int)) (.h0 (((min (nl * c) nl : Nat)) : Int) (S.mkl (nl * c) fun j => bif Nat.ble 0 j then bif Nat.blt j (0 + min (nl * c) nl) then tl (j + al) else 0 else 0)) (S.mkl (nl * c) fun j => tl ((j % nl) + al)) := fun q1 q2 => by
    have e : min (nl * c) nl = nl := Nat.min_eq_right (Nat.le_mul_of_pos_right nl q2)
    rw [e]
    refine s155' al nl ml tl (c : Int) c hT q1 (nl * c - nl) nl _ (by have := Nat.le_mul_of_pos_right nl q2; omega) q1 (.inl (Nat.mod_self nl)) ⟨mkl_congr fun j hj => ?_⟩
    rw [show Nat.ble 0 j = true by rw [Nat.ble_eq]; omega, cond_true, Nat.zero_add]
    by_cases h : j < nl
    · rw [show Nat.blt j nl = true by rw [Nat.blt_eq]; exact h, cond_true, if_pos h, Nat.mod_eq_of_lt h]
    · rw [show Nat.blt j nl = false by cases hb : Nat.blt j nl; rfl; exact absurd (lt_ok hb) h, cond_false, if_neg h]
  have hz : nl = 0 ∨ c = 0 → nl * c = 0 := fun h => by rcases h with h | h <;> rw [h] <;> simp
  have hz2 : ∀ (f g : Nat → Int), nl * c = 0 → S.mkl (nl * c) f = S.mkl (nl * c) g := fun f g h => by rw [h]; rfl
  show Goes _ _ _
  by_cases hn : nl = 0 ∨ c = 0
  · have hz := hz hn
    repeat' (first | with_reducible refine goes_if (fun h => ?_) (fun h => ?_) <;> (try simp only [SH] at h) | exact goes_none.mpr (by omega))
    all_goals first
      | (exfalso; omega)
      | (apply Comes.of
         show Goes _ _ _
         (first | rw [q155] | unfold q155)
         repeat' (first | with_reducible refine goes_if (fun h => ?_) (fun h => ?_) <;> (try simp only [SH, mkl_len] at h) | exact goes_none.mpr (by omega))
         all_goals first | (exfalso; omega) | (exfalso; simp_all; done) | exact goes_inr.mpr (hz2 _ _ hz))
  · have hm := hm (by omega) (by omega)
    repeat' (first | with_reducible refine goes_if (fun h => ?_) (fun h => ?_) <;> (try simp only [SH] at h) | exact goes_none.mpr (by omega))
    all_goals first | (exfalso; omega) | exact hm
theorem k155_ok  : k155.ok Try.prog := by
  intro x hx
  obtain ⟨⟨al, nl, ml, tl, _⟩, ct, _⟩ := x
  obtain ⟨h1, h2⟩ := a155 al nl ml tl ct (s155 al nl ml tl ct (of_dec hx rfl))
  exact ⟨⟨400, (by decide : 1 + 1 + 1 ≤ 400), h1⟩, h2⟩
noncomputable def xR (test : Bool → Prop → Prop → Prop) : Ext := consX test [k155]
theorem xR_ok  : ExtOk Try.prog (xR cond) := consX_ok ⟨k155_ok, trivial⟩
inductive St116 where
  | h0 (x0 : Int)
abbrev Rt116  := Int
noncomputable def V116 (cn : ByteArray) (aq nq mq : Nat) (tq : NI) (rp fl : Int) (r : Rt116) : PV := PV.int .i64 r
noncomputable def N116 (cn : ByteArray) (aq nq mq : Nat) (tq : NI) (rp fl : Int) (r : Rt116) : List Blk := []
noncomputable def I116 (cn : ByteArray) (aq nq mq : Nat) (tq : NI) (rp fl : Int) : St116 → Hd
  | .h0 x0 => ⟨hd Try.f16 0, [PV.ptr (PA.mk (1) (0) (0) (0)),
 PV.loose (PA.mk (0) (1) aq (0)) nq, PV.int .i64 (↑nq : Int),
 PV.int .i64 x0], [[(1, (true, Blk.cells
 [PV.str cn, PV.loose (PA.mk (0) (1) aq (0)) nq,
 PV.int .i64 rp, PV.int .i64 fl]))], [(0, (false, .cols mq [.int .i64 tq]))]], 2⟩
noncomputable def q116 (cn : ByteArray) (aq nq mq : Nat) (tq : NI) (rp fl : Int) : St116 → Option (St116 ⊕ Rt116) | .h0 x0 => bif (decide (x0 < (↑nq : Int))) then (bif (decide ((0 : Int) ≤ x0 ∧ x0 < (↑nq : Int))) then (bif (decide (Int.toNat x0 + aq < mq)) then (bif (decide (tq (Int.toNat x0 + aq) ≥ -1099511627776)) then (bif (decide (tq (Int.toNat x0 + aq) ≤ 1099511627776)) then (bif (decide (x0 > 0)) then (bif (lim .i64 (x0 - 1)) then (bif (decide ((0 : Int) ≤ x0 - 1 ∧ x0 - 1 < (↑nq : Int))) then (bif (decide (Int.toNat (x0 - 1) + aq < mq)) then (bif (tq (Int.toNat x0 + aq) == tq (Int.toNat (x0 - 1) + aq)) then (some (.inr ((12 : Int)))) else (bif (lim .i64 (x0 + 1)) then (some (.inl (.h0 (x0 + 1)))) else (none))) else (none)) else (none)) else (none)) else (bif (lim .i64 (x0 + 1)) then (some (.inl (.h0 (x0 + 1)))) else (none))) else (some (.inr ((6 : Int))))) else (some (.inr ((6 : Int))))) else (none)) else (none)) else (bif (decide (rp < 1)) then (some (.inr ((6 : Int)))) else (bif (decide (rp > 9)) then (some (.inr ((6 : Int)))) else (bif (decide (fl ≥ -1099511627776)) then (bif (decide (fl ≤ 1099511627776)) then (bif (lim .i64 ((↑nq : Int) - 1)) then (bif (decide ((0 : Int) ≤ (↑nq : Int) - 1 ∧ (↑nq : Int) - 1 < (↑nq : Int))) then (bif (decide (Int.toNat ((↑nq : Int) - 1) + aq < mq)) then (bif (fl == tq (Int.toNat ((↑nq : Int) - 1) + aq)) then (some (.inr ((12 : Int)))) else (some (.inr ((0 : Int))))) else (none)) else (none)) else (none)) else (some (.inr ((6 : Int))))) else (some (.inr ((6 : Int)))))))
noncomputable def p116 (cn : ByteArray) (aq nq mq : Nat) (tq : NI) (rp fl : Int) : Option (St116 ⊕ Rt116) := bif (S.isNam cn) then (bif (decide ((↑nq : Int) < 2)) then (some (.inr ((7 : Int)))) else (bif (decide ((↑nq : Int) > 20)) then (some (.inr ((3 : Int)))) else (some (.inl (.h0 ((0 : Int))))))) else (some (.inr ((2 : Int))))
def Te116 (test : TT) (Kst : KS) (Kret : KR) (cn : ByteArray) (aq nq mq : Nat) (tq : NI) (rp fl : Int) : Prop := test (true) (test (S.isNam cn) (test (decide ((↑nq : Int) < 2)) (Kret (PV.int .i64 (7 : Int)) ([[(0, false, Blk.cols mq [Col.int .i64 tq])]]) (3)) (test (decide ((↑nq : Int) > 20)) (Kret (PV.int .i64 (3 : Int)) ([[(0, false, Blk.cols mq [Col.int .i64 tq])]]) (3)) (Kst (hd Try.f16 0) ([PV.ptr (PA.mk (1) (0) (0) (0)), PV.loose (PA.mk (0) (1) aq (0)) nq, PV.int .i64 (↑nq : Int), PV.int .i64 (0 : Int)]) ([[(0, false, Blk.cols mq [Col.int .i64 tq]), (1, true, Blk.cells [PV.str cn, PV.loose (PA.mk (0) (1) aq (0)) nq, PV.int .i64 rp, PV.int .i64 fl])]]) (3)))) (Kret (PV.int .i64 (2 : Int)) ([[(0, false, Blk.cols mq [Col.int .i64 tq])]]) (3))) (False)
theorem te116 (test : TT) (Kst : KS) (Kret : KR) (cn : ByteArray) (aq nq mq : Nat) (tq : NI) (rp fl : Int) : run test Try.env true (xN test) true 400 ⟨16, [.cd (mkFn Try.f16).body], argT 0 [.agg [.str cn, .loose ⟨0, 1, aq, 0⟩ nq, .int .i64 rp, .int .i64 fl]], [[], [(0, (false, .cols mq [.int .i64 tq]))]], 1⟩ (proj 1 [1, 18, 19, 20] Kst Kret) =
  Te116 test Kst Kret cn aq nq mq tq rp fl := by kernel_rfl
noncomputable abbrev u116_0_0 (mq : Nat) (tq : Nat → Int) := (0, false, Blk.cols mq [Col.int IntKind.i64 tq])
def T116_0 (test : TT) (Kst : KS) (Kret : KR) (cn : ByteArray) (aq nq mq : Nat) (tq : NI) (rp fl x0 : Int) : Prop := test (decide (x0 < (↑nq : Int))) (test (decide ((0 : Int) ≤ x0 ∧ x0 < (↑nq : Int))) (test (decide (Int.toNat x0 + aq < mq)) (test (decide (tq (Int.toNat x0 + aq) ≥ -1099511627776)) (test (decide (tq (Int.toNat x0 + aq) ≤ 1099511627776)) (test (decide (x0 > 0)) (test (lim .i64 (x0 - 1)) (test (decide ((0 : Int) ≤ x0 - 1 ∧ x0 - 1 < (↑nq : Int))) (test (decide (Int.toNat (x0 - 1) + aq < mq)) (test (tq (Int.toNat x0 + aq) == tq (Int.toNat (x0 - 1) + aq)) (Kret (PV.int .i64 (12 : Int)) ([[(u116_0_0 mq tq)]]) (2)) (test (lim .i64 (x0 + 1)) (Kst (hd Try.f16 0) ([PV.ptr (PA.mk (1) (0) (0) (0)), PV.loose (PA.mk (0) (1) aq (0)) nq, PV.int .i64 (↑nq : Int), PV.int .i64 (x0 + 1)]) ([[(u116_0_0 mq tq), (1, true, Blk.cells [PV.str cn, PV.loose (PA.mk (0) (1) aq (0)) nq, PV.int .i64 rp, PV.int .i64 fl])]]) (2)) (False))) (False)) (False)) (False)) (test (lim .i64 (x0 + 1)) (Kst (hd Try.f16 0) ([PV.ptr (PA.mk (1) (0) (0) (0)), PV.loose (PA.mk (0) (1) aq (0)) nq, PV.int .i64 (↑nq : Int), PV.int .i64 (x0 + 1)]) ([[(u116_0_0 mq tq), (1, true, Blk.cells [PV.str cn, PV.loose (PA.mk (0) (1) aq (0)) nq, PV.int .i64 rp, PV.int .i64 fl])]]) (2)) (False))) (Kret (PV.int .i64 (6 : Int)) ([[(u116_0_0 mq tq)]]) (2))) (Kret (PV.int .i64 (6 : Int)) ([[(u116_0_0 mq tq)]]) (2))) (False)) (False)) (test (decide (rp < 1)) (Kret (PV.int .i64 (6 : Int)) ([[(u116_0_0 mq tq)]]) (2)) (test (decide (rp > 9)) (Kret (PV.int .i64 (6 : Int)) ([[(u116_0_0 mq tq)]]) (2)) (test (decide (fl ≥ -1099511627776)) (test (decide (fl ≤ 1099511627776)) (test (lim .i64 ((↑nq : Int) - 1)) (test (decide ((0 : Int) ≤ (↑nq : Int) - 1 ∧ (↑nq : Int) - 1 < (↑nq : Int))) (test (decide (Int.toNat ((↑nq : Int) - 1) + aq < mq)) (test (fl == tq (Int.toNat ((↑nq : Int) - 1) + aq)) (Kret (PV.int .i64 (12 : Int)) ([[(u116_0_0 mq tq)]]) (3)) (Kret (PV.int .i64 (0 : Int)) ([[(u116_0_0 mq tq)]]) (3))) (False)) (False)) (False)) (Kret (PV.int .i64 (6 : Int)) ([[(u116_0_0 mq tq)]]) (2))) (Kret (PV.int .i64 (6 : Int)) ([[(u116_0_0 mq tq)]]) (2)))))
theorem t116_0 (test : TT) (Kst : KS) (Kret : KR) (cn : ByteArray) (aq nq mq : Nat) (tq : NI) (rp fl x0 : Int) : run test Try.env true (xN test) true 400 ⟨16, hd Try.f16 0, zipT [1, 18, 19, 20] [PV.ptr (PA.mk (1) (0) (0) (0)),
 PV.loose (PA.mk (0) (1) aq (0)) nq, PV.int .i64 (↑nq : Int),
 PV.int .i64 x0], [[(1, (true, Blk.cells
 [PV.str cn, PV.loose (PA.mk (0) (1) aq (0)) nq,
 PV.int .i64 rp, PV.int .i64 fl]))], [(0, (false, .cols mq [.int .i64 tq]))]], 2⟩ (proj 1 [1, 18, 19, 20] Kst Kret) =
  T116_0 test Kst Kret cn aq nq mq tq rp fl x0 := by kernel_rfl
noncomputable abbrev J116 (cn : ByteArray) (aq nq mq : Nat) (tq : NI) (rp : Int) (fl : Int) : Rt116 → Heap := fun r => [newL (1 + 1) ((N116 cn aq nq mq tq rp fl) r) ++ [(0, (false, .cols mq [.int .i64 tq]))]]
attribute [local irreducible] Int.subNatNat in
theorem be116 (cn : ByteArray) (aq nq mq : Nat) (tq : NI) (rp fl : Int) (Kst : KS) (Kret : KR) (x : St116 ⊕ Rt116) (hS : HS 1 400 ((I116 cn aq nq mq tq rp fl)) Kst x) (hR : HR 1 400 ((V116 cn aq nq mq tq rp fl)) (J116 cn aq nq mq tq rp fl) Kret x) (h : p116 cn aq nq mq tq rp fl = some x) : Te116 cond Kst Kret cn aq nq mq tq rp fl := by
  unfold Te116
  unfold p116 at h
  exact cond_yes rfl (bif_split h (fun c0 h => bif_split h (fun c1 h => ret_at hR _ h (fun n => n) rfl rfl rfl (rn_int rfl) rfl (entl_bor (use_lo rfl) rfl rfl entl_nil)) (fun c1 h => bif_split h (fun c2 h => ret_at hR _ h (fun n => n) rfl rfl rfl (rn_int rfl) rfl (entl_bor (use_lo rfl) rfl rfl entl_nil)) (fun c2 h => stop_at hS _ h (fun n => bif Nat.beq n 1 then 1 else n) rfl rfl rfl ⟨(rn_ptr (use_own rfl) rfl rfl), ⟨(rn_loose (use_lo rfl) rfl rfl rfl), ⟨(rn_int rfl), ⟨(rn_int rfl), trivial⟩⟩⟩⟩ rfl (entl_b (use_own rfl) rfl (by simp) (rb_cells ⟨(rn_str rfl), (rn_loose (use_lo rfl) rfl rfl rfl), (rn_int rfl), (rn_int rfl), trivial⟩) (entl_bor (use_lo rfl) rfl rfl entl_nil))))) (fun c0 h => ret_at hR _ h (fun n => n) rfl rfl rfl (rn_int rfl) rfl (entl_bor (use_lo rfl) rfl rfl entl_nil)))
attribute [local irreducible] Int.subNatNat in
theorem b116_0 (cn : ByteArray) (aq nq mq : Nat) (tq : NI) (rp fl : Int) (Kst : KS) (Kret : KR) (x : St116 ⊕ Rt116) (hS : HS 1 400 ((I116 cn aq nq mq tq rp fl)) Kst x) (hR : HR 1 400 ((V116 cn aq nq mq tq rp fl)) (J116 cn aq nq mq tq rp fl) Kret x) (x0 : Int) (h : q116 cn aq nq mq tq rp fl (.h0 x0) = some x) : T116_0 cond Kst Kret cn aq nq mq tq rp fl x0 := by
  unfold T116_0
  rw [q116] at h
  refine bif_split h (fun c0 h => bif_split h (fun c1 h => bif_split h (fun c2 h => bif_split h (fun c3 h => bif_split h (fun c4 h => bif_split h (fun c5 h => bif_split h (fun c6 h => bif_split h (fun c7 h => bif_split h (fun c8 h => bif_split h (fun c9 h => ?_) (fun c9 h => bif_split h (fun c10 h => ?_) (fun c10 h => ?_))) (fun c8 h => ?_)) (fun c7 h => ?_)) (fun c6 h => ?_)) (fun c5 h => bif_split h (fun c6 h => ?_) (fun c6 h => ?_))) (fun c4 h => ?_)) (fun c3 h => ?_)) (fun c2 h => ?_)) (fun c1 h => ?_)) (fun c0 h => bif_split h (fun c1 h => ?_) (fun c1 h => bif_split h (fun c2 h => ?_) (fun c2 h => bif_split h (fun c3 h => bif_split h (fun c4 h => bif_split h (fun c5 h => bif_split h (fun c6 h => bif_split h (fun c7 h => bif_split h (fun c8 h => ?_) (fun c8 h => ?_)) (fun c7 h => ?_)) (fun c6 h => ?_)) (fun c5 h => ?_)) (fun c4 h => ?_)) (fun c3 h => ?_))))
  all_goals first
    | exact no_some h
    | exact ret_at hR _ h (fun n => n) rfl rfl rfl (rn_int rfl) rfl (entl_bor (use_lo rfl) rfl rfl entl_nil)
    | exact stop_at hS _ h (fun n => bif Nat.beq n 1 then 1 else n) rfl rfl rfl ⟨(rn_ptr (use_own rfl) rfl rfl), ⟨(rn_loose (use_lo rfl) rfl rfl rfl), ⟨(rn_int rfl), ⟨(rn_int rfl), trivial⟩⟩⟩⟩ rfl (entl_b (use_own rfl) rfl (by simp) (rb_cells ⟨(rn_str rfl), (rn_loose (use_lo rfl) rfl rfl rfl), (rn_int rfl), (rn_int rfl), trivial⟩) (entl_bor (use_lo rfl) rfl rfl entl_nil))
theorem a116 (cn : ByteArray) (aq nq mq : Nat) (tq : NI) (rp fl : Int) {r : Rt116} (h : Goes ((q116 cn aq nq mq tq rp fl)) ((p116 cn aq nq mq tq rp fl)) r) : CallR Try.prog 16 [.agg [.str cn, .loose ⟨0, 1, aq, 0⟩ nq, .int .i64 rp, .int .i64 fl]] [[(0, (false, .cols mq [.int .i64 tq]))]] 1 ((V116 cn aq nq mq tq rp fl) r) ((J116 cn aq nq mq tq rp fl) r) 400 ∧ ∃ F, Try.prog.funcs[16]? = some F ∧ F.body.isSome = true ∧ (F.name == "runtime.NumGoroutine") = false := by
  refine dec_calls (f := 16) (lo := 1) (hi := 400) (H := [[(0, (false, .cols mq [.int .i64 tq]))]]) (args := [.agg [.str cn, .loose ⟨0, 1, aq, 0⟩ nq, .int .i64 rp, .int .i64 fl]]) Try.envOk Try.mixed xN_ok ((I116 cn aq nq mq tq rp fl)) ((V116 cn aq nq mq tq rp fl)) (J116 cn aq nq mq tq rp fl) (fn := mkFn Try.f16) (ts := [1, 18, 19, 20]) (n := 400) rfl (by decide) (by simp) (names_of rfl) ?_ ?_ ?_ h
  · intro s; cases s <;> exact ⟨hd_ok _ _, by simp [I116], names_of rfl, Nat.le_of_ble_eq_true rfl⟩
  · intro Kst Kret x hS hR h
    exact Holds.eq (te116 cond Kst Kret cn aq nq mq tq rp fl) (be116 cn aq nq mq tq rp fl Kst Kret x hS hR h)
  · intro Kst Kret x hS hR s h
    cases s with
    | h0 x0 => exact Holds.eq (t116_0 cond Kst Kret cn aq nq mq tq rp fl x0) (b116_0 cn aq nq mq tq rp fl Kst Kret x hS hR x0 h)
noncomputable abbrev w116 {α : Type} (g : ByteArray → Nat → Nat → Nat → (Nat → Int) → Int → Int → α) (x : (ByteArray × (Nat × Nat × Nat × (Nat → Int) × Unit) × Int × Int × Unit) × Unit) : α := g x.1.1 x.1.2.1.1 x.1.2.1.2.1 x.1.2.1.2.2.1 x.1.2.1.2.2.2.1 x.1.2.2.1 x.1.2.2.2.1
noncomputable def k116  : Con := ⟨16, [.agg [.plain (.str), .list [.int .i64], .plain (.int .i64), .plain (.int .i64)]], w116 (fun cn aq nq mq tq rp fl => decide (aq + nq ≤ mq ∧ nq ≤ 1000000)), w116 (fun cn aq nq mq tq rp fl => (V116 cn aq nq mq tq rp fl) ((S.cyE cn nq (fun j => tq (j + aq)) rp fl))), w116 (fun cn aq nq mq tq rp fl => (N116 cn aq nq mq tq rp fl) ((S.cyE cn nq (fun j => tq (j + aq)) rp fl))), fun _ _ => .dead⟩
theorem s116' (cn : ByteArray) (aq nq mq : Nat) (tq : Nat → Int) (rp fl : Int) (hp1 : aq + nq ≤ mq) (hn : 2 ≤ nq ∧ nq ≤ 20) : ∀ k i : Nat, i + k = nq → Comes (q116 cn aq nq mq tq rp fl) (.h0 (i : Int)) (S.curE (if (1 ≤ rp ∧ rp ≤ 9) ∧ -1099511627776 ≤ fl ∧ fl ≤ 1099511627776 then (if fl = tq (nq - 1 + aq) then 12 else 0) else 6) (fun j => tq (j + aq)) i k) := by
  intro k
  induction k with
  | zero =>
    intro i hi
    obtain rfl : nq = i := by omega
    simp only [S.curE]
    have e1 : ((nq : Int) - 1).toNat = nq - 1 := by omega
    apply Comes.of
    show Goes _ _ _
    (first | rw [q116] | unfold q116)
    try simp only [e1]
    try show Goes _ _ _
    repeat' (first | with_reducible refine goes_if (fun h => ?_) (fun h => ?_) <;> (try simp only [SH] at h) | exact goes_none.mpr (by omega))
    all_goals first
      | (exfalso; omega)
      | (refine goes_inr.mpr ?_; first | (rw [if_neg (by omega)]; done) | (rw [if_pos (by omega), if_pos (by omega)]; done) | (rw [if_pos (by omega), if_neg (by omega)]; done))
  | succ k ih =>
    intro i hi
    have ih := ih (i + 1) (by omega)
    simp only [S.curE]
    have e1 : 0 < i → ((i : Int) - 1).toNat = i - 1 := fun _ => by omega
    by_cases h0 : 0 < i
    · have e1 := e1 h0
      apply Comes.of
      show Goes _ _ _
      (first | rw [q116] | unfold q116)
      try simp only [e1, Int.toNat_natCast]
      try show Goes _ _ _
      repeat' (first | with_reducible refine goes_if (fun h => ?_) (fun h => ?_) <;> (try simp only [SH] at h) | exact goes_none.mpr (by omega))
      all_goals first
        | (exfalso; omega)
        | (rw [if_pos (by omega), if_neg (by omega)]; exact ih)
        | (refine goes_inr.mpr ?_; first | (rw [if_neg (by omega)]; done) | (rw [if_pos (by omega), if_pos (by omega)]; done))
    · apply Comes.of
      show Goes _ _ _
      (first | rw [q116] | unfold q116)
      try simp only [Int.toNat_natCast]
      try show Goes _ _ _
      repeat' (first | with_reducible refine goes_if (fun h => ?_) (fun h => ?_) <;> (try simp only [SH] at h) | exact goes_none.mpr (by omega))
      all_goals first
        | (exfalso; omega)
        | (rw [if_pos (by omega), if_neg (by omega)]; exact ih)
        | (refine goes_inr.mpr ?_; first | (rw [if_neg (by omega)]; done) | (rw [if_pos (by omega), if_pos (by omega)]; done))
theorem s116 (cn : ByteArray) (aq nq mq : Nat) (tq : Nat → Int) (rp fl : Int) (hp : aq + nq ≤ mq ∧ nq ≤ 1000000) : Goes ((q116 cn aq nq mq tq rp fl)) ((p116 cn aq nq mq tq rp fl)) ((S.cyE cn nq (fun j => tq (j + aq)) rp fl)) := by
  obtain ⟨hp1, hp2⟩ := hp
  unfold S.cyE
  have hm := fun (h : 2 ≤ nq ∧ nq ≤ 20) => s116' cn aq nq mq tq rp fl hp1 h nq 0 (Nat.zero_add _)
  unfold p116
  generalize S.isNam cn = A
  show Goes _ _ _
  cases A
  · exact goes_inr.mpr rfl
  · rw [if_pos rfl]
    repeat' (first | with_reducible refine goes_if (fun h => ?_) (fun h => ?_) <;> (try simp only [SH] at h) | exact goes_none.mpr (by omega))
    all_goals first | (exfalso; omega) | (rw [if_neg (by omega), if_neg (by omega)]; exact hm (by omega)) | (refine goes_inr.mpr ?_; first | (rw [if_pos (by omega)]; done) | (rw [if_neg (by omega), if_pos (by omega)]; done)) | (exfalso; simp_all; done)
theorem k116_ok  : k116.ok Try.prog := by
  intro x hx
  obtain ⟨⟨cn, ⟨aq, nq, mq, tq, _⟩, rp, fl, _⟩, _⟩ := x
  obtain ⟨h1, h2⟩ := a116 cn aq nq mq tq rp fl (s116 cn aq nq mq tq rp fl (of_dec hx rfl))
  exact ⟨⟨400, (by decide : 1 + 1 + 0 ≤ 400), h1⟩, h2⟩
abbrev St135  := Empty
abbrev Rt135  := List Int
noncomputable def V135 (cn : ByteArray) (aq nq mq : Nat) (tq : NI) (rp fl : Int) (r : Rt135) : PV := PV.own (2) (1) (List.length r)
noncomputable def N135 (cn : ByteArray) (aq nq mq : Nat) (tq : NI) (rp fl : Int) (r : Rt135) : List Blk := [Blk.cols (List.length r) [Col.int .i64 fun j => S.at' r j]]
noncomputable def I135 (cn : ByteArray) (aq nq mq : Nat) (tq : NI) (rp fl : Int) : St135 → Hd := fun s => s.elim
noncomputable def q135 (cn : ByteArray) (aq nq mq : Nat) (tq : NI) (rp fl : Int) : St135 → Option (St135 ⊕ Rt135) := fun s => s.elim
noncomputable def p135 (cn : ByteArray) (aq nq mq : Nat) (tq : NI) (rp fl : Int) : Option (St135 ⊕ Rt135) := bif (decide ((aq + nq ≤ mq ∧ nq ≤ 1000) ∧ (0 : Int) ≤ rp ∧ rp ≤ 1000)) then (bif (decide (List.length (S.mkl (nq * Int.toNat rp) fun j => tq (j % nq + aq)) + 1 ≤ 1000000)) then (bif (decide (List.length (S.mkl (nq * Int.toNat rp) fun j => tq (j % nq + aq)) ≤ List.length (S.mkl (nq * Int.toNat rp) fun j => tq (j % nq + aq)))) then (some (.inr (S.snoc (S.mkl (nq * Int.toNat rp) fun j => tq (j % nq + aq)) fl))) else (none)) else (none)) else (none)
def Te135 (test : TT) (Kst : KS) (Kret : KR) (cn : ByteArray) (aq nq mq : Nat) (tq : NI) (rp fl : Int) : Prop := test (decide ((aq + nq ≤ mq ∧ nq ≤ 1000) ∧ (0 : Int) ≤ rp ∧ rp ≤ 1000)) (test (decide (List.length (S.mkl (nq * Int.toNat rp) fun j => tq (j % nq + aq)) + 1 ≤ 1000000)) (test (decide (List.length (S.mkl (nq * Int.toNat rp) fun j => tq (j % nq + aq)) ≤ List.length (S.mkl (nq * Int.toNat rp) fun j => tq (j % nq + aq)))) (test (true) (Kret (PV.own (5) (1) (List.length (S.mkl (nq * Int.toNat rp) fun j => tq (j % nq + aq)) + 1)) ([[(0, false, Blk.cols mq [Col.int .i64 tq]), (5, true, Blk.cols (List.length (S.mkl (nq * Int.toNat rp) fun j => tq (j % nq + aq)) + 1) [Col.int .i64 fun j => bif Nat.blt j (List.length (S.mkl (nq * Int.toNat rp) fun j => tq (j % nq + aq))) then S.at' (S.mkl (nq * Int.toNat rp) fun j => tq (j % nq + aq)) j else fl])]]) (6)) (False)) (False)) (False)) (False)
theorem te135 (test : TT) (Kst : KS) (Kret : KR) (cn : ByteArray) (aq nq mq : Nat) (tq : NI) (rp fl : Int) : run test Try.env true (xR test) true 400 ⟨35, [.cd (mkFn Try.f35).body], argT 0 [.agg [.str cn, .loose ⟨0, 1, aq, 0⟩ nq, .int .i64 rp, .int .i64 fl]], [[], [(0, (false, .cols mq [.int .i64 tq]))]], 1⟩ (proj 1 [] Kst Kret) =
  Te135 test Kst Kret cn aq nq mq tq rp fl := by kernel_rfl
attribute [local irreducible] Int.subNatNat in
theorem be135 (cn : ByteArray) (aq nq mq : Nat) (tq : NI) (rp fl : Int) (Kst : KS) (Kret : KR) (x : St135 ⊕ Rt135) (hS : HS 1 400 ((I135 cn aq nq mq tq rp fl)) Kst x) (hR : HR 1 400 ((V135 cn aq nq mq tq rp fl)) (fun r => [newL (1 + 1) ((N135 cn aq nq mq tq rp fl) r) ++ [(0, (false, .cols mq [.int .i64 tq]))]]) Kret x) (h : p135 cn aq nq mq tq rp fl = some x) : Te135 cond Kst Kret cn aq nq mq tq rp fl := by
  unfold Te135
  unfold p135 at h
  exact bif_split h (fun c0 h => bif_split h (fun c1 h => bif_split h (fun c2 h => cond_yes rfl (ret_at hR _ h (fun n => bif Nat.beq n 2 then 5 else n) rfl rfl rfl (rn_own (use_own rfl) rfl (snoc_len' rfl)) rfl (entl_new (use_own rfl) rfl (Nat.le_of_eq (snoc_len' rfl)) (rcs_int (col_snoc' (fun (t : Int) => t) rfl (fun _ _ => rfl)) rcs_nil) (entl_bor (use_lo rfl) rfl rfl entl_nil)))) (fun c2 h => no_some h)) (fun c1 h => no_some h)) (fun c0 h => no_some h)
theorem a135 (cn : ByteArray) (aq nq mq : Nat) (tq : NI) (rp fl : Int) {r : Rt135} (h : Goes ((q135 cn aq nq mq tq rp fl)) ((p135 cn aq nq mq tq rp fl)) r) : CallR Try.prog 35 [.agg [.str cn, .loose ⟨0, 1, aq, 0⟩ nq, .int .i64 rp, .int .i64 fl]] [[(0, (false, .cols mq [.int .i64 tq]))]] 1 ((V135 cn aq nq mq tq rp fl) r) ((fun r => [newL (1 + 1) ((N135 cn aq nq mq tq rp fl) r) ++ [(0, (false, .cols mq [.int .i64 tq]))]]) r) 400 ∧ ∃ F, Try.prog.funcs[35]? = some F ∧ F.body.isSome = true ∧ (F.name == "runtime.NumGoroutine") = false := by
  refine dec_calls (f := 35) (lo := 1) (hi := 400) (H := [[(0, (false, .cols mq [.int .i64 tq]))]]) (args := [.agg [.str cn, .loose ⟨0, 1, aq, 0⟩ nq, .int .i64 rp, .int .i64 fl]]) Try.envOk Try.mixed xR_ok ((I135 cn aq nq mq tq rp fl)) ((V135 cn aq nq mq tq rp fl)) (fun r => [newL (1 + 1) ((N135 cn aq nq mq tq rp fl) r) ++ [(0, (false, .cols mq [.int .i64 tq]))]]) (fn := mkFn Try.f35) (ts := []) (n := 400) rfl (by decide) (by simp) (names_of rfl) ?_ ?_ ?_ h
  · intro s; exact s.elim
  · intro Kst Kret x hS hR h
    exact Holds.eq (te135 cond Kst Kret cn aq nq mq tq rp fl) (be135 cn aq nq mq tq rp fl Kst Kret x hS hR h)
  · intro Kst Kret x hS hR s h; exact s.elim
noncomputable abbrev w135 {α : Type} (g : ByteArray → Nat → Nat → Nat → (Nat → Int) → Int → Int → α) (x : (ByteArray × (Nat × Nat × Nat × (Nat → Int) × Unit) × Int × Int × Unit) × Unit) : α := g x.1.1 x.1.2.1.1 x.1.2.1.2.1 x.1.2.1.2.2.1 x.1.2.1.2.2.2.1 x.1.2.2.1 x.1.2.2.2.1
noncomputable def k135  : Con := ⟨35, [.agg [.plain (.str), .list [.int .i64], .plain (.int .i64), .plain (.int .i64)]], w135 (fun cn aq nq mq tq rp fl => decide (aq + nq ≤ mq ∧ nq ≤ 20 ∧ 0 ≤ rp ∧ rp ≤ 9)), w135 (fun cn aq nq mq tq rp fl => (V135 cn aq nq mq tq rp fl) ((S.stpL nq (fun j => tq (j + aq)) rp fl))), w135 (fun cn aq nq mq tq rp fl => (N135 cn aq nq mq tq rp fl) ((S.stpL nq (fun j => tq (j + aq)) rp fl))), fun _ _ => .dead⟩
theorem s135 (cn : ByteArray) (aq nq mq : Nat) (tq : Nat → Int) (rp fl : Int) (hp : aq + nq ≤ mq ∧ nq ≤ 20 ∧ 0 ≤ rp ∧ rp ≤ 9) : Goes ((q135 cn aq nq mq tq rp fl)) ((p135 cn aq nq mq tq rp fl)) ((S.stpL nq (fun j => tq (j + aq)) rp fl)) := by
  obtain ⟨hp1, hp2, hp3, hp4⟩ := hp
  have hb := mul_bd hp2 hp4
  unfold p135
  simp only [mkl_len]
  show Goes _ _ _
  repeat' (first | with_reducible refine goes_if (fun h => ?_) (fun h => ?_) <;> (try simp only [SH] at h) | exact goes_none.mpr (by omega))
  all_goals first | (exfalso; omega) | exact goes_inr.mpr rfl
theorem k135_ok  : k135.ok Try.prog := by
  intro x hx
  obtain ⟨⟨cn, ⟨aq, nq, mq, tq, _⟩, rp, fl, _⟩, _⟩ := x
  obtain ⟨h1, h2⟩ := a135 cn aq nq mq tq rp fl (s135 cn aq nq mq tq rp fl (of_dec hx rfl))
  exact ⟨⟨400, (by decide : 1 + 1 + 1 ≤ 400), h1⟩, h2⟩
noncomputable def xA1 (test : Bool → Prop → Prop → Prop) : Ext := consX test [k116, k135, k25]
theorem xA1_ok  : ExtOk Try.prog (xA1 cond) := consX_ok ⟨k116_ok, k135_ok, k25_ok, trivial⟩
abbrev St113  := Empty
abbrev Rt113  := Int × List Int
noncomputable def V113 (cn : ByteArray) (aq nq mq : Nat) (tq : NI) (rp fl : Int) (r : Rt113) : PV := PV.tup [PV.own (2) (1) (List.length r.2), PV.int .i64 r.1]
noncomputable def N113 (cn : ByteArray) (aq nq mq : Nat) (tq : NI) (rp fl : Int) (r : Rt113) : List Blk := [Blk.cols (List.length r.2) [Col.int .i64 fun j => S.at' r.2 j]]
noncomputable def I113 (cn : ByteArray) (aq nq mq : Nat) (tq : NI) (rp fl : Int) : St113 → Hd := fun s => s.elim
noncomputable def q113 (cn : ByteArray) (aq nq mq : Nat) (tq : NI) (rp fl : Int) : St113 → Option (St113 ⊕ Rt113) := fun s => s.elim
noncomputable def p113 (cn : ByteArray) (aq nq mq : Nat) (tq : NI) (rp fl : Int) : Option (St113 ⊕ Rt113) := bif (decide (aq + nq ≤ mq ∧ nq ≤ 1000000)) then (bif (S.cyE cn nq (fun j => tq (j + aq)) rp fl != 0) then (some (.inr (S.cyE cn nq (fun j => tq (j + aq)) rp fl, []))) else (bif (decide (aq + nq ≤ mq ∧ nq ≤ 20 ∧ (0 : Int) ≤ rp ∧ rp ≤ 9)) then (some (.inr ((0 : Int), S.stpL nq (fun j => tq (j + aq)) rp fl))) else (none))) else (none)
def Te113 (test : TT) (Kst : KS) (Kret : KR) (cn : ByteArray) (aq nq mq : Nat) (tq : NI) (rp fl : Int) : Prop := test (decide (aq + nq ≤ mq ∧ nq ≤ 1000000)) (test (S.cyE cn nq (fun j => tq (j + aq)) rp fl != 0) (Kret (PV.tup [PV.nils, PV.int .i64 (S.cyE cn nq (fun j => tq (j + aq)) rp fl)]) ([[(0, false, Blk.cols mq [Col.int .i64 tq])]]) (3)) (test (decide (aq + nq ≤ mq ∧ nq ≤ 20 ∧ (0 : Int) ≤ rp ∧ rp ≤ 9)) (Kret (PV.tup [PV.own (4) (1) (List.length (S.stpL nq (fun j => tq (j + aq)) rp fl)), PV.int .i64 (0 : Int)]) ([[(0, false, Blk.cols mq [Col.int .i64 tq]), (4, true, Blk.cols (List.length (S.stpL nq (fun j => tq (j + aq)) rp fl)) [Col.int .i64 fun j => S.at' (S.stpL nq (fun j => tq (j + aq)) rp fl) j])]]) (5)) (False))) (False)
theorem te113 (test : TT) (Kst : KS) (Kret : KR) (cn : ByteArray) (aq nq mq : Nat) (tq : NI) (rp fl : Int) : run test Try.env true (xA1 test) true 400 ⟨13, [.cd (mkFn Try.f13).body], argT 0 [.agg [.str cn, .loose ⟨0, 1, aq, 0⟩ nq, .int .i64 rp, .int .i64 fl]], [[], [(0, (false, .cols mq [.int .i64 tq]))]], 1⟩ (proj 1 [] Kst Kret) =
  Te113 test Kst Kret cn aq nq mq tq rp fl := by kernel_rfl
attribute [local irreducible] Int.subNatNat in
theorem be113 (cn : ByteArray) (aq nq mq : Nat) (tq : NI) (rp fl : Int) (Kst : KS) (Kret : KR) (x : St113 ⊕ Rt113) (hS : HS 1 400 ((I113 cn aq nq mq tq rp fl)) Kst x) (hR : HR 1 400 ((V113 cn aq nq mq tq rp fl)) (fun r => [newL (1 + 1) ((N113 cn aq nq mq tq rp fl) r) ++ [(0, (false, .cols mq [.int .i64 tq]))]]) Kret x) (h : p113 cn aq nq mq tq rp fl = some x) : Te113 cond Kst Kret cn aq nq mq tq rp fl := by
  unfold Te113
  unfold p113 at h
  exact bif_split h (fun c0 h => bif_split h (fun c1 h => ret_at hR _ h (fun n => bif Nat.beq n 2 then 399 else n) rfl rfl rfl (rn_tup ⟨(rn_own_nils rfl), (rn_int rfl), trivial⟩) rfl (entl_fresh (use_own rfl) (fresh_ok rfl) (entl_bor (use_lo rfl) rfl rfl entl_nil))) (fun c1 h => bif_split h (fun c2 h => ret_at hR _ h (fun n => bif Nat.beq n 2 then 4 else n) rfl rfl rfl (rn_tup ⟨(rn_own (use_own rfl) rfl rfl), (rn_int rfl), trivial⟩) rfl (entl_new (use_own rfl) rfl (Nat.le_of_eq rfl) (rcs_int (fun _ _ => rfl) rcs_nil) (entl_bor (use_lo rfl) rfl rfl entl_nil))) (fun c2 h => no_some h))) (fun c0 h => no_some h)
theorem a113 (cn : ByteArray) (aq nq mq : Nat) (tq : NI) (rp fl : Int) {r : Rt113} (h : Goes ((q113 cn aq nq mq tq rp fl)) ((p113 cn aq nq mq tq rp fl)) r) : CallR Try.prog 13 [.agg [.str cn, .loose ⟨0, 1, aq, 0⟩ nq, .int .i64 rp, .int .i64 fl]] [[(0, (false, .cols mq [.int .i64 tq]))]] 1 ((V113 cn aq nq mq tq rp fl) r) ((fun r => [newL (1 + 1) ((N113 cn aq nq mq tq rp fl) r) ++ [(0, (false, .cols mq [.int .i64 tq]))]]) r) 400 ∧ ∃ F, Try.prog.funcs[13]? = some F ∧ F.body.isSome = true ∧ (F.name == "runtime.NumGoroutine") = false := by
  refine dec_calls (f := 13) (lo := 1) (hi := 400) (H := [[(0, (false, .cols mq [.int .i64 tq]))]]) (args := [.agg [.str cn, .loose ⟨0, 1, aq, 0⟩ nq, .int .i64 rp, .int .i64 fl]]) Try.envOk Try.mixed xA1_ok ((I113 cn aq nq mq tq rp fl)) ((V113 cn aq nq mq tq rp fl)) (fun r => [newL (1 + 1) ((N113 cn aq nq mq tq rp fl) r) ++ [(0, (false, .cols mq [.int .i64 tq]))]]) (fn := mkFn Try.f13) (ts := []) (n := 400) rfl (by decide) (by simp) (names_of rfl) ?_ ?_ ?_ h
  · intro s; exact s.elim
  · intro Kst Kret x hS hR h
    exact Holds.eq (te113 cond Kst Kret cn aq nq mq tq rp fl) (be113 cn aq nq mq tq rp fl Kst Kret x hS hR h)
  · intro Kst Kret x hS hR s h; exact s.elim
noncomputable abbrev w113 {α : Type} (g : ByteArray → Nat → Nat → Nat → (Nat → Int) → Int → Int → α) (x : (ByteArray × (Nat × Nat × Nat × (Nat → Int) × Unit) × Int × Int × Unit) × Unit) : α := g x.1.1 x.1.2.1.1 x.1.2.1.2.1 x.1.2.1.2.2.1 x.1.2.1.2.2.2.1 x.1.2.2.1 x.1.2.2.2.1
noncomputable def k113  : Con := ⟨13, [.agg [.plain (.str), .list [.int .i64], .plain (.int .i64), .plain (.int .i64)]], w113 (fun cn aq nq mq tq rp fl => decide (aq + nq ≤ mq ∧ nq ≤ 1000000)), w113 (fun cn aq nq mq tq rp fl => (V113 cn aq nq mq tq rp fl) (S.stpS (S.cyE cn nq (fun j => tq (j + aq)) rp fl) nq (fun j => tq (j + aq)) rp fl)), w113 (fun cn aq nq mq tq rp fl => (N113 cn aq nq mq tq rp fl) (S.stpS (S.cyE cn nq (fun j => tq (j + aq)) rp fl) nq (fun j => tq (j + aq)) rp fl)), fun _ _ => .dead⟩
theorem s113 (cn : ByteArray) (aq nq mq : Nat) (tq : Nat → Int) (rp fl : Int) (hp : aq + nq ≤ mq ∧ nq ≤ 1000000) : Goes ((q113 cn aq nq mq tq rp fl)) ((p113 cn aq nq mq tq rp fl)) (S.stpS (S.cyE cn nq (fun j => tq (j + aq)) rp fl) nq (fun j => tq (j + aq)) rp fl) := by
  obtain ⟨hp1, hp2⟩ := hp
  have hc : (S.cyE cn nq (fun j => tq (j + aq)) rp fl) = 0 → (nq ≤ 20 ∧ 0 ≤ rp ∧ rp ≤ 9) := fun h => by have := cy_ok h; omega
  unfold S.stpS p113
  generalize (S.cyE cn nq (fun j => tq (j + aq)) rp fl) = e at *
  show Goes _ _ _
  repeat' (first | with_reducible refine goes_if (fun h => ?_) (fun h => ?_) <;> (try simp only [SH] at h) | exact goes_none.mpr (by omega))
  all_goals first | (exfalso; omega) | (rw [if_neg (by omega)]; exact goes_inr.mpr rfl) | (rw [if_pos (by omega)]; exact goes_inr.mpr rfl)
theorem k113_ok  : k113.ok Try.prog := by
  intro x hx
  obtain ⟨⟨cn, ⟨aq, nq, mq, tq, _⟩, rp, fl, _⟩, _⟩ := x
  obtain ⟨h1, h2⟩ := a113 cn aq nq mq tq rp fl (s113 cn aq nq mq tq rp fl (of_dec hx rfl))
  exact ⟨⟨400, (by decide : 1 + 1 + 1 ≤ 400), h1⟩, h2⟩
inductive St177 where
  | h0 (x0 : Int)
abbrev Rt177  := Int
noncomputable def V177 (al nl ml : Nat) (tl : NI) (r : Rt177) : PV := PV.int .i64 r
noncomputable def N177 (al nl ml : Nat) (tl : NI) (r : Rt177) : List Blk := []
noncomputable def I177 (al nl ml : Nat) (tl : NI) : St177 → Hd
  | .h0 x0 => ⟨hd Try.f77 0, [PV.loose (PA.mk (0) (1) al (0)) nl, PV.fn (Go.Fn.func (68)) [] [],
 PV.int .i64 (↑nl : Int), PV.int .i64 x0], [[], [(0, (false, .cols ml [.int .i64 tl]))]], 1⟩
noncomputable def q177 (al nl ml : Nat) (tl : NI) : St177 → Option (St177 ⊕ Rt177) | .h0 x0 => bif (decide (x0 < (↑nl : Int))) then (bif (decide ((0 : Int) ≤ x0 ∧ x0 < (↑nl : Int))) then (bif (decide (Int.toNat x0 + al < ml)) then (bif (decide (tl (Int.toNat x0 + al) ≥ -1099511627776)) then (bif (decide (tl (Int.toNat x0 + al) ≤ 1099511627776)) then (bif (lim .i64 (x0 + 1)) then (some (.inl (.h0 (x0 + 1)))) else (none)) else (some (.inr (x0)))) else (some (.inr (x0)))) else (none)) else (none)) else (some (.inr ((-1 : Int))))
noncomputable def p177 (al nl ml : Nat) (tl : NI) : Option (St177 ⊕ Rt177) := some (.inl (.h0 ((0 : Int))))
def Te177 (test : TT) (Kst : KS) (Kret : KR) (al nl ml : Nat) (tl : NI) : Prop := Kst (hd Try.f77 0) ([PV.loose (PA.mk (0) (1) al (0)) nl, PV.fn (Go.Fn.func (68)) [] [], PV.int .i64 (↑nl : Int), PV.int .i64 (0 : Int)]) ([[(0, false, Blk.cols ml [Col.int .i64 tl])]]) (1)
theorem te177 (test : TT) (Kst : KS) (Kret : KR) (al nl ml : Nat) (tl : NI) : run test Try.env true noX true 400 ⟨77, [.cd (mkFn Try.f77).body], argT 0 [.loose ⟨0, 1, al, 0⟩ nl, .fn (.func 68) [] []], [[], [(0, (false, .cols ml [.int .i64 tl]))]], 1⟩ (proj 1 [0, 1, 7, 8] Kst Kret) =
  Te177 test Kst Kret al nl ml tl := by kernel_rfl
def T177_0 (test : TT) (Kst : KS) (Kret : KR) (al nl ml : Nat) (tl : NI) (x0 : Int) : Prop := test (decide (x0 < (↑nl : Int))) (test (decide ((0 : Int) ≤ x0 ∧ x0 < (↑nl : Int))) (test (decide (Int.toNat x0 + al < ml)) (test (decide (tl (Int.toNat x0 + al) ≥ -1099511627776)) (test (decide (tl (Int.toNat x0 + al) ≤ 1099511627776)) (test (lim .i64 (x0 + 1)) (Kst (hd Try.f77 0) ([PV.loose (PA.mk (0) (1) al (0)) nl, PV.fn (Go.Fn.func (68)) [] [], PV.int .i64 (↑nl : Int), PV.int .i64 (x0 + 1)]) ([[(0, false, Blk.cols ml [Col.int .i64 tl])]]) (1)) (False)) (Kret (PV.int .i64 x0) ([[(0, false, Blk.cols ml [Col.int .i64 tl])]]) (1))) (Kret (PV.int .i64 x0) ([[(0, false, Blk.cols ml [Col.int .i64 tl])]]) (1))) (False)) (False)) (Kret (PV.int .i64 (-1 : Int)) ([[(0, false, Blk.cols ml [Col.int .i64 tl])]]) (1))
theorem t177_0 (test : TT) (Kst : KS) (Kret : KR) (al nl ml : Nat) (tl : NI) (x0 : Int) : run test Try.env true noX true 400 ⟨77, hd Try.f77 0, zipT [0, 1, 7, 8] [PV.loose (PA.mk (0) (1) al (0)) nl, PV.fn (Go.Fn.func (68)) [] [],
 PV.int .i64 (↑nl : Int), PV.int .i64 x0], [[], [(0, (false, .cols ml [.int .i64 tl]))]], 1⟩ (proj 1 [0, 1, 7, 8] Kst Kret) =
  T177_0 test Kst Kret al nl ml tl x0 := by kernel_rfl
noncomputable abbrev J177 (al nl ml : Nat) (tl : NI) : Rt177 → Heap := fun r => [newL (1 + 1) ((N177 al nl ml tl) r) ++ [(0, (false, .cols ml [.int .i64 tl]))]]
attribute [local irreducible] Int.subNatNat in
theorem be177 (al nl ml : Nat) (tl : NI) (Kst : KS) (Kret : KR) (x : St177 ⊕ Rt177) (hS : HS 1 400 ((I177 al nl ml tl)) Kst x) (hR : HR 1 400 ((V177 al nl ml tl)) (J177 al nl ml tl) Kret x) (h : (some (.inl (.h0 ((0 : Int)))) : Option (St177 ⊕ Rt177)) = some x) : Te177 cond Kst Kret al nl ml tl := by
  unfold Te177
  exact stop_at hS _ h (fun n => n) rfl rfl rfl ⟨(rn_loose (use_lo rfl) rfl rfl rfl), ⟨(rn_fn trivial trivial), ⟨(rn_int rfl), ⟨(rn_int rfl), trivial⟩⟩⟩⟩ rfl (entl_bor (use_lo rfl) rfl rfl entl_nil)
attribute [local irreducible] Int.subNatNat in
theorem b177_0 (al nl ml : Nat) (tl : NI) (Kst : KS) (Kret : KR) (x : St177 ⊕ Rt177) (hS : HS 1 400 ((I177 al nl ml tl)) Kst x) (hR : HR 1 400 ((V177 al nl ml tl)) (J177 al nl ml tl) Kret x) (x0 : Int) (h : q177 al nl ml tl (.h0 x0) = some x) : T177_0 cond Kst Kret al nl ml tl x0 := by
  unfold T177_0
  rw [q177] at h
  exact bif_split h (fun c0 h => bif_split h (fun c1 h => bif_split h (fun c2 h => bif_split h (fun c3 h => bif_split h (fun c4 h => bif_split h (fun c5 h => stop_at hS _ h (fun n => n) rfl rfl rfl ⟨(rn_loose (use_lo rfl) rfl rfl rfl), ⟨(rn_fn trivial trivial), ⟨(rn_int rfl), ⟨(rn_int rfl), trivial⟩⟩⟩⟩ rfl (entl_bor (use_lo rfl) rfl rfl entl_nil)) (fun c5 h => no_some h)) (fun c4 h => ret_at hR _ h (fun n => n) rfl rfl rfl (rn_int rfl) rfl (entl_bor (use_lo rfl) rfl rfl entl_nil))) (fun c3 h => ret_at hR _ h (fun n => n) rfl rfl rfl (rn_int rfl) rfl (entl_bor (use_lo rfl) rfl rfl entl_nil))) (fun c2 h => no_some h)) (fun c1 h => no_some h)) (fun c0 h => ret_at hR _ h (fun n => n) rfl rfl rfl (rn_int rfl) rfl (entl_bor (use_lo rfl) rfl rfl entl_nil))
theorem a177 (al nl ml : Nat) (tl : NI) {r : Rt177} (h : Goes ((q177 al nl ml tl)) ((p177 al nl ml tl)) r) : CallR Try.prog 77 [.loose ⟨0, 1, al, 0⟩ nl, .fn (.func 68) [] []] [[(0, (false, .cols ml [.int .i64 tl]))]] 1 ((V177 al nl ml tl) r) ((J177 al nl ml tl) r) 400 ∧ ∃ F, Try.prog.funcs[77]? = some F ∧ F.body.isSome = true ∧ (F.name == "runtime.NumGoroutine") = false := by
  refine dec_calls (f := 77) (lo := 1) (hi := 400) (H := [[(0, (false, .cols ml [.int .i64 tl]))]]) (args := [.loose ⟨0, 1, al, 0⟩ nl, .fn (.func 68) [] []]) Try.envOk Try.mixed noX_ok ((I177 al nl ml tl)) ((V177 al nl ml tl)) (J177 al nl ml tl) (fn := mkFn Try.f77) (ts := [0, 1, 7, 8]) (n := 400) rfl (by decide) (by simp) (names_of rfl) ?_ ?_ ?_ h
  · intro s; cases s <;> exact ⟨hd_ok _ _, by simp [I177], names_of rfl, Nat.le_of_ble_eq_true rfl⟩
  · intro Kst Kret x hS hR h
    exact Holds.eq (te177 cond Kst Kret al nl ml tl) (be177 al nl ml tl Kst Kret x hS hR h)
  · intro Kst Kret x hS hR s h
    cases s with
    | h0 x0 => exact Holds.eq (t177_0 cond Kst Kret al nl ml tl x0) (b177_0 al nl ml tl Kst Kret x hS hR x0 h)
noncomputable abbrev w177 {α : Type} (g : Nat → Nat → Nat → (Nat → Int) → α) (x : (Nat × Nat × Nat × (Nat → Int) × Unit) × (Unit) × Unit) : α := g x.1.1 x.1.2.1 x.1.2.2.1 x.1.2.2.2.1
noncomputable def k177  : Con := ⟨77, [.one (.list [.int .i64]), .fn 68 []], w177 (fun al nl ml tl => decide (al + nl ≤ ml ∧ nl ≤ 1000000)), w177 (fun al nl ml tl => (V177 al nl ml tl) (S.idx (fun j => !decide (-1099511627776 ≤ tl (j + al) ∧ tl (j + al) ≤ 1099511627776)) 0 nl)), w177 (fun al nl ml tl => (N177 al nl ml tl) (S.idx (fun j => !decide (-1099511627776 ≤ tl (j + al) ∧ tl (j + al) ≤ 1099511627776)) 0 nl)), fun _ _ => .dead⟩
theorem s177' (al nl ml : Nat) (tl : Nat → Int) (hp : al + nl ≤ ml ∧ nl ≤ 1000000) : ∀ k i : Nat, i + k = nl → Comes (q177 al nl ml tl) (.h0 (i : Int)) (S.idx (fun j => !decide (-1099511627776 ≤ tl (j + al) ∧ tl (j + al) ≤ 1099511627776)) i k) := by
  obtain ⟨hp1, hp2⟩ := hp
  intro k
  induction k with
  | zero =>
    intro i hi
    apply Comes.of
    show Goes _ _ _
    (first | rw [q177] | unfold q177)
    repeat' (first | with_reducible refine goes_if (fun h => ?_) (fun h => ?_) <;> (try simp only [SH] at h) | exact goes_none.mpr (by omega))
    all_goals first | (exfalso; omega) | rfl | (refine Eq.mpr (congrArg (Comes _ _) ?_) True; simp only [S.idx, Bool.and_eq_true, Bool.or_eq_true, decide_eq_true_eq, Bool.not_eq_true', decide_eq_false_iff_not]; (repeat' split) <;> first | rfl | omega | (exfalso; omega) | (exfalso; simp_all; done) | (exfalso; simp_all; omega) | simp_all) | (refine goes_inr.mpr ?_; simp only [S.idx, Bool.and_eq_true, Bool.or_eq_true, decide_eq_true_eq, Bool.not_eq_true', decide_eq_false_iff_not]; (repeat' split) <;> first | rfl | omega | (exfalso; omega) | (exfalso; simp_all; done) | (exfalso; simp_all; omega) | simp_all)
  | succ k ih =>
    intro i hi
    have ih := ih (i + 1) (by omega)
    apply Comes.of
    show Goes _ _ _
    (first | rw [q177] | unfold q177)
    repeat' (first | with_reducible refine goes_if (fun h => ?_) (fun h => ?_) <;> (try simp only [SH] at h) | exact goes_none.mpr (by omega))
    all_goals first | (exfalso; omega) | rfl | (refine Eq.mpr (congrArg (Comes _ _) ?_) ih; simp only [S.idx, Bool.and_eq_true, Bool.or_eq_true, decide_eq_true_eq, Bool.not_eq_true', decide_eq_false_iff_not]; (repeat' split) <;> first | rfl | omega | (exfalso; omega) | (exfalso; simp_all; done) | (exfalso; simp_all; omega) | simp_all) | (refine goes_inr.mpr ?_; simp only [S.idx, Bool.and_eq_true, Bool.or_eq_true, decide_eq_true_eq, Bool.not_eq_true', decide_eq_false_iff_not]; (repeat' split) <;> first | rfl | omega | (exfalso; omega) | (exfalso; simp_all; done) | (exfalso; simp_all; omega) | simp_all)
theorem s177 (al nl ml : Nat) (tl : Nat → Int) (hp : al + nl ≤ ml ∧ nl ≤ 1000000) : Goes ((q177 al nl ml tl)) ((p177 al nl ml tl)) (S.idx (fun j => !decide (-1099511627776 ≤ tl (j + al) ∧ tl (j + al) ≤ 1099511627776)) 0 nl) := by
  exact s177' al nl ml tl hp nl 0 (by omega)
theorem k177_ok  : k177.ok Try.prog := by
  intro x hx
  obtain ⟨⟨al, nl, ml, tl, _⟩, ⟨_⟩, _⟩ := x
  obtain ⟨h1, h2⟩ := a177 al nl ml tl (s177 al nl ml tl (of_dec hx rfl))
  exact ⟨⟨400, (by decide : 1 + 1 + 0 ≤ 400), h1⟩, h2⟩
noncomputable def xI1 (test : Bool → Prop → Prop → Prop) : Ext := consX test [k177]
theorem xI1_ok  : ExtOk Try.prog (xI1 cond) := consX_ok ⟨k177_ok, trivial⟩
abbrev St162  := Empty
abbrev Rt162  := Bool
noncomputable def V162 (al nl ml : Nat) (tl : NI) (r : Rt162) : PV := PV.bool r
noncomputable def N162 (al nl ml : Nat) (tl : NI) (r : Rt162) : List Blk := []
noncomputable def I162 (al nl ml : Nat) (tl : NI) : St162 → Hd := fun s => s.elim
noncomputable def q162 (al nl ml : Nat) (tl : NI) : St162 → Option (St162 ⊕ Rt162) := fun s => s.elim
noncomputable def p162 (al nl ml : Nat) (tl : NI) : Option (St162 ⊕ Rt162) := bif (decide (al + nl ≤ ml ∧ nl ≤ 1000000)) then (bif (decide (S.idx (fun j => !decide ((-1099511627776 : Int) ≤ tl (j + al) ∧ tl (j + al) ≤ 1099511627776)) (0) nl ≥ 0)) then (some (.inr (true))) else (some (.inr (false)))) else (none)
def Te162 (test : TT) (Kst : KS) (Kret : KR) (al nl ml : Nat) (tl : NI) : Prop := test (decide (al + nl ≤ ml ∧ nl ≤ 1000000)) (test (decide (S.idx (fun j => !decide ((-1099511627776 : Int) ≤ tl (j + al) ∧ tl (j + al) ≤ 1099511627776)) (0) nl ≥ 0)) (Kret (PV.tf true) ([[(0, false, Blk.cols ml [Col.int .i64 tl])]]) (2)) (Kret (PV.tf false) ([[(0, false, Blk.cols ml [Col.int .i64 tl])]]) (2))) (False)
theorem te162 (test : TT) (Kst : KS) (Kret : KR) (al nl ml : Nat) (tl : NI) : run test Try.env true (xI1 test) true 400 ⟨62, [.cd (mkFn Try.f62).body], argT 0 [.loose ⟨0, 1, al, 0⟩ nl, .fn (.func 68) [] []], [[], [(0, (false, .cols ml [.int .i64 tl]))]], 1⟩ (proj 1 [] Kst Kret) =
  Te162 test Kst Kret al nl ml tl := by kernel_rfl
noncomputable abbrev J162 (al nl ml : Nat) (tl : NI) : Rt162 → Heap := fun r => [newL (1 + 1) ((N162 al nl ml tl) r) ++ [(0, (false, .cols ml [.int .i64 tl]))]]
attribute [local irreducible] Int.subNatNat in
theorem be162 (al nl ml : Nat) (tl : NI) (Kst : KS) (Kret : KR) (x : St162 ⊕ Rt162) (hS : HS 1 400 ((I162 al nl ml tl)) Kst x) (hR : HR 1 400 ((V162 al nl ml tl)) (J162 al nl ml tl) Kret x) (h : p162 al nl ml tl = some x) : Te162 cond Kst Kret al nl ml tl := by
  unfold Te162
  unfold p162 at h
  exact bif_split h (fun c0 h => bif_split h (fun c1 h => ret_at hR _ h (fun n => n) rfl rfl rfl (rn_bool_tf rfl) rfl (entl_bor (use_lo rfl) rfl rfl entl_nil)) (fun c1 h => ret_at hR _ h (fun n => n) rfl rfl rfl (rn_bool_tf rfl) rfl (entl_bor (use_lo rfl) rfl rfl entl_nil))) (fun c0 h => no_some h)
theorem a162 (al nl ml : Nat) (tl : NI) {r : Rt162} (h : Goes ((q162 al nl ml tl)) ((p162 al nl ml tl)) r) : CallR Try.prog 62 [.loose ⟨0, 1, al, 0⟩ nl, .fn (.func 68) [] []] [[(0, (false, .cols ml [.int .i64 tl]))]] 1 ((V162 al nl ml tl) r) ((J162 al nl ml tl) r) 400 ∧ ∃ F, Try.prog.funcs[62]? = some F ∧ F.body.isSome = true ∧ (F.name == "runtime.NumGoroutine") = false := by
  refine dec_calls (f := 62) (lo := 1) (hi := 400) (H := [[(0, (false, .cols ml [.int .i64 tl]))]]) (args := [.loose ⟨0, 1, al, 0⟩ nl, .fn (.func 68) [] []]) Try.envOk Try.mixed xI1_ok ((I162 al nl ml tl)) ((V162 al nl ml tl)) (J162 al nl ml tl) (fn := mkFn Try.f62) (ts := []) (n := 400) rfl (by decide) (by simp) (names_of rfl) ?_ ?_ ?_ h
  · intro s; exact s.elim
  · intro Kst Kret x hS hR h
    exact Holds.eq (te162 cond Kst Kret al nl ml tl) (be162 al nl ml tl Kst Kret x hS hR h)
  · intro Kst Kret x hS hR s h; exact s.elim
noncomputable abbrev w162 {α : Type} (g : Nat → Nat → Nat → (Nat → Int) → α) (x : (Nat × Nat × Nat × (Nat → Int) × Unit) × (Unit) × Unit) : α := g x.1.1 x.1.2.1 x.1.2.2.1 x.1.2.2.2.1
noncomputable def k162  : Con := ⟨62, [.one (.list [.int .i64]), .fn 68 []], w162 (fun al nl ml tl => decide (al + nl ≤ ml ∧ nl ≤ 1000000)), w162 (fun al nl ml tl => (V162 al nl ml tl) (S.any (fun j => !decide (-1099511627776 ≤ tl (j + al) ∧ tl (j + al) ≤ 1099511627776)) nl)), w162 (fun al nl ml tl => (N162 al nl ml tl) (S.any (fun j => !decide (-1099511627776 ≤ tl (j + al) ∧ tl (j + al) ≤ 1099511627776)) nl)), fun _ _ => .dead⟩
theorem s162 (al nl ml : Nat) (tl : Nat → Int) (hp : al + nl ≤ ml ∧ nl ≤ 1000000) : Goes ((q162 al nl ml tl)) ((p162 al nl ml tl)) (S.any (fun j => !decide (-1099511627776 ≤ tl (j + al) ∧ tl (j + al) ≤ 1099511627776)) nl) := by
  have hp' := hp
  obtain ⟨hp1, hp2⟩ := hp
  rw [← idx_any (p := (fun j => !decide (-1099511627776 ≤ tl (j + al) ∧ tl (j + al) ≤ 1099511627776))) (n := nl)]
  show Goes _ _ _
  unfold p162
  repeat' (first | with_reducible refine goes_if (fun h => ?_) (fun h => ?_) <;> (try simp only [SH] at h) | exact goes_none.mpr (by omega))
  all_goals first | (exfalso; omega) | (exfalso; simp_all; done) | (refine goes_inr.mpr ?_; first | rfl | (symm; simp_all; done) | (symm; simp_all; omega))
theorem k162_ok  : k162.ok Try.prog := by
  intro x hx
  obtain ⟨⟨al, nl, ml, tl, _⟩, ⟨_⟩, _⟩ := x
  obtain ⟨h1, h2⟩ := a162 al nl ml tl (s162 al nl ml tl (of_dec hx rfl))
  exact ⟨⟨400, (by decide : 1 + 1 + 0 ≤ 400), h1⟩, h2⟩
noncomputable def xI2 (test : Bool → Prop → Prop → Prop) : Ext := consX test [k162]
theorem xI2_ok  : ExtOk Try.prog (xI2 cond) := consX_ok ⟨k162_ok, trivial⟩
abbrev St149  := Empty
abbrev Rt149  := Int
noncomputable def V149 (al nl ml : Nat) (tl : NI) (r : Rt149) : PV := PV.int .i64 r
noncomputable def N149 (al nl ml : Nat) (tl : NI) (r : Rt149) : List Blk := []
noncomputable def I149 (al nl ml : Nat) (tl : NI) : St149 → Hd := fun s => s.elim
noncomputable def q149 (al nl ml : Nat) (tl : NI) : St149 → Option (St149 ⊕ Rt149) := fun s => s.elim
noncomputable def p149 (al nl ml : Nat) (tl : NI) : Option (St149 ⊕ Rt149) := bif (decide ((↑nl : Int) > 500)) then (some (.inr ((3 : Int)))) else (bif (decide (al + nl ≤ ml ∧ nl ≤ 1000000)) then (bif (S.any (fun j => !decide ((-1099511627776 : Int) ≤ tl (j + al) ∧ tl (j + al) ≤ 1099511627776)) nl) then (some (.inr ((6 : Int)))) else (some (.inr ((0 : Int))))) else (none))
def Te149 (test : TT) (Kst : KS) (Kret : KR) (al nl ml : Nat) (tl : NI) : Prop := test (decide ((↑nl : Int) > 500)) (Kret (PV.int .i64 (3 : Int)) ([[(0, false, Blk.cols ml [Col.int .i64 tl])]]) (1)) (test (decide (al + nl ≤ ml ∧ nl ≤ 1000000)) (test (S.any (fun j => !decide ((-1099511627776 : Int) ≤ tl (j + al) ∧ tl (j + al) ≤ 1099511627776)) nl) (Kret (PV.int .i64 (6 : Int)) ([[(0, false, Blk.cols ml [Col.int .i64 tl])]]) (2)) (Kret (PV.int .i64 (0 : Int)) ([[(0, false, Blk.cols ml [Col.int .i64 tl])]]) (2))) (False))
theorem te149 (test : TT) (Kst : KS) (Kret : KR) (al nl ml : Nat) (tl : NI) : run test Try.env true (xI2 test) true 400 ⟨49, [.cd (mkFn Try.f49).body], argT 0 [.loose ⟨0, 1, al, 0⟩ nl], [[], [(0, (false, .cols ml [.int .i64 tl]))]], 1⟩ (proj 1 [] Kst Kret) =
  Te149 test Kst Kret al nl ml tl := by kernel_rfl
noncomputable abbrev J149 (al nl ml : Nat) (tl : NI) : Rt149 → Heap := fun r => [newL (1 + 1) ((N149 al nl ml tl) r) ++ [(0, (false, .cols ml [.int .i64 tl]))]]
attribute [local irreducible] Int.subNatNat in
theorem be149 (al nl ml : Nat) (tl : NI) (Kst : KS) (Kret : KR) (x : St149 ⊕ Rt149) (hS : HS 1 400 ((I149 al nl ml tl)) Kst x) (hR : HR 1 400 ((V149 al nl ml tl)) (J149 al nl ml tl) Kret x) (h : p149 al nl ml tl = some x) : Te149 cond Kst Kret al nl ml tl := by
  unfold Te149
  unfold p149 at h
  exact bif_split h (fun c0 h => ret_at hR _ h (fun n => n) rfl rfl rfl (rn_int rfl) rfl (entl_bor (use_lo rfl) rfl rfl entl_nil)) (fun c0 h => bif_split h (fun c1 h => bif_split h (fun c2 h => ret_at hR _ h (fun n => n) rfl rfl rfl (rn_int rfl) rfl (entl_bor (use_lo rfl) rfl rfl entl_nil)) (fun c2 h => ret_at hR _ h (fun n => n) rfl rfl rfl (rn_int rfl) rfl (entl_bor (use_lo rfl) rfl rfl entl_nil))) (fun c1 h => no_some h))
theorem a149 (al nl ml : Nat) (tl : NI) {r : Rt149} (h : Goes ((q149 al nl ml tl)) ((p149 al nl ml tl)) r) : CallR Try.prog 49 [.loose ⟨0, 1, al, 0⟩ nl] [[(0, (false, .cols ml [.int .i64 tl]))]] 1 ((V149 al nl ml tl) r) ((J149 al nl ml tl) r) 400 ∧ ∃ F, Try.prog.funcs[49]? = some F ∧ F.body.isSome = true ∧ (F.name == "runtime.NumGoroutine") = false := by
  refine dec_calls (f := 49) (lo := 1) (hi := 400) (H := [[(0, (false, .cols ml [.int .i64 tl]))]]) (args := [.loose ⟨0, 1, al, 0⟩ nl]) Try.envOk Try.mixed xI2_ok ((I149 al nl ml tl)) ((V149 al nl ml tl)) (J149 al nl ml tl) (fn := mkFn Try.f49) (ts := []) (n := 400) rfl (by decide) (by simp) (names_of rfl) ?_ ?_ ?_ h
  · intro s; exact s.elim
  · intro Kst Kret x hS hR h
    exact Holds.eq (te149 cond Kst Kret al nl ml tl) (be149 al nl ml tl Kst Kret x hS hR h)
  · intro Kst Kret x hS hR s h; exact s.elim
noncomputable abbrev w149 {α : Type} (g : Nat → Nat → Nat → (Nat → Int) → α) (x : (Nat × Nat × Nat × (Nat → Int) × Unit) × Unit) : α := g x.1.1 x.1.2.1 x.1.2.2.1 x.1.2.2.2.1
noncomputable def k149  : Con := ⟨49, [.one (.list [.int .i64])], w149 (fun al nl ml tl => decide (al + nl ≤ ml ∧ nl ≤ 1000000)), w149 (fun al nl ml tl => (V149 al nl ml tl) (S.setE nl (fun j => tl (j + al)))), w149 (fun al nl ml tl => (N149 al nl ml tl) (S.setE nl (fun j => tl (j + al)))), fun _ _ => .dead⟩
theorem s149 (al nl ml : Nat) (tl : Nat → Int) (hp : al + nl ≤ ml ∧ nl ≤ 1000000) : Goes ((q149 al nl ml tl)) ((p149 al nl ml tl)) (S.setE nl (fun j => tl (j + al))) := by
  obtain ⟨hp1, hp2⟩ := hp
  have e : S.all (fun j => decide (-1099511627776 ≤ tl (j + al) ∧ tl (j + al) ≤ 1099511627776)) nl = !S.any (fun j => !decide (-1099511627776 ≤ tl (j + al) ∧ tl (j + al) ≤ 1099511627776)) nl := by
    cases h : S.any (fun j => !decide (-1099511627776 ≤ tl (j + al) ∧ tl (j + al) ≤ 1099511627776)) nl
    · rw [any_no] at h
      exact all_iff.mpr fun j hj => by have := h j hj; rwa [Bool.not_eq_false'] at this
    · rw [any_iff] at h
      obtain ⟨j, hj, h⟩ := h
      rw [Bool.not_eq_true'] at h
      have := all_no (p := fun j => decide (-1099511627776 ≤ tl (j + al) ∧ tl (j + al) ≤ 1099511627776)) hj h
      rw [Bool.not_eq_true] at this
      exact this
  unfold S.setE p149
  rw [e]
  generalize S.any (fun j => !decide (-1099511627776 ≤ tl (j + al) ∧ tl (j + al) ≤ 1099511627776)) nl = A
  show Goes _ _ _
  cases A
  all_goals
   repeat' (first | with_reducible refine goes_if (fun h => ?_) (fun h => ?_) <;> (try simp only [SH] at h) | exact goes_none.mpr (by omega))
   all_goals first | (exfalso; omega) | (rw [if_neg (by omega)]; exact goes_inr.mpr rfl) | (rw [if_pos (by omega)]; exact goes_inr.mpr rfl) | (exfalso; simp_all; done)
theorem k149_ok  : k149.ok Try.prog := by
  intro x hx
  obtain ⟨⟨al, nl, ml, tl, _⟩, _⟩ := x
  obtain ⟨h1, h2⟩ := a149 al nl ml tl (s149 al nl ml tl (of_dec hx rfl))
  exact ⟨⟨400, (by decide : 1 + 1 + 0 ≤ 400), h1⟩, h2⟩
namespace S
def ahdB (n : Nat) (t : Nat → Int) (fl pt x : Int) : Bool := if t (n - 1) < fl then decide (pt ≤ x ∧ x ≤ max fl (maxN t (n - 1))) else decide (x ≤ pt ∧ min fl (minN t (n - 1)) ≤ x)
end S
theorem stp_in  {cn : ByteArray} {n : Nat} {t : Nat → Int} {rp fl : Int} (h : S.cyE cn n t rp fl = 0) : (S.stpL n t rp fl).length ≤ 181 ∧ 1 ≤ (S.stpL n t rp fl).length ∧ ∀ j, j < (S.stpL n t rp fl).length → -1099511627776 ≤ S.at' (S.stpL n t rp fl) j ∧ S.at' (S.stpL n t rp fl) j ≤ 1099511627776 := by
  obtain ⟨c1, c2, c3, c4, c5⟩ := cy_ok h
  have hb := mul_bd c1.2 c2.2
  refine ⟨by rw [stp_len]; omega, by rw [stp_len]; omega, fun j hj => ?_⟩
  rw [stp_len] at hj
  unfold S.stpL
  by_cases h1 : j < n * rp.toNat
  · rw [at_snoc_lt (by rw [mkl_len]; exact h1), at_mkl h1]
    exact (c5 (j % n) (Nat.mod_lt _ (by omega))).1
  · have e : j = (S.mkl (n * rp.toNat) fun j => t (j % n)).length := by rw [mkl_len]; omega
    rw [e, at_snoc_eq]; exact c3
namespace S
abbrev St4  := Int × Bool × Bool × Int
def prS (l : Nat → Int) (pr x : Int) : Int := if x = l pr.toNat then pr + 1 else if x = l 0 then 1 else 0
def setS (n : Nat) (t : Nat → Int) (fl : Int) (nl : Nat) (l : Nat → Int) (a : St4) (x : Int) : St4 :=
  let p := prS l a.1 x
  let ah := a.2.1 && ahdB n t fl a.2.2.2 x
  let dr := a.2.2.1 || (a.2.1 && !ahdB n t fl a.2.2.2 x)
  if p = (nl : Int) then (0, true, dr, fl) else (p, ah, dr, if ah = true then x else a.2.2.2)
def behK (n : Nat) (t : Nat → Int) (fl : Int) (nl : Nat) (l x : Nat → Int) : Nat → St4
  | 0 => (0, false, false, 0)
  | i + 1 => setS n t fl nl l (behK n t fl nl l x i) (x i)
def behS (e : Int) (n : Nat) (t : Nat → Int) (rp fl : Int) (ns : Nat) (x : Nat → Int) : Int × Bool × Bool × Int × Int :=
  if e = 0 then (if setE ns x = 0 then (let a := behK n t fl (stpL n t rp fl).length (fun j => at' (stpL n t rp fl) j) x ns; (a.1, a.2.1, a.2.2.1, a.2.2.2, 0)) else (0, false, false, 0, setE ns x)) else (0, false, false, 0, e)
end S
theorem set_b  {n nl : Nat} {t l : Nat → Int} {fl x : Int} {a : S.St4} (h0 : 2 ≤ nl) (h : 0 ≤ a.1 ∧ a.1 < (nl : Int)) : 0 ≤ (S.setS n t fl nl l a x).1 ∧ (S.setS n t fl nl l a x).1 < (nl : Int) := by
  have hp : 0 ≤ S.prS l a.1 x ∧ S.prS l a.1 x ≤ (nl : Int) := by unfold S.prS; (repeat' split) <;> omega
  unfold S.setS
  generalize S.prS l a.1 x = p at *
  by_cases h1 : p = (nl : Int)
  · simp only [h1, if_true]; omega
  · simp only [h1, if_false]; omega
theorem beh_b  {n nl : Nat} {t l : Nat → Int} {fl : Int} {x : Nat → Int} (h0 : 2 ≤ nl) : ∀ i, 0 ≤ (S.behK n t fl nl l x i).1 ∧ (S.behK n t fl nl l x i).1 < (nl : Int)
  | 0 => ⟨Int.le_refl _, by show (0 : Int) < _; omega⟩
  | i + 1 => set_b h0 (beh_b h0 i)
theorem set_0  {n : Nat} {t : Nat → Int} : S.setE n t = 0 ↔ n ≤ 500 ∧ ∀ j, j < n → -1099511627776 ≤ t j ∧ t j ≤ 1099511627776 := by
  unfold S.setE
  constructor
  · intro h
    split at h
    · cases h
    · split at h
      · rename_i h2
        exact ⟨by omega, fun j hj => of_decide_eq_true (all_iff.mp h2 j hj)⟩
      · cases h
  · rintro ⟨h1, h2⟩
    rw [if_neg (by omega), if_pos (all_iff.mpr fun j hj => decide_eq_true (h2 j hj))]
theorem con_lit  {P : Program} {f : Nat} {ss : List Sh} {pre pre' : SsJ ss → Bool} {res res' : SsJ ss → PV} {new new' : SsJ ss → List Blk} {own own' : SsJ ss → Nat → Blk} (h : Con.ok P ⟨f, ss, pre, res, new, own⟩)
    (hp : ∀ x, pre' x = true → pre x = true ∧ res x = res' x ∧ new x = new' x ∧ own x = own' x) : Con.ok P ⟨f, ss, pre', res', new', own'⟩ := fun x hx => by
  obtain ⟨h1, h2, h3, h4⟩ := hp x hx
  have := h x h1
  simp only at this ⊢
  rw [h2, h3, h4] at this
  exact this
noncomputable def k116z  : Con := ⟨16, [.agg [.plain (.str), .list [.int .i64], .plain (.int .i64), .plain (.int .i64)]], fun (x : (ByteArray × (Nat × Nat × Nat × (Nat → Int) × Unit) × Int × Int × Unit) × Unit) => (fun (cn : ByteArray) (aq nq mq : Nat) (tq : Nat → Int) (rp : Int) (fl : Int) => decide ((aq + nq ≤ mq ∧ nq ≤ 1000000) ∧ (S.cyE cn nq (fun j => tq (j + aq)) rp fl) = 0)) x.1.1 x.1.2.1.1 x.1.2.1.2.1 x.1.2.1.2.2.1 x.1.2.1.2.2.2.1 x.1.2.2.1 x.1.2.2.2.1, fun (x : (ByteArray × (Nat × Nat × Nat × (Nat → Int) × Unit) × Int × Int × Unit) × Unit) => (fun (cn : ByteArray) (aq nq mq : Nat) (tq : Nat → Int) (rp : Int) (fl : Int) => .int .i64 0) x.1.1 x.1.2.1.1 x.1.2.1.2.1 x.1.2.1.2.2.1 x.1.2.1.2.2.2.1 x.1.2.2.1 x.1.2.2.2.1, fun (x : (ByteArray × (Nat × Nat × Nat × (Nat → Int) × Unit) × Int × Int × Unit) × Unit) => (fun (cn : ByteArray) (aq nq mq : Nat) (tq : Nat → Int) (rp : Int) (fl : Int) => []) x.1.1 x.1.2.1.1 x.1.2.1.2.1 x.1.2.1.2.2.1 x.1.2.1.2.2.2.1 x.1.2.2.1 x.1.2.2.2.1, fun _ _ => .dead⟩
theorem k116z_ok  : k116z.ok Try.prog := by
  refine con_lit k116_ok fun x hx => ?_
  obtain ⟨⟨cn, ⟨aq, nq, mq, tq, _⟩, rp, fl, _⟩, _⟩ := x
  have hp : (aq + nq ≤ mq ∧ nq ≤ 1000000) ∧ (S.cyE cn nq (fun j => tq (j + aq)) rp fl) = 0 := of_dec hx rfl
  refine ⟨decide_eq_true hp.1, ?_, rfl, rfl⟩
  show PV.int .i64 (S.cyE cn nq (fun j => tq (j + aq)) rp fl) = _
  rw [hp.2]
noncomputable def k149z  : Con := ⟨49, [.one (.list [.int .i64])], fun (x : (Nat × Nat × Nat × (Nat → Int) × Unit) × Unit) => (fun (al nl ml : Nat) (tl : Nat → Int) => decide ((al + nl ≤ ml ∧ nl ≤ 1000000) ∧ (S.setE nl (fun j => tl (j + al))) = 0)) x.1.1 x.1.2.1 x.1.2.2.1 x.1.2.2.2.1, fun (x : (Nat × Nat × Nat × (Nat → Int) × Unit) × Unit) => (fun (al nl ml : Nat) (tl : Nat → Int) => .int .i64 0) x.1.1 x.1.2.1 x.1.2.2.1 x.1.2.2.2.1, fun (x : (Nat × Nat × Nat × (Nat → Int) × Unit) × Unit) => (fun (al nl ml : Nat) (tl : Nat → Int) => []) x.1.1 x.1.2.1 x.1.2.2.1 x.1.2.2.2.1, fun _ _ => .dead⟩
theorem k149z_ok  : k149z.ok Try.prog := by
  refine con_lit k149_ok fun x hx => ?_
  obtain ⟨⟨al, nl, ml, tl, _⟩, _⟩ := x
  have hp : (al + nl ≤ ml ∧ nl ≤ 1000000) ∧ (S.setE nl (fun j => tl (j + al))) = 0 := of_dec hx rfl
  refine ⟨decide_eq_true hp.1, ?_, rfl, rfl⟩
  show PV.int .i64 (S.setE nl (fun j => tl (j + al))) = _
  rw [hp.2]
noncomputable def k135n  : Con := ⟨35, [.agg [.plain (.str), .list [.int .i64], .plain (.int .i64), .plain (.int .i64)]], fun (x : (ByteArray × (Nat × Nat × Nat × (Nat → Int) × Unit) × Int × Int × Unit) × Unit) => (fun (cn : ByteArray) (aq nq mq : Nat) (tq : Nat → Int) (rp : Int) (fl : Int) => false) x.1.1 x.1.2.1.1 x.1.2.1.2.1 x.1.2.1.2.2.1 x.1.2.1.2.2.2.1 x.1.2.2.1 x.1.2.2.2.1, fun (x : (ByteArray × (Nat × Nat × Nat × (Nat → Int) × Unit) × Int × Int × Unit) × Unit) => (fun (cn : ByteArray) (aq nq mq : Nat) (tq : Nat → Int) (rp : Int) (fl : Int) => .nils) x.1.1 x.1.2.1.1 x.1.2.1.2.1 x.1.2.1.2.2.1 x.1.2.1.2.2.2.1 x.1.2.2.1 x.1.2.2.2.1, fun (x : (ByteArray × (Nat × Nat × Nat × (Nat → Int) × Unit) × Int × Int × Unit) × Unit) => (fun (cn : ByteArray) (aq nq mq : Nat) (tq : Nat → Int) (rp : Int) (fl : Int) => []) x.1.1 x.1.2.1.1 x.1.2.1.2.1 x.1.2.1.2.2.1 x.1.2.1.2.2.2.1 x.1.2.2.1 x.1.2.2.2.1, fun _ _ => .dead⟩
theorem k135n_ok  : k135n.ok Try.prog := fun x hx => by
  obtain ⟨⟨cn, ⟨aq, nq, mq, tq, _⟩, rp, fl, _⟩, _⟩ := x
  exact Bool.noConfusion hx
noncomputable def xM0 (test : Bool → Prop → Prop → Prop) : Ext := consX test [k116z, k135, k149z, k25, k46, k47]
theorem xM0_ok  : ExtOk Try.prog (xM0 cond) := consX_ok ⟨k116z_ok, k135_ok, k149z_ok, k25_ok, k46_ok, k47_ok, trivial⟩
noncomputable def xM1 (test : Bool → Prop → Prop → Prop) : Ext := consX test [k116, k149, k135n]
theorem xM1_ok  : ExtOk Try.prog (xM1 cond) := consX_ok ⟨k116_ok, k149_ok, k135n_ok, trivial⟩
namespace S
def remK (n : Nat) (t : Nat → Int) (fl : Int) (nl : Nat) (l x : Nat → Int) : Nat → Int × Bool × Int × Bool
  | 0 => (0, false, 0, false)
  | i + 1 => let a := remK n t fl nl l x i
    let p := prS l a.1 (x i)
    if p = (nl : Int) then (0, true, fl, a.2.2.2) else if a.2.1 = true then (if ahdB n t fl a.2.2.1 (x i) = true then (p, true, x i, a.2.2.2) else (p, false, a.2.2.1, true)) else (p, false, a.2.2.1, a.2.2.2)
def remS (n : Nat) (t : Nat → Int) (fl rp : Int) (ns : Nat) (x : Nat → Int) : Int × Bool × Int × Bool × List Int :=
  let a := remK n t fl (stpL n t rp fl).length (fun j => at' (stpL n t rp fl) j) x ns
  (a.1, a.2.1, a.2.2.1, a.2.2.2, stpL n t rp fl)
end S
theorem rem_beh  {n nl : Nat} {t l x : Nat → Int} {fl : Int} : ∀ i, (S.remK n t fl nl l x i).1 = (S.behK n t fl nl l x i).1 ∧ (S.remK n t fl nl l x i).2.1 = (S.behK n t fl nl l x i).2.1 ∧ ((S.behK n t fl nl l x i).2.1 = true → (S.remK n t fl nl l x i).2.2.1 = (S.behK n t fl nl l x i).2.2.2) ∧ ((S.behK n t fl nl l x i).2.1 = false → (S.remK n t fl nl l x i).2.2.2 = (S.behK n t fl nl l x i).2.2.1)
  | 0 => ⟨rfl, rfl, fun _ => rfl, fun _ => rfl⟩
  | i + 1 => by
    obtain ⟨h1, h2, h3, h4⟩ := rem_beh (n := n) (nl := nl) (t := t) (l := l) (x := x) (fl := fl) i
    simp only [S.remK, S.behK, S.setS]
    generalize S.remK n t fl nl l x i = a at *
    generalize S.behK n t fl nl l x i = c at *
    obtain ⟨a1, a2, a3, a4⟩ := a
    obtain ⟨c1, c2, c3, c4⟩ := c
    simp only at h1 h2 h3 h4 ⊢
    subst h1 h2
    by_cases hp : S.prS l a1 (x i) = (nl : Int)
    · simp only [hp, if_true]; exact ⟨trivial, trivial, fun _ => trivial, fun h => Bool.noConfusion h⟩
    · simp only [hp, if_false]
      cases a2
      · have h4 := h4 rfl
        simp only [Bool.false_and, Bool.false_eq_true, if_false, Bool.or_false]
        exact ⟨trivial, trivial, fun h => h.elim, fun _ => h4⟩
      · have h3 := h3 rfl
        subst h3
        cases ha : S.ahdB n t fl a3 (x i)
        · simp only [if_true, Bool.true_and, Bool.false_eq_true, if_false, Bool.not_false, Bool.or_true]
          exact ⟨trivial, trivial, fun h => h.elim, fun _ => trivial⟩
        · simp only [if_true, Bool.true_and]
          exact ⟨trivial, trivial, fun _ => trivial, fun h => Bool.noConfusion h⟩
theorem rem_b  {n nl : Nat} {t l x : Nat → Int} {fl : Int} (h0 : 2 ≤ nl) (i : Nat) : 0 ≤ (S.remK n t fl nl l x i).1 ∧ (S.remK n t fl nl l x i).1 < (nl : Int) := by
  rw [(rem_beh i).1]
  exact beh_b h0 i
theorem maxN_snoc  {n : Nat} {t : Nat → Int} {fl : Int} (h : 0 < n) : S.maxN (fun j => bif Nat.blt j n then t j else fl) (n + 1 - 1) = max (S.maxN t (n - 1)) fl := by
  obtain ⟨m, rfl⟩ : ∃ m, n = m + 1 := ⟨n - 1, by omega⟩
  show max (S.maxN _ m) (bif Nat.blt (m + 1) (m + 1) then t (m + 1) else fl) = _
  have e1 : Nat.blt (m + 1) (m + 1) = false := by cases hb : Nat.blt (m + 1) (m + 1); rfl; have := lt_ok hb; omega
  rw [e1, cond_false]
  congr 1
  refine maxN_congr fun j hj => ?_
  have e2 : Nat.blt j (m + 1) = true := by rw [Nat.blt_eq]; omega
  rw [e2, cond_true]
theorem minN_snoc  {n : Nat} {t : Nat → Int} {fl : Int} (h : 0 < n) : S.minN (fun j => bif Nat.blt j n then t j else fl) (n + 1 - 1) = min (S.minN t (n - 1)) fl := by
  obtain ⟨m, rfl⟩ : ∃ m, n = m + 1 := ⟨n - 1, by omega⟩
  show min (S.minN _ m) (bif Nat.blt (m + 1) (m + 1) then t (m + 1) else fl) = _
  have e1 : Nat.blt (m + 1) (m + 1) = false := by cases hb : Nat.blt (m + 1) (m + 1); rfl; have := lt_ok hb; omega
  rw [e1, cond_false]
  congr 1
  refine minN_congr fun j hj => ?_
  have e2 : Nat.blt j (m + 1) = true := by rw [Nat.blt_eq]; omega
  rw [e2, cond_true]
inductive St146 where
  | h0 (x0 : Int) (x1 : Int) (x2 : Bool) (x3 : Int) (x4 : Bool) (x5 : List Int)
abbrev Rt146  := Int × Bool × Int × Bool × List Int
noncomputable def V146 (cn : ByteArray) (aq nq mq : Nat) (tq : NI) (rp fl : Int) (al nl ml : Nat) (tl : NI) (r : Rt146) : PV := PV.tup [PV.ptr (PA.mk (3) (0) (0) (0)), PV.int .i64 (0 : Int)]
noncomputable def N146 (cn : ByteArray) (aq nq mq : Nat) (tq : NI) (rp fl : Int) (al nl ml : Nat) (tl : NI) (r : Rt146) : List Blk := [Blk.cells [PV.str cn, PV.loose (PA.mk (0) (1) aq (0)) nq, PV.int .i64 rp, PV.int .i64 fl, PV.own (4) (1) (List.length r.2.2.2.2), PV.int .i64 r.1, PV.bool r.2.1, PV.int .i64 r.2.2.1, PV.bool r.2.2.2.1], Blk.cols (List.length r.2.2.2.2) [Col.int .i64 fun j => S.at' r.2.2.2.2 j]]
noncomputable def I146 (cn : ByteArray) (aq nq mq : Nat) (tq : NI) (rp fl : Int) (al nl ml : Nat) (tl : NI) : St146 → Hd
  | .h0 x0 x1 x2 x3 x4 x5 => ⟨hd Try.f46 0, [PV.ptr (PA.mk (2) (0) (0) (0)),
 PV.loose (PA.mk (1) (1) al (0)) nl, PV.int .i64 (↑nl : Int),
 PV.int .i64 x0], [[(2, (true, Blk.cells
 [PV.str cn, PV.loose (PA.mk (0) (1) aq (0)) nq,
 PV.int .i64 rp, PV.int .i64 fl,
 PV.own (3) (1) (List.length x5), PV.int .i64 x1, PV.bool x2,
 PV.int .i64 x3, PV.bool x4])), (3, (true, Blk.cols (List.length x5) [Col.int .i64 fun j => S.at' x5 j]))], [(0, (false, .cols mq [.int .i64 tq])), (1, (false, .cols ml [.int .i64 tl]))]], 4⟩
noncomputable def q146 (cn : ByteArray) (aq nq mq : Nat) (tq : NI) (rp fl : Int) (al nl ml : Nat) (tl : NI) : St146 → Option (St146 ⊕ Rt146) | .h0 x0 x1 x2 x3 x4 x5 => bif (decide (x0 < (↑nl : Int))) then (bif (decide ((0 : Int) ≤ x0 ∧ x0 < (↑nl : Int))) then (bif (decide (Int.toNat x0 + al < ml)) then (bif (decide ((0 : Int) ≤ x1 ∧ x1 < (↑(List.length x5) : Int))) then (bif (decide (Int.toNat x1 < List.length x5)) then (bif (tl (Int.toNat x0 + al) == S.at' x5 (Int.toNat x1)) then (bif (lim .i64 (x1 + 1)) then (bif (x1 + 1 == (↑(List.length x5) : Int)) then (bif (lim .i64 (x0 + 1)) then (some (.inl (.h0 (x0 + 1) ((0 : Int)) (true) (fl) (x4) (x5)))) else (none)) else (bif (x2) then (bif (decide (aq + nq ≤ mq ∧ nq ≤ 1000000)) then (bif (decide (nq + 1 ≤ 1000000)) then (bif (decide (nq ≤ nq)) then (bif (lim .i64 ((↑nq : Int) - 1)) then (bif (decide ((0 : Int) ≤ (↑nq : Int) - 1 ∧ (↑nq : Int) - 1 < (↑nq : Int))) then (bif (decide (Int.toNat ((↑nq : Int) - 1) + aq < mq)) then (bif (decide (fl > tq (Int.toNat ((↑nq : Int) - 1) + aq))) then (bif (decide (tl (Int.toNat x0 + al) ≥ x3)) then (bif (decide (0 + (nq + 1) ≤ nq + 1 ∧ nq + 1 ≤ 1000000 ∧ 0 < nq + 1)) then (bif (decide (tl (Int.toNat x0 + al) ≤ S.maxN (fun j => bif Nat.blt j nq then tq (j + aq) else fl) (nq + 1 - 1))) then (bif (lim .i64 (x0 + 1)) then (some (.inl (.h0 (x0 + 1) (x1 + 1) (x2) (tl (Int.toNat x0 + al)) (x4) (x5)))) else (none)) else (bif (lim .i64 (x0 + 1)) then (some (.inl (.h0 (x0 + 1) (x1 + 1) (false) (x3) (true) (x5)))) else (none))) else (none)) else (bif (lim .i64 (x0 + 1)) then (some (.inl (.h0 (x0 + 1) (x1 + 1) (false) (x3) (true) (x5)))) else (none))) else (bif (decide (tl (Int.toNat x0 + al) ≤ x3)) then (bif (decide (0 + (nq + 1) ≤ nq + 1 ∧ nq + 1 ≤ 1000000 ∧ 0 < nq + 1)) then (bif (decide (tl (Int.toNat x0 + al) ≥ S.minN (fun j => bif Nat.blt j nq then tq (j + aq) else fl) (nq + 1 - 1))) then (bif (lim .i64 (x0 + 1)) then (some (.inl (.h0 (x0 + 1) (x1 + 1) (x2) (tl (Int.toNat x0 + al)) (x4) (x5)))) else (none)) else (bif (lim .i64 (x0 + 1)) then (some (.inl (.h0 (x0 + 1) (x1 + 1) (false) (x3) (true) (x5)))) else (none))) else (none)) else (bif (lim .i64 (x0 + 1)) then (some (.inl (.h0 (x0 + 1) (x1 + 1) (false) (x3) (true) (x5)))) else (none)))) else (none)) else (none)) else (none)) else (none)) else (none)) else (none)) else (bif (lim .i64 (x0 + 1)) then (some (.inl (.h0 (x0 + 1) (x1 + 1) (x2) (x3) (x4) (x5)))) else (none)))) else (none)) else (bif (decide ((0 : Int) ≤ 0 ∧ (0 : Int) < (↑(List.length x5) : Int))) then (bif (decide (0 < List.length x5)) then (bif (tl (Int.toNat x0 + al) == S.at' x5 (0)) then (bif ((1 : Int) == (↑(List.length x5) : Int)) then (bif (lim .i64 (x0 + 1)) then (some (.inl (.h0 (x0 + 1) ((0 : Int)) (true) (fl) (x4) (x5)))) else (none)) else (bif (x2) then (bif (decide (aq + nq ≤ mq ∧ nq ≤ 1000000)) then (bif (decide (nq + 1 ≤ 1000000)) then (bif (decide (nq ≤ nq)) then (bif (lim .i64 ((↑nq : Int) - 1)) then (bif (decide ((0 : Int) ≤ (↑nq : Int) - 1 ∧ (↑nq : Int) - 1 < (↑nq : Int))) then (bif (decide (Int.toNat ((↑nq : Int) - 1) + aq < mq)) then (bif (decide (fl > tq (Int.toNat ((↑nq : Int) - 1) + aq))) then (bif (decide (tl (Int.toNat x0 + al) ≥ x3)) then (bif (decide (0 + (nq + 1) ≤ nq + 1 ∧ nq + 1 ≤ 1000000 ∧ 0 < nq + 1)) then (bif (decide (tl (Int.toNat x0 + al) ≤ S.maxN (fun j => bif Nat.blt j nq then tq (j + aq) else fl) (nq + 1 - 1))) then (bif (lim .i64 (x0 + 1)) then (some (.inl (.h0 (x0 + 1) ((1 : Int)) (x2) (tl (Int.toNat x0 + al)) (x4) (x5)))) else (none)) else (bif (lim .i64 (x0 + 1)) then (some (.inl (.h0 (x0 + 1) ((1 : Int)) (false) (x3) (true) (x5)))) else (none))) else (none)) else (bif (lim .i64 (x0 + 1)) then (some (.inl (.h0 (x0 + 1) ((1 : Int)) (false) (x3) (true) (x5)))) else (none))) else (bif (decide (tl (Int.toNat x0 + al) ≤ x3)) then (bif (decide (0 + (nq + 1) ≤ nq + 1 ∧ nq + 1 ≤ 1000000 ∧ 0 < nq + 1)) then (bif (decide (tl (Int.toNat x0 + al) ≥ S.minN (fun j => bif Nat.blt j nq then tq (j + aq) else fl) (nq + 1 - 1))) then (bif (lim .i64 (x0 + 1)) then (some (.inl (.h0 (x0 + 1) ((1 : Int)) (x2) (tl (Int.toNat x0 + al)) (x4) (x5)))) else (none)) else (bif (lim .i64 (x0 + 1)) then (some (.inl (.h0 (x0 + 1) ((1 : Int)) (false) (x3) (true) (x5)))) else (none))) else (none)) else (bif (lim .i64 (x0 + 1)) then (some (.inl (.h0 (x0 + 1) ((1 : Int)) (false) (x3) (true) (x5)))) else (none)))) else (none)) else (none)) else (none)) else (none)) else (none)) else (none)) else (bif (lim .i64 (x0 + 1)) then (some (.inl (.h0 (x0 + 1) ((1 : Int)) (x2) (x3) (x4) (x5)))) else (none)))) else (bif ((0 : Int) == (↑(List.length x5) : Int)) then (bif (lim .i64 (x0 + 1)) then (some (.inl (.h0 (x0 + 1) ((0 : Int)) (true) (fl) (x4) (x5)))) else (none)) else (bif (x2) then (bif (decide (aq + nq ≤ mq ∧ nq ≤ 1000000)) then (bif (decide (nq + 1 ≤ 1000000)) then (bif (decide (nq ≤ nq)) then (bif (lim .i64 ((↑nq : Int) - 1)) then (bif (decide ((0 : Int) ≤ (↑nq : Int) - 1 ∧ (↑nq : Int) - 1 < (↑nq : Int))) then (bif (decide (Int.toNat ((↑nq : Int) - 1) + aq < mq)) then (bif (decide (fl > tq (Int.toNat ((↑nq : Int) - 1) + aq))) then (bif (decide (tl (Int.toNat x0 + al) ≥ x3)) then (bif (decide (0 + (nq + 1) ≤ nq + 1 ∧ nq + 1 ≤ 1000000 ∧ 0 < nq + 1)) then (bif (decide (tl (Int.toNat x0 + al) ≤ S.maxN (fun j => bif Nat.blt j nq then tq (j + aq) else fl) (nq + 1 - 1))) then (bif (lim .i64 (x0 + 1)) then (some (.inl (.h0 (x0 + 1) ((0 : Int)) (x2) (tl (Int.toNat x0 + al)) (x4) (x5)))) else (none)) else (bif (lim .i64 (x0 + 1)) then (some (.inl (.h0 (x0 + 1) ((0 : Int)) (false) (x3) (true) (x5)))) else (none))) else (none)) else (bif (lim .i64 (x0 + 1)) then (some (.inl (.h0 (x0 + 1) ((0 : Int)) (false) (x3) (true) (x5)))) else (none))) else (bif (decide (tl (Int.toNat x0 + al) ≤ x3)) then (bif (decide (0 + (nq + 1) ≤ nq + 1 ∧ nq + 1 ≤ 1000000 ∧ 0 < nq + 1)) then (bif (decide (tl (Int.toNat x0 + al) ≥ S.minN (fun j => bif Nat.blt j nq then tq (j + aq) else fl) (nq + 1 - 1))) then (bif (lim .i64 (x0 + 1)) then (some (.inl (.h0 (x0 + 1) ((0 : Int)) (x2) (tl (Int.toNat x0 + al)) (x4) (x5)))) else (none)) else (bif (lim .i64 (x0 + 1)) then (some (.inl (.h0 (x0 + 1) ((0 : Int)) (false) (x3) (true) (x5)))) else (none))) else (none)) else (bif (lim .i64 (x0 + 1)) then (some (.inl (.h0 (x0 + 1) ((0 : Int)) (false) (x3) (true) (x5)))) else (none)))) else (none)) else (none)) else (none)) else (none)) else (none)) else (none)) else (bif (lim .i64 (x0 + 1)) then (some (.inl (.h0 (x0 + 1) ((0 : Int)) (x2) (x3) (x4) (x5)))) else (none))))) else (none)) else (none))) else (none)) else (none)) else (none)) else (none)) else (some (.inr (x1, x2, x3, x4, x5)))
noncomputable def p146 (cn : ByteArray) (aq nq mq : Nat) (tq : NI) (rp fl : Int) (al nl ml : Nat) (tl : NI) : Option (St146 ⊕ Rt146) := bif (decide ((aq + nq ≤ mq ∧ nq ≤ 1000000) ∧ S.cyE cn nq (fun j => tq (j + aq)) rp fl = 0)) then (bif (decide ((al + nl ≤ ml ∧ nl ≤ 1000000) ∧ (S.setE nl fun j => tl (j + al)) = 0)) then (bif (decide (aq + nq ≤ mq ∧ nq ≤ 20 ∧ (0 : Int) ≤ rp ∧ rp ≤ 9)) then (some (.inl (.h0 ((0 : Int)) ((0 : Int)) (false) ((0 : Int)) (false) (S.stpL nq (fun j => tq (j + aq)) rp fl)))) else (none)) else (none)) else (none)
def Te146 (test : TT) (Kst : KS) (Kret : KR) (cn : ByteArray) (aq nq mq : Nat) (tq : NI) (rp fl : Int) (al nl ml : Nat) (tl : NI) : Prop := test (decide ((aq + nq ≤ mq ∧ nq ≤ 1000000) ∧ S.cyE cn nq (fun j => tq (j + aq)) rp fl = 0)) (test (decide ((al + nl ≤ ml ∧ nl ≤ 1000000) ∧ (S.setE nl fun j => tl (j + al)) = 0)) (test (decide (aq + nq ≤ mq ∧ nq ≤ 20 ∧ (0 : Int) ≤ rp ∧ rp ≤ 9)) (Kst (hd Try.f46 0) ([PV.ptr (PA.mk (7) (0) (0) (0)), PV.loose (PA.mk (1) (1) al (0)) nl, PV.int .i64 (↑nl : Int), PV.int .i64 (0 : Int)]) ([[(1, false, Blk.cols ml [Col.int .i64 tl]), (0, false, Blk.cols mq [Col.int .i64 tq]), (7, true, Blk.cells [PV.str cn, PV.loose (PA.mk (0) (1) aq (0)) nq, PV.int .i64 rp, PV.int .i64 fl, PV.own (6) (1) (List.length (S.stpL nq (fun j => tq (j + aq)) rp fl)), PV.int .i64 (0 : Int), PV.tf false, PV.int .i64 (0 : Int), PV.tf false]), (6, true, Blk.cols (List.length (S.stpL nq (fun j => tq (j + aq)) rp fl)) [Col.int .i64 fun j => S.at' (S.stpL nq (fun j => tq (j + aq)) rp fl) j])]]) (8)) (False)) (False)) (False)
theorem te146 (Kst : KS) (Kret : KR) (cn : ByteArray) (aq nq mq : Nat) (tq : NI) (rp fl : Int) (al nl ml : Nat) (tl : NI) : run cond Try.env true (xM0 cond) true 400 ⟨46, [.cd (mkFn Try.f46).body], argT 0 [.agg [.str cn, .loose ⟨0, 1, aq, 0⟩ nq, .int .i64 rp, .int .i64 fl], .loose ⟨1, 1, al, 0⟩ nl], [[], [(0, (false, .cols mq [.int .i64 tq])), (1, (false, .cols ml [.int .i64 tl]))]], 2⟩ (proj 2 [8, 26, 27, 28] Kst Kret) =
  Te146 cond Kst Kret cn aq nq mq tq rp fl al nl ml tl := by kernel_rfl
noncomputable abbrev u146_0_0 (al nl : Nat) (x0 : Int) := ([PV.ptr (PA.mk (2) (0) (0) (0)), PV.loose (PA.mk (1) (1) al (0)) nl, PV.int IntKind.i64 (↑nl : Int), PV.int IntKind.i64 (x0 + (1 : Int))])
noncomputable abbrev u146_0_1 (x5 : List Int) := (3, true, Blk.cols (List.length x5) [Col.int IntKind.i64 fun j => S.at' x5 j])
noncomputable abbrev u146_0_2 (cn : ByteArray) (aq nq mq : Nat) (tq : Nat → Int) (rp fl : Int) (ml : Nat) (tl : Nat → Int) (x1 x3 : Int) (x5 : List Int) := ([[(1, false, Blk.cols ml [Col.int IntKind.i64 tl]), (0, false, Blk.cols mq [Col.int IntKind.i64 tq]), (2, true, Blk.cells [PV.str cn, PV.loose (PA.mk (0) (1) aq (0)) nq, PV.int IntKind.i64 rp, PV.int IntKind.i64 fl, PV.own (3) (1) (List.length x5), PV.int IntKind.i64 (x1 + (1 : Int)), PV.tf false, PV.int IntKind.i64 x3, PV.tf true]), (u146_0_1 x5)]])
noncomputable abbrev u146_0_3 (cn : ByteArray) (aq nq mq : Nat) (tq : Nat → Int) (rp fl : Int) (ml : Nat) (tl : Nat → Int) (x3 : Int) (x5 : List Int) := ([[(1, false, Blk.cols ml [Col.int IntKind.i64 tl]), (0, false, Blk.cols mq [Col.int IntKind.i64 tq]), (2, true, Blk.cells [PV.str cn, PV.loose (PA.mk (0) (1) aq (0)) nq, PV.int IntKind.i64 rp, PV.int IntKind.i64 fl, PV.own (3) (1) (List.length x5), PV.int IntKind.i64 (1 : Int), PV.tf false, PV.int IntKind.i64 x3, PV.tf true]), (u146_0_1 x5)]])
noncomputable abbrev u146_0_4 (cn : ByteArray) (aq nq mq : Nat) (tq : Nat → Int) (rp fl : Int) (ml : Nat) (tl : Nat → Int) (x3 : Int) (x5 : List Int) := ([[(1, false, Blk.cols ml [Col.int IntKind.i64 tl]), (0, false, Blk.cols mq [Col.int IntKind.i64 tq]), (2, true, Blk.cells [PV.str cn, PV.loose (PA.mk (0) (1) aq (0)) nq, PV.int IntKind.i64 rp, PV.int IntKind.i64 fl, PV.own (3) (1) (List.length x5), PV.int IntKind.i64 (0 : Int), PV.tf false, PV.int IntKind.i64 x3, PV.tf true]), (u146_0_1 x5)]])
noncomputable abbrev u146_0_5 (cn : ByteArray) (aq nq mq : Nat) (tq : Nat → Int) (rp fl : Int) (ml : Nat) (tl : Nat → Int) (x1 : Int) (x2 : Bool) (x3 : Int) (x4 : Bool) (x5 : List Int) := ([[(1, false, Blk.cols ml [Col.int IntKind.i64 tl]), (0, false, Blk.cols mq [Col.int IntKind.i64 tq]), (2, true, Blk.cells [PV.str cn, PV.loose (PA.mk (0) (1) aq (0)) nq, PV.int IntKind.i64 rp, PV.int IntKind.i64 fl, PV.own (3) (1) (List.length x5), PV.int IntKind.i64 (x1 + (1 : Int)), PV.bool x2, PV.int IntKind.i64 x3, PV.bool x4]), (u146_0_1 x5)]])
noncomputable abbrev u146_0_6 (cn : ByteArray) (aq nq mq : Nat) (tq : Nat → Int) (rp fl : Int) (ml : Nat) (tl : Nat → Int) (x2 : Bool) (x3 : Int) (x4 : Bool) (x5 : List Int) := ([[(1, false, Blk.cols ml [Col.int IntKind.i64 tl]), (0, false, Blk.cols mq [Col.int IntKind.i64 tq]), (2, true, Blk.cells [PV.str cn, PV.loose (PA.mk (0) (1) aq (0)) nq, PV.int IntKind.i64 rp, PV.int IntKind.i64 fl, PV.own (3) (1) (List.length x5), PV.int IntKind.i64 (1 : Int), PV.bool x2, PV.int IntKind.i64 x3, PV.bool x4]), (u146_0_1 x5)]])
noncomputable abbrev u146_0_7 (cn : ByteArray) (aq nq mq : Nat) (tq : Nat → Int) (rp fl : Int) (ml : Nat) (tl : Nat → Int) (x2 : Bool) (x3 : Int) (x4 : Bool) (x5 : List Int) := ([[(1, false, Blk.cols ml [Col.int IntKind.i64 tl]), (0, false, Blk.cols mq [Col.int IntKind.i64 tq]), (2, true, Blk.cells [PV.str cn, PV.loose (PA.mk (0) (1) aq (0)) nq, PV.int IntKind.i64 rp, PV.int IntKind.i64 fl, PV.own (3) (1) (List.length x5), PV.int IntKind.i64 (0 : Int), PV.bool x2, PV.int IntKind.i64 x3, PV.bool x4]), (u146_0_1 x5)]])
noncomputable abbrev u146_0_8 (cn : ByteArray) (aq nq mq : Nat) (tq : Nat → Int) (rp fl : Int) (ml : Nat) (tl : Nat → Int) (x4 : Bool) (x5 : List Int) := ([[(1, false, Blk.cols ml [Col.int IntKind.i64 tl]), (0, false, Blk.cols mq [Col.int IntKind.i64 tq]), (2, true, Blk.cells [PV.str cn, PV.loose (PA.mk (0) (1) aq (0)) nq, PV.int IntKind.i64 rp, PV.int IntKind.i64 fl, PV.own (3) (1) (List.length x5), PV.int IntKind.i64 (0 : Int), PV.tf true, PV.int IntKind.i64 fl, PV.bool x4]), (u146_0_1 x5)]])
noncomputable abbrev u146_0_9 (nq : Nat) := decide (0 + (nq + 1) ≤ nq + 1 ∧ nq + 1 ≤ 1000000 ∧ 0 < nq + 1)
noncomputable abbrev u146_0_10 (ml : Nat) (tl : Nat → Int) := (1, false, Blk.cols ml [Col.int IntKind.i64 tl])
noncomputable abbrev u146_0_11 (mq : Nat) (tq : Nat → Int) := (0, false, Blk.cols mq [Col.int IntKind.i64 tq])
def T146_0 (test : TT) (Kst : KS) (Kret : KR) (cn : ByteArray) (aq nq mq : Nat) (tq : NI) (rp fl : Int) (al nl ml : Nat) (tl : NI) (x0 x1 : Int) (x2 : Bool) (x3 : Int) (x4 : Bool) (x5 : List Int) : Prop := test (decide (x0 < (↑nl : Int))) (test (decide ((0 : Int) ≤ x0 ∧ x0 < (↑nl : Int))) (test (decide (Int.toNat x0 + al < ml)) (test (decide ((0 : Int) ≤ x1 ∧ x1 < (↑(List.length x5) : Int))) (test (decide (Int.toNat x1 < List.length x5)) (test (tl (Int.toNat x0 + al) == S.at' x5 (Int.toNat x1)) (test (lim .i64 (x1 + 1)) (test (x1 + 1 == (↑(List.length x5) : Int)) (test (lim .i64 (x0 + 1)) (Kst (hd Try.f46 0) (u146_0_0 al nl x0) (u146_0_8 cn aq nq mq tq rp fl ml tl x4 x5) (4)) (False)) (test (x2) (test (decide (aq + nq ≤ mq ∧ nq ≤ 1000000)) (test (decide (nq + 1 ≤ 1000000)) (test (decide (nq ≤ nq)) (test (lim .i64 ((↑nq : Int) - 1)) (test (decide ((0 : Int) ≤ (↑nq : Int) - 1 ∧ (↑nq : Int) - 1 < (↑nq : Int))) (test (decide (Int.toNat ((↑nq : Int) - 1) + aq < mq)) (test (decide (fl > tq (Int.toNat ((↑nq : Int) - 1) + aq))) (test (decide (tl (Int.toNat x0 + al) ≥ x3)) (test (u146_0_9 nq) (test (decide (tl (Int.toNat x0 + al) ≤ S.maxN (fun j => bif Nat.blt j nq then tq (j + aq) else fl) (nq + 1 - 1))) (test (lim .i64 (x0 + 1)) (Kst (hd Try.f46 0) (u146_0_0 al nl x0) ([[(u146_0_10 ml tl), (u146_0_11 mq tq), (2, true, Blk.cells [PV.str cn, PV.loose (PA.mk (0) (1) aq (0)) nq, PV.int .i64 rp, PV.int .i64 fl, PV.own (3) (1) (List.length x5), PV.int .i64 (x1 + 1), PV.bool x2, PV.int .i64 (tl (Int.toNat x0 + al)), PV.bool x4]), (u146_0_1 x5)]]) (10)) (False)) (test (x2) (test (lim .i64 (x0 + 1)) (Kst (hd Try.f46 0) (u146_0_0 al nl x0) (u146_0_2 cn aq nq mq tq rp fl ml tl x1 x3 x5) (10)) (False)) (test (lim .i64 (x0 + 1)) (Kst (hd Try.f46 0) (u146_0_0 al nl x0) (u146_0_5 cn aq nq mq tq rp fl ml tl x1 x2 x3 x4 x5) (10)) (False)))) (False)) (test (x2) (test (lim .i64 (x0 + 1)) (Kst (hd Try.f46 0) (u146_0_0 al nl x0) (u146_0_2 cn aq nq mq tq rp fl ml tl x1 x3 x5) (9)) (False)) (test (lim .i64 (x0 + 1)) (Kst (hd Try.f46 0) (u146_0_0 al nl x0) (u146_0_5 cn aq nq mq tq rp fl ml tl x1 x2 x3 x4 x5) (9)) (False)))) (test (decide (tl (Int.toNat x0 + al) ≤ x3)) (test (u146_0_9 nq) (test (decide (tl (Int.toNat x0 + al) ≥ S.minN (fun j => bif Nat.blt j nq then tq (j + aq) else fl) (nq + 1 - 1))) (test (lim .i64 (x0 + 1)) (Kst (hd Try.f46 0) (u146_0_0 al nl x0) ([[(u146_0_10 ml tl), (u146_0_11 mq tq), (2, true, Blk.cells [PV.str cn, PV.loose (PA.mk (0) (1) aq (0)) nq, PV.int .i64 rp, PV.int .i64 fl, PV.own (3) (1) (List.length x5), PV.int .i64 (x1 + 1), PV.bool x2, PV.int .i64 (tl (Int.toNat x0 + al)), PV.bool x4]), (u146_0_1 x5)]]) (10)) (False)) (test (x2) (test (lim .i64 (x0 + 1)) (Kst (hd Try.f46 0) (u146_0_0 al nl x0) (u146_0_2 cn aq nq mq tq rp fl ml tl x1 x3 x5) (10)) (False)) (test (lim .i64 (x0 + 1)) (Kst (hd Try.f46 0) (u146_0_0 al nl x0) (u146_0_5 cn aq nq mq tq rp fl ml tl x1 x2 x3 x4 x5) (10)) (False)))) (False)) (test (x2) (test (lim .i64 (x0 + 1)) (Kst (hd Try.f46 0) (u146_0_0 al nl x0) (u146_0_2 cn aq nq mq tq rp fl ml tl x1 x3 x5) (9)) (False)) (test (lim .i64 (x0 + 1)) (Kst (hd Try.f46 0) (u146_0_0 al nl x0) (u146_0_5 cn aq nq mq tq rp fl ml tl x1 x2 x3 x4 x5) (9)) (False))))) (False)) (False)) (False)) (False)) (False)) (False)) (test (x2) (test (lim .i64 (x0 + 1)) (Kst (hd Try.f46 0) (u146_0_0 al nl x0) (u146_0_2 cn aq nq mq tq rp fl ml tl x1 x3 x5) (4)) (False)) (test (lim .i64 (x0 + 1)) (Kst (hd Try.f46 0) (u146_0_0 al nl x0) (u146_0_5 cn aq nq mq tq rp fl ml tl x1 x2 x3 x4 x5) (4)) (False))))) (False)) (test (decide ((0 : Int) ≤ 0 ∧ (0 : Int) < (↑(List.length x5) : Int))) (test (decide (0 < List.length x5)) (test (tl (Int.toNat x0 + al) == S.at' x5 (0)) (test ((1 : Int) == (↑(List.length x5) : Int)) (test (lim .i64 (x0 + 1)) (Kst (hd Try.f46 0) (u146_0_0 al nl x0) (u146_0_8 cn aq nq mq tq rp fl ml tl x4 x5) (4)) (False)) (test (x2) (test (decide (aq + nq ≤ mq ∧ nq ≤ 1000000)) (test (decide (nq + 1 ≤ 1000000)) (test (decide (nq ≤ nq)) (test (lim .i64 ((↑nq : Int) - 1)) (test (decide ((0 : Int) ≤ (↑nq : Int) - 1 ∧ (↑nq : Int) - 1 < (↑nq : Int))) (test (decide (Int.toNat ((↑nq : Int) - 1) + aq < mq)) (test (decide (fl > tq (Int.toNat ((↑nq : Int) - 1) + aq))) (test (decide (tl (Int.toNat x0 + al) ≥ x3)) (test (u146_0_9 nq) (test (decide (tl (Int.toNat x0 + al) ≤ S.maxN (fun j => bif Nat.blt j nq then tq (j + aq) else fl) (nq + 1 - 1))) (test (lim .i64 (x0 + 1)) (Kst (hd Try.f46 0) (u146_0_0 al nl x0) ([[(u146_0_10 ml tl), (u146_0_11 mq tq), (2, true, Blk.cells [PV.str cn, PV.loose (PA.mk (0) (1) aq (0)) nq, PV.int .i64 rp, PV.int .i64 fl, PV.own (3) (1) (List.length x5), PV.int .i64 (1 : Int), PV.bool x2, PV.int .i64 (tl (Int.toNat x0 + al)), PV.bool x4]), (u146_0_1 x5)]]) (10)) (False)) (test (x2) (test (lim .i64 (x0 + 1)) (Kst (hd Try.f46 0) (u146_0_0 al nl x0) (u146_0_3 cn aq nq mq tq rp fl ml tl x3 x5) (10)) (False)) (test (lim .i64 (x0 + 1)) (Kst (hd Try.f46 0) (u146_0_0 al nl x0) (u146_0_6 cn aq nq mq tq rp fl ml tl x2 x3 x4 x5) (10)) (False)))) (False)) (test (x2) (test (lim .i64 (x0 + 1)) (Kst (hd Try.f46 0) (u146_0_0 al nl x0) (u146_0_3 cn aq nq mq tq rp fl ml tl x3 x5) (9)) (False)) (test (lim .i64 (x0 + 1)) (Kst (hd Try.f46 0) (u146_0_0 al nl x0) (u146_0_6 cn aq nq mq tq rp fl ml tl x2 x3 x4 x5) (9)) (False)))) (test (decide (tl (Int.toNat x0 + al) ≤ x3)) (test (u146_0_9 nq) (test (decide (tl (Int.toNat x0 + al) ≥ S.minN (fun j => bif Nat.blt j nq then tq (j + aq) else fl) (nq + 1 - 1))) (test (lim .i64 (x0 + 1)) (Kst (hd Try.f46 0) (u146_0_0 al nl x0) ([[(u146_0_10 ml tl), (u146_0_11 mq tq), (2, true, Blk.cells [PV.str cn, PV.loose (PA.mk (0) (1) aq (0)) nq, PV.int .i64 rp, PV.int .i64 fl, PV.own (3) (1) (List.length x5), PV.int .i64 (1 : Int), PV.bool x2, PV.int .i64 (tl (Int.toNat x0 + al)), PV.bool x4]), (u146_0_1 x5)]]) (10)) (False)) (test (x2) (test (lim .i64 (x0 + 1)) (Kst (hd Try.f46 0) (u146_0_0 al nl x0) (u146_0_3 cn aq nq mq tq rp fl ml tl x3 x5) (10)) (False)) (test (lim .i64 (x0 + 1)) (Kst (hd Try.f46 0) (u146_0_0 al nl x0) (u146_0_6 cn aq nq mq tq rp fl ml tl x2 x3 x4 x5) (10)) (False)))) (False)) (test (x2) (test (lim .i64 (x0 + 1)) (Kst (hd Try.f46 0) (u146_0_0 al nl x0) (u146_0_3 cn aq nq mq tq rp fl ml tl x3 x5) (9)) (False)) (test (lim .i64 (x0 + 1)) (Kst (hd Try.f46 0) (u146_0_0 al nl x0) (u146_0_6 cn aq nq mq tq rp fl ml tl x2 x3 x4 x5) (9)) (False))))) (False)) (False)) (False)) (False)) (False)) (False)) (test (x2) (test (lim .i64 (x0 + 1)) (Kst (hd Try.f46 0) (u146_0_0 al nl x0) (u146_0_3 cn aq nq mq tq rp fl ml tl x3 x5) (4)) (False)) (test (lim .i64 (x0 + 1)) (Kst (hd Try.f46 0) (u146_0_0 al nl x0) (u146_0_6 cn aq nq mq tq rp fl ml tl x2 x3 x4 x5) (4)) (False))))) (test ((0 : Int) == (↑(List.length x5) : Int)) (test (lim .i64 (x0 + 1)) (Kst (hd Try.f46 0) (u146_0_0 al nl x0) (u146_0_8 cn aq nq mq tq rp fl ml tl x4 x5) (4)) (False)) (test (x2) (test (decide (aq + nq ≤ mq ∧ nq ≤ 1000000)) (test (decide (nq + 1 ≤ 1000000)) (test (decide (nq ≤ nq)) (test (lim .i64 ((↑nq : Int) - 1)) (test (decide ((0 : Int) ≤ (↑nq : Int) - 1 ∧ (↑nq : Int) - 1 < (↑nq : Int))) (test (decide (Int.toNat ((↑nq : Int) - 1) + aq < mq)) (test (decide (fl > tq (Int.toNat ((↑nq : Int) - 1) + aq))) (test (decide (tl (Int.toNat x0 + al) ≥ x3)) (test (u146_0_9 nq) (test (decide (tl (Int.toNat x0 + al) ≤ S.maxN (fun j => bif Nat.blt j nq then tq (j + aq) else fl) (nq + 1 - 1))) (test (lim .i64 (x0 + 1)) (Kst (hd Try.f46 0) (u146_0_0 al nl x0) ([[(u146_0_10 ml tl), (u146_0_11 mq tq), (2, true, Blk.cells [PV.str cn, PV.loose (PA.mk (0) (1) aq (0)) nq, PV.int .i64 rp, PV.int .i64 fl, PV.own (3) (1) (List.length x5), PV.int .i64 (0 : Int), PV.bool x2, PV.int .i64 (tl (Int.toNat x0 + al)), PV.bool x4]), (u146_0_1 x5)]]) (10)) (False)) (test (x2) (test (lim .i64 (x0 + 1)) (Kst (hd Try.f46 0) (u146_0_0 al nl x0) (u146_0_4 cn aq nq mq tq rp fl ml tl x3 x5) (10)) (False)) (test (lim .i64 (x0 + 1)) (Kst (hd Try.f46 0) (u146_0_0 al nl x0) (u146_0_7 cn aq nq mq tq rp fl ml tl x2 x3 x4 x5) (10)) (False)))) (False)) (test (x2) (test (lim .i64 (x0 + 1)) (Kst (hd Try.f46 0) (u146_0_0 al nl x0) (u146_0_4 cn aq nq mq tq rp fl ml tl x3 x5) (9)) (False)) (test (lim .i64 (x0 + 1)) (Kst (hd Try.f46 0) (u146_0_0 al nl x0) (u146_0_7 cn aq nq mq tq rp fl ml tl x2 x3 x4 x5) (9)) (False)))) (test (decide (tl (Int.toNat x0 + al) ≤ x3)) (test (u146_0_9 nq) (test (decide (tl (Int.toNat x0 + al) ≥ S.minN (fun j => bif Nat.blt j nq then tq (j + aq) else fl) (nq + 1 - 1))) (test (lim .i64 (x0 + 1)) (Kst (hd Try.f46 0) (u146_0_0 al nl x0) ([[(u146_0_10 ml tl), (u146_0_11 mq tq), (2, true, Blk.cells [PV.str cn, PV.loose (PA.mk (0) (1) aq (0)) nq, PV.int .i64 rp, PV.int .i64 fl, PV.own (3) (1) (List.length x5), PV.int .i64 (0 : Int), PV.bool x2, PV.int .i64 (tl (Int.toNat x0 + al)), PV.bool x4]), (u146_0_1 x5)]]) (10)) (False)) (test (x2) (test (lim .i64 (x0 + 1)) (Kst (hd Try.f46 0) (u146_0_0 al nl x0) (u146_0_4 cn aq nq mq tq rp fl ml tl x3 x5) (10)) (False)) (test (lim .i64 (x0 + 1)) (Kst (hd Try.f46 0) (u146_0_0 al nl x0) (u146_0_7 cn aq nq mq tq rp fl ml tl x2 x3 x4 x5) (10)) (False)))) (False)) (test (x2) (test (lim .i64 (x0 + 1)) (Kst (hd Try.f46 0) (u146_0_0 al nl x0) (u146_0_4 cn aq nq mq tq rp fl ml tl x3 x5) (9)) (False)) (test (lim .i64 (x0 + 1)) (Kst (hd Try.f46 0) (u146_0_0 al nl x0) (u146_0_7 cn aq nq mq tq rp fl ml tl x2 x3 x4 x5) (9)) (False))))) (False)) (False)) (False)) (False)) (False)) (False)) (test (x2) (test (lim .i64 (x0 + 1)) (Kst (hd Try.f46 0) (u146_0_0 al nl x0) (u146_0_4 cn aq nq mq tq rp fl ml tl x3 x5) (4)) (False)) (test (lim .i64 (x0 + 1)) (Kst (hd Try.f46 0) (u146_0_0 al nl x0) (u146_0_7 cn aq nq mq tq rp fl ml tl x2 x3 x4 x5) (4)) (False)))))) (False)) (False))) (False)) (False)) (False)) (False)) (Kret (PV.tup [PV.ptr (PA.mk (2) (0) (0) (0)), PV.int .i64 (0 : Int)]) ([[(u146_0_10 ml tl), (u146_0_11 mq tq), (2, true, Blk.cells [PV.str cn, PV.loose (PA.mk (0) (1) aq (0)) nq, PV.int .i64 rp, PV.int .i64 fl, PV.own (3) (1) (List.length x5), PV.int .i64 x1, PV.bool x2, PV.int .i64 x3, PV.bool x4]), (u146_0_1 x5)]]) (4))
theorem t146_0 (Kst : KS) (Kret : KR) (cn : ByteArray) (aq nq mq : Nat) (tq : NI) (rp fl : Int) (al nl ml : Nat) (tl : NI) (x0 x1 : Int) (x2 : Bool) (x3 : Int) (x4 : Bool) (x5 : List Int) : run cond Try.env true (xM0 cond) true 400 ⟨46, hd Try.f46 0, zipT [8, 26, 27, 28] [PV.ptr (PA.mk (2) (0) (0) (0)),
 PV.loose (PA.mk (1) (1) al (0)) nl, PV.int .i64 (↑nl : Int),
 PV.int .i64 x0], [[(2, (true, Blk.cells
 [PV.str cn, PV.loose (PA.mk (0) (1) aq (0)) nq,
 PV.int .i64 rp, PV.int .i64 fl,
 PV.own (3) (1) (List.length x5), PV.int .i64 x1, PV.bool x2,
 PV.int .i64 x3, PV.bool x4])), (3, (true, Blk.cols (List.length x5) [Col.int .i64 fun j => S.at' x5 j]))], [(0, (false, .cols mq [.int .i64 tq])), (1, (false, .cols ml [.int .i64 tl]))]], 4⟩ (proj 2 [8, 26, 27, 28] Kst Kret) =
  T146_0 cond Kst Kret cn aq nq mq tq rp fl al nl ml tl x0 x1 x2 x3 x4 x5 := by kernel_rfl
noncomputable abbrev J146 (cn : ByteArray) (aq nq mq : Nat) (tq : NI) (rp : Int) (fl : Int) (al nl ml : Nat) (tl : NI) : Rt146 → Heap := fun r => [newL (2 + 1) ((N146 cn aq nq mq tq rp fl al nl ml tl) r) ++ [(0, (false, .cols mq [.int .i64 tq])), (1, (false, .cols ml [.int .i64 tl]))]]
attribute [local irreducible] Int.subNatNat in
theorem be146 (cn : ByteArray) (aq nq mq : Nat) (tq : NI) (rp fl : Int) (al nl ml : Nat) (tl : NI) (Kst : KS) (Kret : KR) (x : St146 ⊕ Rt146) (hS : HS 2 400 ((I146 cn aq nq mq tq rp fl al nl ml tl)) Kst x) (hR : HR 2 400 ((V146 cn aq nq mq tq rp fl al nl ml tl)) (J146 cn aq nq mq tq rp fl al nl ml tl) Kret x) (h : p146 cn aq nq mq tq rp fl al nl ml tl = some x) : Te146 cond Kst Kret cn aq nq mq tq rp fl al nl ml tl := by
  unfold Te146
  unfold p146 at h
  exact bif_split h (fun c0 h => bif_split h (fun c1 h => bif_split h (fun c2 h => stop_at hS _ h (fun n => bif Nat.beq n 2 then 7 else bif Nat.beq n 3 then 6 else n) rfl rfl rfl ⟨(rn_ptr (use_own rfl) rfl rfl), ⟨(rn_loose (use_lo rfl) rfl rfl rfl), ⟨(rn_int rfl), ⟨(rn_int rfl), trivial⟩⟩⟩⟩ rfl (entl_b (use_own rfl) rfl (by simp) (rb_cells ⟨(rn_str rfl), (rn_loose (use_lo rfl) rfl rfl rfl), (rn_int rfl), (rn_int rfl), (rn_own (use_own rfl) rfl rfl), (rn_int rfl), (rn_bool_tf rfl), (rn_int rfl), (rn_bool_tf rfl), trivial⟩) (entl_new (use_own rfl) rfl (Nat.le_of_eq rfl) (rcs_int (fun _ _ => rfl) rcs_nil) (entl_bor (use_lo rfl) rfl rfl (entl_bor (use_lo rfl) rfl rfl entl_nil))))) (fun c2 h => no_some h)) (fun c1 h => no_some h)) (fun c0 h => no_some h)
attribute [local irreducible] Int.subNatNat in
theorem b146_0 (cn : ByteArray) (aq nq mq : Nat) (tq : NI) (rp fl : Int) (al nl ml : Nat) (tl : NI) (Kst : KS) (Kret : KR) (x : St146 ⊕ Rt146) (hS : HS 2 400 ((I146 cn aq nq mq tq rp fl al nl ml tl)) Kst x) (hR : HR 2 400 ((V146 cn aq nq mq tq rp fl al nl ml tl)) (J146 cn aq nq mq tq rp fl al nl ml tl) Kret x) (x0 x1 : Int) (x2 : Bool) (x3 : Int) (x4 : Bool) (x5 : List Int) (h : q146 cn aq nq mq tq rp fl al nl ml tl (.h0 x0 x1 x2 x3 x4 x5) = some x) : T146_0 cond Kst Kret cn aq nq mq tq rp fl al nl ml tl x0 x1 x2 x3 x4 x5 := by
  unfold T146_0
  rw [q146] at h
  refine bif_split h (fun c0 h => bif_split h (fun c1 h => bif_split h (fun c2 h => bif_split h (fun c3 h => bif_split h (fun c4 h => bif_split h (fun c5 h => bif_split h (fun c6 h => bif_split h (fun c7 h => bif_split h (fun c8 h => ?_) (fun c8 h => ?_)) (fun c7 h => bif_split h (fun c8 h => bif_split h (fun c9 h => bif_split h (fun c10 h => bif_split h (fun c11 h => bif_split h (fun c12 h => bif_split h (fun c13 h => bif_split h (fun c14 h => bif_split h (fun c15 h => bif_split h (fun c16 h => bif_split h (fun c17 h => bif_split h (fun c18 h => bif_split h (fun c19 h => ?_) (fun c19 h => ?_)) (fun c18 h => cond_yes c8 (bif_split h (fun c19 h => ?_) (fun c19 h => ?_)))) (fun c17 h => ?_)) (fun c16 h => cond_yes c8 (bif_split h (fun c17 h => ?_) (fun c17 h => ?_)))) (fun c15 h => bif_split h (fun c16 h => bif_split h (fun c17 h => bif_split h (fun c18 h => bif_split h (fun c19 h => ?_) (fun c19 h => ?_)) (fun c18 h => cond_yes c8 (bif_split h (fun c19 h => ?_) (fun c19 h => ?_)))) (fun c17 h => ?_)) (fun c16 h => cond_yes c8 (bif_split h (fun c17 h => ?_) (fun c17 h => ?_))))) (fun c14 h => ?_)) (fun c13 h => ?_)) (fun c12 h => ?_)) (fun c11 h => ?_)) (fun c10 h => ?_)) (fun c9 h => ?_)) (fun c8 h => cond_no c8 (bif_split h (fun c9 h => ?_) (fun c9 h => ?_))))) (fun c6 h => ?_)) (fun c5 h => bif_split h (fun c6 h => bif_split h (fun c7 h => bif_split h (fun c8 h => bif_split h (fun c9 h => bif_split h (fun c10 h => ?_) (fun c10 h => ?_)) (fun c9 h => bif_split h (fun c10 h => bif_split h (fun c11 h => bif_split h (fun c12 h => bif_split h (fun c13 h => bif_split h (fun c14 h => bif_split h (fun c15 h => bif_split h (fun c16 h => bif_split h (fun c17 h => bif_split h (fun c18 h => bif_split h (fun c19 h => bif_split h (fun c20 h => bif_split h (fun c21 h => ?_) (fun c21 h => ?_)) (fun c20 h => cond_yes c10 (bif_split h (fun c21 h => ?_) (fun c21 h => ?_)))) (fun c19 h => ?_)) (fun c18 h => cond_yes c10 (bif_split h (fun c19 h => ?_) (fun c19 h => ?_)))) (fun c17 h => bif_split h (fun c18 h => bif_split h (fun c19 h => bif_split h (fun c20 h => bif_split h (fun c21 h => ?_) (fun c21 h => ?_)) (fun c20 h => cond_yes c10 (bif_split h (fun c21 h => ?_) (fun c21 h => ?_)))) (fun c19 h => ?_)) (fun c18 h => cond_yes c10 (bif_split h (fun c19 h => ?_) (fun c19 h => ?_))))) (fun c16 h => ?_)) (fun c15 h => ?_)) (fun c14 h => ?_)) (fun c13 h => ?_)) (fun c12 h => ?_)) (fun c11 h => ?_)) (fun c10 h => cond_no c10 (bif_split h (fun c11 h => ?_) (fun c11 h => ?_))))) (fun c8 h => bif_split h (fun c9 h => bif_split h (fun c10 h => ?_) (fun c10 h => ?_)) (fun c9 h => bif_split h (fun c10 h => bif_split h (fun c11 h => bif_split h (fun c12 h => bif_split h (fun c13 h => bif_split h (fun c14 h => bif_split h (fun c15 h => bif_split h (fun c16 h => bif_split h (fun c17 h => bif_split h (fun c18 h => bif_split h (fun c19 h => bif_split h (fun c20 h => bif_split h (fun c21 h => ?_) (fun c21 h => ?_)) (fun c20 h => cond_yes c10 (bif_split h (fun c21 h => ?_) (fun c21 h => ?_)))) (fun c19 h => ?_)) (fun c18 h => cond_yes c10 (bif_split h (fun c19 h => ?_) (fun c19 h => ?_)))) (fun c17 h => bif_split h (fun c18 h => bif_split h (fun c19 h => bif_split h (fun c20 h => bif_split h (fun c21 h => ?_) (fun c21 h => ?_)) (fun c20 h => cond_yes c10 (bif_split h (fun c21 h => ?_) (fun c21 h => ?_)))) (fun c19 h => ?_)) (fun c18 h => cond_yes c10 (bif_split h (fun c19 h => ?_) (fun c19 h => ?_))))) (fun c16 h => ?_)) (fun c15 h => ?_)) (fun c14 h => ?_)) (fun c13 h => ?_)) (fun c12 h => ?_)) (fun c11 h => ?_)) (fun c10 h => cond_no c10 (bif_split h (fun c11 h => ?_) (fun c11 h => ?_)))))) (fun c7 h => ?_)) (fun c6 h => ?_))) (fun c4 h => ?_)) (fun c3 h => ?_)) (fun c2 h => ?_)) (fun c1 h => ?_)) (fun c0 h => ret_at hR _ h (fun n => bif Nat.beq n 3 then 2 else bif Nat.beq n 4 then 3 else n) rfl rfl rfl (rn_tup ⟨(rn_ptr (use_own rfl) rfl rfl), (rn_int rfl), trivial⟩) rfl (entl_b (use_own rfl) rfl (by simp) (rb_cells ⟨(rn_str rfl), (rn_loose (use_lo rfl) rfl rfl rfl), (rn_int rfl), (rn_int rfl), (rn_own (use_own rfl) rfl rfl), (rn_int rfl), (rn_bool rfl), (rn_int rfl), (rn_bool rfl), trivial⟩) (entl_new (use_own rfl) rfl (Nat.le_of_eq rfl) (rcs_int (fun _ _ => rfl) rcs_nil) (entl_bor (use_lo rfl) rfl rfl (entl_bor (use_lo rfl) rfl rfl entl_nil)))))
  all_goals first
    | exact no_some h
    | exact stop_at hS _ h (fun n => bif Nat.beq n 2 then 2 else bif Nat.beq n 3 then 3 else n) rfl rfl rfl ⟨(rn_ptr (use_own rfl) rfl rfl), ⟨(rn_loose (use_lo rfl) rfl rfl rfl), ⟨(rn_int rfl), ⟨(rn_int rfl), trivial⟩⟩⟩⟩ rfl (entl_b (use_own rfl) rfl (by simp) (rb_cells ⟨(rn_str rfl), (rn_loose (use_lo rfl) rfl rfl rfl), (rn_int rfl), (rn_int rfl), (rn_own (use_own rfl) rfl rfl), (rn_int rfl), (rn_bool_tf rfl), (rn_int rfl), (rn_bool_tf rfl), trivial⟩) (entl_new (use_own rfl) rfl (Nat.le_of_eq rfl) (rcs_int (fun _ _ => rfl) rcs_nil) (entl_bor (use_lo rfl) rfl rfl (entl_bor (use_lo rfl) rfl rfl entl_nil))))
    | exact stop_at hS _ h (fun n => bif Nat.beq n 2 then 2 else bif Nat.beq n 3 then 3 else n) rfl rfl rfl ⟨(rn_ptr (use_own rfl) rfl rfl), ⟨(rn_loose (use_lo rfl) rfl rfl rfl), ⟨(rn_int rfl), ⟨(rn_int rfl), trivial⟩⟩⟩⟩ rfl (entl_b (use_own rfl) rfl (by simp) (rb_cells ⟨(rn_str rfl), (rn_loose (use_lo rfl) rfl rfl rfl), (rn_int rfl), (rn_int rfl), (rn_own (use_own rfl) rfl rfl), (rn_int rfl), (rn_bool rfl), (rn_int rfl), (rn_bool rfl), trivial⟩) (entl_new (use_own rfl) rfl (Nat.le_of_eq rfl) (rcs_int (fun _ _ => rfl) rcs_nil) (entl_bor (use_lo rfl) rfl rfl (entl_bor (use_lo rfl) rfl rfl entl_nil))))
    | exact stop_at hS _ h (fun n => bif Nat.beq n 2 then 2 else bif Nat.beq n 3 then 3 else n) rfl rfl rfl ⟨(rn_ptr (use_own rfl) rfl rfl), ⟨(rn_loose (use_lo rfl) rfl rfl rfl), ⟨(rn_int rfl), ⟨(rn_int rfl), trivial⟩⟩⟩⟩ rfl (entl_b (use_own rfl) rfl (by simp) (rb_cells ⟨(rn_str rfl), (rn_loose (use_lo rfl) rfl rfl rfl), (rn_int rfl), (rn_int rfl), (rn_own (use_own rfl) rfl rfl), (rn_int rfl), (rn_bool_tf rfl), (rn_int rfl), (rn_bool rfl), trivial⟩) (entl_new (use_own rfl) rfl (Nat.le_of_eq rfl) (rcs_int (fun _ _ => rfl) rcs_nil) (entl_bor (use_lo rfl) rfl rfl (entl_bor (use_lo rfl) rfl rfl entl_nil))))
theorem a146 (cn : ByteArray) (aq nq mq : Nat) (tq : NI) (rp fl : Int) (al nl ml : Nat) (tl : NI) {r : Rt146} (h : Goes ((q146 cn aq nq mq tq rp fl al nl ml tl)) ((p146 cn aq nq mq tq rp fl al nl ml tl)) r) : CallR Try.prog 46 [.agg [.str cn, .loose ⟨0, 1, aq, 0⟩ nq, .int .i64 rp, .int .i64 fl], .loose ⟨1, 1, al, 0⟩ nl] [[(0, (false, .cols mq [.int .i64 tq])), (1, (false, .cols ml [.int .i64 tl]))]] 2 ((V146 cn aq nq mq tq rp fl al nl ml tl) r) ((J146 cn aq nq mq tq rp fl al nl ml tl) r) 400 ∧ ∃ F, Try.prog.funcs[46]? = some F ∧ F.body.isSome = true ∧ (F.name == "runtime.NumGoroutine") = false := by
  refine dec_calls (f := 46) (lo := 2) (hi := 400) (H := [[(0, (false, .cols mq [.int .i64 tq])), (1, (false, .cols ml [.int .i64 tl]))]]) (args := [.agg [.str cn, .loose ⟨0, 1, aq, 0⟩ nq, .int .i64 rp, .int .i64 fl], .loose ⟨1, 1, al, 0⟩ nl]) Try.envOk Try.mixed xM0_ok ((I146 cn aq nq mq tq rp fl al nl ml tl)) ((V146 cn aq nq mq tq rp fl al nl ml tl)) (J146 cn aq nq mq tq rp fl al nl ml tl) (fn := mkFn Try.f46) (ts := [8, 26, 27, 28]) (n := 400) rfl (by decide) (by simp) (names_of rfl) ?_ ?_ ?_ h
  · intro s; cases s <;> exact ⟨hd_ok _ _, by simp [I146], names_of rfl, Nat.le_of_ble_eq_true rfl⟩
  · intro Kst Kret x hS hR h
    exact Holds.eq (te146 Kst Kret cn aq nq mq tq rp fl al nl ml tl) (be146 cn aq nq mq tq rp fl al nl ml tl Kst Kret x hS hR h)
  · intro Kst Kret x hS hR s h
    cases s with
    | h0 x0 x1 x2 x3 x4 x5 => exact Holds.eq (t146_0 Kst Kret cn aq nq mq tq rp fl al nl ml tl x0 x1 x2 x3 x4 x5) (b146_0 cn aq nq mq tq rp fl al nl ml tl Kst Kret x hS hR x0 x1 x2 x3 x4 x5 h)
noncomputable abbrev w146 {α : Type} (g : ByteArray → Nat → Nat → Nat → (Nat → Int) → Int → Int → Nat → Nat → Nat → (Nat → Int) → α) (x : (ByteArray × (Nat × Nat × Nat × (Nat → Int) × Unit) × Int × Int × Unit) × (Nat × Nat × Nat × (Nat → Int) × Unit) × Unit) : α := g x.1.1 x.1.2.1.1 x.1.2.1.2.1 x.1.2.1.2.2.1 x.1.2.1.2.2.2.1 x.1.2.2.1 x.1.2.2.2.1 x.2.1.1 x.2.1.2.1 x.2.1.2.2.1 x.2.1.2.2.2.1
noncomputable def k146  : Con := ⟨46, [.agg [.plain (.str), .list [.int .i64], .plain (.int .i64), .plain (.int .i64)], .one (.list [.int .i64])], w146 (fun cn aq nq mq tq rp fl al nl ml tl => decide (((aq + nq ≤ mq ∧ nq ≤ 1000000) ∧ al + nl ≤ ml ∧ nl ≤ 1000000) ∧ (S.cyE cn nq (fun j => tq (j + aq)) rp fl) = 0 ∧ (S.setE nl (fun j => tl (j + al))) = 0)), w146 (fun cn aq nq mq tq rp fl al nl ml tl => (V146 cn aq nq mq tq rp fl al nl ml tl) (S.remS nq (fun j => tq (j + aq)) fl rp nl (fun j => tl (j + al)))), w146 (fun cn aq nq mq tq rp fl al nl ml tl => (N146 cn aq nq mq tq rp fl al nl ml tl) (S.remS nq (fun j => tq (j + aq)) fl rp nl (fun j => tl (j + al)))), fun _ _ => .dead⟩
set_option maxHeartbeats 8000000 in
theorem s146' (cn : ByteArray) (aq nq mq : Nat) (tq : Nat → Int) (rp fl : Int) (al nl ml : Nat) (tl : Nat → Int) (hp : ((aq + nq ≤ mq ∧ nq ≤ 1000000) ∧ al + nl ≤ ml ∧ nl ≤ 1000000) ∧ (S.cyE cn nq (fun j => tq (j + aq)) rp fl) = 0 ∧ (S.setE nl (fun j => tl (j + al))) = 0) : ∀ (k i : Nat), i + k = nl → Comes (q146 cn aq nq mq tq rp fl al nl ml tl) (match S.remK nq (fun j => tq (j + aq)) fl (S.stpL nq (fun j => tq (j + aq)) rp fl).length (fun j => S.at' (S.stpL nq (fun j => tq (j + aq)) rp fl) j) (fun j => tl (j + al)) i with | (x1, x2, x3, x4) => .h0 (i : Int) x1 x2 x3 x4 (S.stpL nq (fun j => tq (j + aq)) rp fl)) (S.remS nq (fun j => tq (j + aq)) fl rp nl (fun j => tl (j + al))) := by
  obtain ⟨⟨⟨hp1, hp2⟩, hp3, hp4⟩, hy, hs⟩ := hp
  have hc := cy_ok hy
  have hst := stp_in hy
  have hl2 : 2 ≤ (S.stpL nq (fun j => tq (j + aq)) rp fl).length := by
    rw [stp_len]
    have : 1 ≤ nq * rp.toNat := Nat.mul_pos (by omega) (by omega)
    omega
  have hb := rem_b (n := nq) (t := (fun j => tq (j + aq))) (fl := fl) (l := fun j => S.at' (S.stpL nq (fun j => tq (j + aq)) rp fl) j) (x := (fun j => tl (j + al))) hl2
  unfold S.remS
  generalize (S.stpL nq (fun j => tq (j + aq)) rp fl) = L at *
  intro k
  induction k with
  | zero =>
    intro i hi
    obtain rfl : nl = i := by omega
    obtain ⟨x1, x2, x3, x4, ha⟩ : ∃ x1 x2 x3 x4, S.remK nq (fun j => tq (j + aq)) fl L.length (fun j => S.at' L j) (fun j => tl (j + al)) nl = (x1, x2, x3, x4) := ⟨_, _, _, _, rfl⟩
    rw [ha]
    show Comes (q146 cn aq nq mq tq rp fl al nl ml tl) (.h0 (nl : Int) x1 x2 x3 x4 L) (x1, x2, x3, x4, L)
    apply Comes.of
    rw [q146]
    exact goes_no (decide_eq_false (by omega)) (goes_inr.mpr rfl)
  | succ k ih =>
    intro i hi
    have hbi := hb i
    have ih := ih (i + 1) (by omega)
    simp only [S.remK] at ih
    obtain ⟨x1, x2, x3, x4, ha⟩ : ∃ x1 x2 x3 x4, S.remK nq (fun j => tq (j + aq)) fl L.length (fun j => S.at' L j) (fun j => tl (j + al)) i = (x1, x2, x3, x4) := ⟨_, _, _, _, rfl⟩
    rw [ha] at ih hbi ⊢
    show Comes (q146 cn aq nq mq tq rp fl al nl ml tl) (.h0 (i : Int) x1 x2 x3 x4 L) _
    dsimp only at hbi ih
    have em := maxN_snoc (n := nq) (t := (fun j => tq (j + aq))) (fl := fl) (by omega)
    have en := minN_snoc (n := nq) (t := (fun j => tq (j + aq))) (fl := fl) (by omega)
    have e1 : ((nq : Int) - 1).toNat = nq - 1 := by omega
    generalize hR : (S.remK nq (fun j => tq (j + aq)) fl L.length (fun j => S.at' L j) (fun j => tl (j + al)) nl) = R at *
    have hA : S.ahdB nq (fun j => tq (j + aq)) fl x3 (tl (i + al)) = if tq (nq - 1 + aq) < fl then decide (x3 ≤ tl (i + al) ∧ tl (i + al) ≤ max fl (S.maxN (fun j => tq (j + aq)) (nq - 1))) else decide (tl (i + al) ≤ x3 ∧ min fl (S.minN (fun j => tq (j + aq)) (nq - 1)) ≤ tl (i + al)) := rfl
    rw [hA] at ih
    clear hA
    unfold S.prS at ih
    generalize S.maxN (fun j => tq (j + aq)) (nq - 1) = ma at *
    generalize S.minN (fun j => tq (j + aq)) (nq - 1) = mi at *
    apply Comes.of
    rw [q146]
    simp only [Int.toNat_natCast, em, en, e1]
    cases x2
    all_goals
      repeat' (first | with_reducible refine goes_if (fun h => ?_) (fun h => ?_) <;> (try simp only [SH] at h) | exact goes_none.mpr (by omega))
      all_goals first
        | (exfalso; omega)
        | (refine Eq.mpr (congrArg (fun s => Comes _ s _) ?_) ih
           simp only [Bool.false_eq_true, if_false, if_true]
           (repeat' split) <;> first | rfl | (exfalso; omega) | (exfalso; simp_all; omega) | (exfalso; simp_all; done))
theorem s146 (cn : ByteArray) (aq nq mq : Nat) (tq : Nat → Int) (rp fl : Int) (al nl ml : Nat) (tl : Nat → Int) (hp : ((aq + nq ≤ mq ∧ nq ≤ 1000000) ∧ al + nl ≤ ml ∧ nl ≤ 1000000) ∧ (S.cyE cn nq (fun j => tq (j + aq)) rp fl) = 0 ∧ (S.setE nl (fun j => tl (j + al))) = 0) : Goes ((q146 cn aq nq mq tq rp fl al nl ml tl)) ((p146 cn aq nq mq tq rp fl al nl ml tl)) (S.remS nq (fun j => tq (j + aq)) fl rp nl (fun j => tl (j + al))) := by
  have hm := s146' cn aq nq mq tq rp fl al nl ml tl hp nl 0 (Nat.zero_add _)
  have hm : Comes (q146 cn aq nq mq tq rp fl al nl ml tl) (.h0 0 0 false 0 false (S.stpL nq (fun j => tq (j + aq)) rp fl)) _ := hm
  obtain ⟨⟨⟨hp1, hp2⟩, hp3, hp4⟩, hy, hs⟩ := hp
  have hc := cy_ok hy
  unfold p146
  refine goes_ok (decide_eq_true ⟨⟨hp1, hp2⟩, hy⟩) ?_
  refine goes_ok (decide_eq_true ⟨⟨hp3, hp4⟩, hs⟩) ?_
  refine goes_ok (decide_eq_true (by omega)) ?_
  exact hm
theorem k146_ok  : k146.ok Try.prog := by
  intro x hx
  obtain ⟨⟨cn, ⟨aq, nq, mq, tq, _⟩, rp, fl, _⟩, ⟨al, nl, ml, tl, _⟩, _⟩ := x
  obtain ⟨h1, h2⟩ := a146 cn aq nq mq tq rp fl al nl ml tl (s146 cn aq nq mq tq rp fl al nl ml tl (of_dec hx rfl))
  exact ⟨⟨400, (by decide : 2 + 1 + 2 ≤ 400), h1⟩, h2⟩
namespace S
def cseE (c s : Int) : Int := if c = 0 then s else c
end S
inductive St146e where
  | h0
abbrev Rt146e  := Int
noncomputable def V146e (cn : ByteArray) (aq nq mq : Nat) (tq : NI) (rp fl : Int) (al nl ml : Nat) (tl : NI) (r : Rt146e) : PV := PV.tup [PV.unk, PV.int .i64 r]
noncomputable def N146e (cn : ByteArray) (aq nq mq : Nat) (tq : NI) (rp fl : Int) (al nl ml : Nat) (tl : NI) (r : Rt146e) : List Blk := []
noncomputable def I146e (cn : ByteArray) (aq nq mq : Nat) (tq : NI) (rp fl : Int) (al nl ml : Nat) (tl : NI) : St146e → Hd
  | .h0  => ⟨hd Try.f46 0, [PV.ptr (PA.mk (2) (0) (0) (0)),
 PV.loose (PA.mk (1) (1) al (0)) nl, PV.int .i64 (↑nl : Int),
 PV.int .i64 (0 : Int)], [[(2, (true, Blk.cells
 [PV.str cn, PV.loose (PA.mk (0) (1) aq (0)) nq,
 PV.int .i64 rp, PV.int .i64 fl, PV.nils,
 PV.int .i64 (0 : Int), PV.tf false, PV.int .i64 (0 : Int),
 PV.tf false]))], [(0, (false, .cols mq [.int .i64 tq])), (1, (false, .cols ml [.int .i64 tl]))]], 3⟩
noncomputable def q146e (cn : ByteArray) (aq nq mq : Nat) (tq : NI) (rp fl : Int) (al nl ml : Nat) (tl : NI) : St146e → Option (St146e ⊕ Rt146e) | .h0  => bif (decide ((0 : Int) < (↑nl : Int))) then (bif (decide ((0 : Int) ≤ 0 ∧ (0 : Int) < (↑nl : Int))) then (bif (decide (0 + al < ml)) then (none) else (none)) else (none)) else (some (.inr ((0 : Int))))
noncomputable def p146e (cn : ByteArray) (aq nq mq : Nat) (tq : NI) (rp fl : Int) (al nl ml : Nat) (tl : NI) : Option (St146e ⊕ Rt146e) := bif (decide (aq + nq ≤ mq ∧ nq ≤ 1000000)) then (bif (S.cyE cn nq (fun j => tq (j + aq)) rp fl != 0) then (some (.inr (S.cyE cn nq (fun j => tq (j + aq)) rp fl))) else (bif (decide (al + nl ≤ ml ∧ nl ≤ 1000000)) then (bif ((S.setE nl fun j => tl (j + al)) != 0) then (some (.inr (S.setE nl fun j => tl (j + al)))) else (none)) else (none))) else (none)
def Te146e (test : TT) (Kst : KS) (Kret : KR) (cn : ByteArray) (aq nq mq : Nat) (tq : NI) (rp fl : Int) (al nl ml : Nat) (tl : NI) : Prop := test (decide (aq + nq ≤ mq ∧ nq ≤ 1000000)) (test (S.cyE cn nq (fun j => tq (j + aq)) rp fl != 0) (Kret (PV.tup [PV.nilp, PV.int .i64 (S.cyE cn nq (fun j => tq (j + aq)) rp fl)]) ([[(1, false, Blk.cols ml [Col.int .i64 tl]), (0, false, Blk.cols mq [Col.int .i64 tq])]]) (4)) (test (decide (al + nl ≤ ml ∧ nl ≤ 1000000)) (test ((S.setE nl fun j => tl (j + al)) != 0) (Kret (PV.tup [PV.nilp, PV.int .i64 (S.setE nl fun j => tl (j + al))]) ([[(1, false, Blk.cols ml [Col.int .i64 tl]), (0, false, Blk.cols mq [Col.int .i64 tq])]]) (5)) (test (false) (Kst (hd Try.f46 0) ([PV.ptr (PA.mk (6) (0) (0) (0)), PV.loose (PA.mk (1) (1) al (0)) nl, PV.int .i64 (↑nl : Int), PV.int .i64 (0 : Int)]) ([[(1, false, Blk.cols ml [Col.int .i64 tl]), (0, false, Blk.cols mq [Col.int .i64 tq]), (6, true, Blk.cells [PV.str cn, PV.loose (PA.mk (0) (1) aq (0)) nq, PV.int .i64 rp, PV.int .i64 fl, PV.nils, PV.int .i64 (0 : Int), PV.tf false, PV.int .i64 (0 : Int), PV.tf false])]]) (7)) (False))) (False))) (False)
theorem te146e (test : TT) (Kst : KS) (Kret : KR) (cn : ByteArray) (aq nq mq : Nat) (tq : NI) (rp fl : Int) (al nl ml : Nat) (tl : NI) : run test Try.env true (xM1 test) true 400 ⟨46, [.cd (mkFn Try.f46).body], argT 0 [.agg [.str cn, .loose ⟨0, 1, aq, 0⟩ nq, .int .i64 rp, .int .i64 fl], .loose ⟨1, 1, al, 0⟩ nl], [[], [(0, (false, .cols mq [.int .i64 tq])), (1, (false, .cols ml [.int .i64 tl]))]], 2⟩ (proj 2 [8, 26, 27, 28] Kst Kret) =
  Te146e test Kst Kret cn aq nq mq tq rp fl al nl ml tl := by kernel_rfl
def T146e_0 (test : TT) (Kst : KS) (Kret : KR) (cn : ByteArray) (aq nq mq : Nat) (tq : NI) (rp fl : Int) (al nl ml : Nat) (tl : NI)  : Prop := test (decide ((0 : Int) < (↑nl : Int))) (test (decide ((0 : Int) ≤ 0 ∧ (0 : Int) < (↑nl : Int))) (test (decide (0 + al < ml)) (False) (False)) (False)) (Kret (PV.tup [PV.ptr (PA.mk (2) (0) (0) (0)), PV.int .i64 (0 : Int)]) ([[(1, false, Blk.cols ml [Col.int .i64 tl]), (0, false, Blk.cols mq [Col.int .i64 tq]), (2, true, Blk.cells [PV.str cn, PV.loose (PA.mk (0) (1) aq (0)) nq, PV.int .i64 rp, PV.int .i64 fl, PV.nils, PV.int .i64 (0 : Int), PV.tf false, PV.int .i64 (0 : Int), PV.tf false])]]) (3))
theorem t146e_0 (test : TT) (Kst : KS) (Kret : KR) (cn : ByteArray) (aq nq mq : Nat) (tq : NI) (rp fl : Int) (al nl ml : Nat) (tl : NI)  : run test Try.env true (xM1 test) true 400 ⟨46, hd Try.f46 0, zipT [8, 26, 27, 28] [PV.ptr (PA.mk (2) (0) (0) (0)),
 PV.loose (PA.mk (1) (1) al (0)) nl, PV.int .i64 (↑nl : Int),
 PV.int .i64 (0 : Int)], [[(2, (true, Blk.cells
 [PV.str cn, PV.loose (PA.mk (0) (1) aq (0)) nq,
 PV.int .i64 rp, PV.int .i64 fl, PV.nils,
 PV.int .i64 (0 : Int), PV.tf false, PV.int .i64 (0 : Int),
 PV.tf false]))], [(0, (false, .cols mq [.int .i64 tq])), (1, (false, .cols ml [.int .i64 tl]))]], 3⟩ (proj 2 [8, 26, 27, 28] Kst Kret) =
  T146e_0 test Kst Kret cn aq nq mq tq rp fl al nl ml tl  := by kernel_rfl
attribute [local irreducible] Int.subNatNat in
theorem be146e (cn : ByteArray) (aq nq mq : Nat) (tq : NI) (rp fl : Int) (al nl ml : Nat) (tl : NI) (Kst : KS) (Kret : KR) (x : St146e ⊕ Rt146e) (hS : HS 2 400 ((I146e cn aq nq mq tq rp fl al nl ml tl)) Kst x) (hR : HR 2 400 ((V146e cn aq nq mq tq rp fl al nl ml tl)) (fun r => [newL (2 + 1) ((N146e cn aq nq mq tq rp fl al nl ml tl) r) ++ [(0, (false, .cols mq [.int .i64 tq])), (1, (false, .cols ml [.int .i64 tl]))]]) Kret x) (h : p146e cn aq nq mq tq rp fl al nl ml tl = some x) : Te146e cond Kst Kret cn aq nq mq tq rp fl al nl ml tl := by
  unfold Te146e
  unfold p146e at h
  exact bif_split h (fun c0 h => bif_split h (fun c1 h => ret_at hR _ h (fun n => n) rfl rfl rfl (rn_tup ⟨(rn_unk _), (rn_int rfl), trivial⟩) rfl (entl_bor (use_lo rfl) rfl rfl (entl_bor (use_lo rfl) rfl rfl entl_nil))) (fun c1 h => bif_split h (fun c2 h => bif_split h (fun c3 h => ret_at hR _ h (fun n => n) rfl rfl rfl (rn_tup ⟨(rn_unk _), (rn_int rfl), trivial⟩) rfl (entl_bor (use_lo rfl) rfl rfl (entl_bor (use_lo rfl) rfl rfl entl_nil))) (fun c3 h => cond_no rfl (no_some h))) (fun c2 h => no_some h))) (fun c0 h => no_some h)
attribute [local irreducible] Int.subNatNat in
theorem b146e_0 (cn : ByteArray) (aq nq mq : Nat) (tq : NI) (rp fl : Int) (al nl ml : Nat) (tl : NI) (Kst : KS) (Kret : KR) (x : St146e ⊕ Rt146e) (hS : HS 2 400 ((I146e cn aq nq mq tq rp fl al nl ml tl)) Kst x) (hR : HR 2 400 ((V146e cn aq nq mq tq rp fl al nl ml tl)) (fun r => [newL (2 + 1) ((N146e cn aq nq mq tq rp fl al nl ml tl) r) ++ [(0, (false, .cols mq [.int .i64 tq])), (1, (false, .cols ml [.int .i64 tl]))]]) Kret x)  (h : q146e cn aq nq mq tq rp fl al nl ml tl (.h0) = some x) : T146e_0 cond Kst Kret cn aq nq mq tq rp fl al nl ml tl  := by
  unfold T146e_0
  rw [q146e] at h
  exact bif_split h (fun c0 h => bif_split h (fun c1 h => bif_split h (fun c2 h => no_some h) (fun c2 h => no_some h)) (fun c1 h => no_some h)) (fun c0 h => ret_at hR _ h (fun n => n) rfl rfl rfl (rn_tup ⟨(rn_unk _), (rn_int rfl), trivial⟩) rfl (entl_bor (use_lo rfl) rfl rfl (entl_bor (use_lo rfl) rfl rfl entl_nil)))
theorem a146e (cn : ByteArray) (aq nq mq : Nat) (tq : NI) (rp fl : Int) (al nl ml : Nat) (tl : NI) {r : Rt146e} (h : Goes ((q146e cn aq nq mq tq rp fl al nl ml tl)) ((p146e cn aq nq mq tq rp fl al nl ml tl)) r) : CallR Try.prog 46 [.agg [.str cn, .loose ⟨0, 1, aq, 0⟩ nq, .int .i64 rp, .int .i64 fl], .loose ⟨1, 1, al, 0⟩ nl] [[(0, (false, .cols mq [.int .i64 tq])), (1, (false, .cols ml [.int .i64 tl]))]] 2 ((V146e cn aq nq mq tq rp fl al nl ml tl) r) ((fun r => [newL (2 + 1) ((N146e cn aq nq mq tq rp fl al nl ml tl) r) ++ [(0, (false, .cols mq [.int .i64 tq])), (1, (false, .cols ml [.int .i64 tl]))]]) r) 400 ∧ ∃ F, Try.prog.funcs[46]? = some F ∧ F.body.isSome = true ∧ (F.name == "runtime.NumGoroutine") = false := by
  refine dec_calls (f := 46) (lo := 2) (hi := 400) (H := [[(0, (false, .cols mq [.int .i64 tq])), (1, (false, .cols ml [.int .i64 tl]))]]) (args := [.agg [.str cn, .loose ⟨0, 1, aq, 0⟩ nq, .int .i64 rp, .int .i64 fl], .loose ⟨1, 1, al, 0⟩ nl]) Try.envOk Try.mixed xM1_ok ((I146e cn aq nq mq tq rp fl al nl ml tl)) ((V146e cn aq nq mq tq rp fl al nl ml tl)) (fun r => [newL (2 + 1) ((N146e cn aq nq mq tq rp fl al nl ml tl) r) ++ [(0, (false, .cols mq [.int .i64 tq])), (1, (false, .cols ml [.int .i64 tl]))]]) (fn := mkFn Try.f46) (ts := [8, 26, 27, 28]) (n := 400) rfl (by decide) (by simp) (names_of rfl) ?_ ?_ ?_ h
  · intro s; cases s <;> exact ⟨hd_ok _ _, by simp [I146e], names_of rfl, Nat.le_of_ble_eq_true rfl⟩
  · intro Kst Kret x hS hR h
    exact Holds.eq (te146e cond Kst Kret cn aq nq mq tq rp fl al nl ml tl) (be146e cn aq nq mq tq rp fl al nl ml tl Kst Kret x hS hR h)
  · intro Kst Kret x hS hR s h
    cases s with
    | h0  => exact Holds.eq (t146e_0 cond Kst Kret cn aq nq mq tq rp fl al nl ml tl ) (b146e_0 cn aq nq mq tq rp fl al nl ml tl Kst Kret x hS hR  h)
noncomputable def k146e  : Con := ⟨46, [.agg [.plain (.str), .list [.int .i64], .plain (.int .i64), .plain (.int .i64)], .one (.list [.int .i64])], fun (x : (ByteArray × (Nat × Nat × Nat × (Nat → Int) × Unit) × Int × Int × Unit) × (Nat × Nat × Nat × (Nat → Int) × Unit) × Unit) => (fun (cn : ByteArray) (aq nq mq : Nat) (tq : Nat → Int) (rp : Int) (fl : Int) (al nl ml : Nat) (tl : Nat → Int) => decide (((aq + nq ≤ mq ∧ nq ≤ 1000000) ∧ al + nl ≤ ml ∧ nl ≤ 1000000) ∧ ¬ ((S.cyE cn nq (fun j => tq (j + aq)) rp fl) = 0 ∧ (S.setE nl (fun j => tl (j + al))) = 0))) x.1.1 x.1.2.1.1 x.1.2.1.2.1 x.1.2.1.2.2.1 x.1.2.1.2.2.2.1 x.1.2.2.1 x.1.2.2.2.1 x.2.1.1 x.2.1.2.1 x.2.1.2.2.1 x.2.1.2.2.2.1, fun (x : (ByteArray × (Nat × Nat × Nat × (Nat → Int) × Unit) × Int × Int × Unit) × (Nat × Nat × Nat × (Nat → Int) × Unit) × Unit) => (fun (cn : ByteArray) (aq nq mq : Nat) (tq : Nat → Int) (rp : Int) (fl : Int) (al nl ml : Nat) (tl : Nat → Int) => (V146e cn aq nq mq tq rp fl al nl ml tl) (S.cseE (S.cyE cn nq (fun j => tq (j + aq)) rp fl) (S.setE nl (fun j => tl (j + al))))) x.1.1 x.1.2.1.1 x.1.2.1.2.1 x.1.2.1.2.2.1 x.1.2.1.2.2.2.1 x.1.2.2.1 x.1.2.2.2.1 x.2.1.1 x.2.1.2.1 x.2.1.2.2.1 x.2.1.2.2.2.1, fun (x : (ByteArray × (Nat × Nat × Nat × (Nat → Int) × Unit) × Int × Int × Unit) × (Nat × Nat × Nat × (Nat → Int) × Unit) × Unit) => (fun (cn : ByteArray) (aq nq mq : Nat) (tq : Nat → Int) (rp : Int) (fl : Int) (al nl ml : Nat) (tl : Nat → Int) => (N146e cn aq nq mq tq rp fl al nl ml tl) (S.cseE (S.cyE cn nq (fun j => tq (j + aq)) rp fl) (S.setE nl (fun j => tl (j + al))))) x.1.1 x.1.2.1.1 x.1.2.1.2.1 x.1.2.1.2.2.1 x.1.2.1.2.2.2.1 x.1.2.2.1 x.1.2.2.2.1 x.2.1.1 x.2.1.2.1 x.2.1.2.2.1 x.2.1.2.2.2.1, fun _ _ => .dead⟩
theorem s146e (cn : ByteArray) (aq nq mq : Nat) (tq : Nat → Int) (rp fl : Int) (al nl ml : Nat) (tl : Nat → Int) (hp : ((aq + nq ≤ mq ∧ nq ≤ 1000000) ∧ al + nl ≤ ml ∧ nl ≤ 1000000) ∧ ¬ ((S.cyE cn nq (fun j => tq (j + aq)) rp fl) = 0 ∧ (S.setE nl (fun j => tl (j + al))) = 0)) : Goes ((q146e cn aq nq mq tq rp fl al nl ml tl)) ((p146e cn aq nq mq tq rp fl al nl ml tl)) (S.cseE (S.cyE cn nq (fun j => tq (j + aq)) rp fl) (S.setE nl (fun j => tl (j + al)))) := by
  obtain ⟨⟨⟨hp1, hp2⟩, hp3, hp4⟩, hn⟩ := hp
  unfold S.cseE p146e
  generalize (S.cyE cn nq (fun j => tq (j + aq)) rp fl) = c at *
  generalize (S.setE nl (fun j => tl (j + al))) = s at *
  refine goes_ok (decide_eq_true ⟨hp1, hp2⟩) ?_
  by_cases hc : c = 0
  · rw [if_pos hc]
    refine goes_no (by simpa using hc) ?_
    refine goes_ok (decide_eq_true ⟨hp3, hp4⟩) ?_
    exact goes_ok (by simpa using fun h => hn ⟨hc, h⟩) (goes_inr.mpr rfl)
  · rw [if_neg hc]
    exact goes_ok (by simpa using hc) (goes_inr.mpr rfl)
theorem k146e_ok  : k146e.ok Try.prog := by
  intro x hx
  obtain ⟨⟨cn, ⟨aq, nq, mq, tq, _⟩, rp, fl, _⟩, ⟨al, nl, ml, tl, _⟩, _⟩ := x
  obtain ⟨h1, h2⟩ := a146e cn aq nq mq tq rp fl al nl ml tl (s146e cn aq nq mq tq rp fl al nl ml tl (of_dec hx rfl))
  exact ⟨⟨400, (by decide : 2 + 1 + 0 ≤ 400), h1⟩, h2⟩
noncomputable def ifX (test : Bool → Prop → Prop → Prop) (c1 c2 : Con) (sel : SsJ c1.ss → Bool) : Ext := fun f args H fr K no => match Nat.beq f c1.f with
  | false => no
  | true => match rdSs H fr c1.ss args with
    | none => no
    | some (x, _) => test (sel x) (conX test c1 f args H fr K no) (conX test c2 f args H fr K no)
theorem ifX_ok  {P : Program} {c1 c2 : Con} {sel : SsJ c1.ss → Bool} (h1 : c1.ok P) (h2 : c2.ok P) : ExtOk P (ifX cond c1 c2 sel) := by
  intro f args H fr K no hne hN h
  unfold ifX at h
  split at h
  · exact .inr h
  · split at h
    · exact .inr h
    · rename_i x ns hx
      cases hs : sel x with
      | true => rw [hs] at h; exact conX_ok h1 f args H fr K no hne hN h
      | false => rw [hs] at h; exact conX_ok h2 f args H fr K no hne hN h
noncomputable def e146i  : SsJ k146.ss → Bool := fun (x : (ByteArray × (Nat × Nat × Nat × (Nat → Int) × Unit) × Int × Int × Unit) × (Nat × Nat × Nat × (Nat → Int) × Unit) × Unit) => (fun (cn : ByteArray) (aq nq mq : Nat) (tq : Nat → Int) (rp : Int) (fl : Int) (al nl ml : Nat) (tl : Nat → Int) => decide ((S.cyE cn nq (fun j => tq (j + aq)) rp fl) = 0 ∧ (S.setE nl (fun j => tl (j + al))) = 0)) x.1.1 x.1.2.1.1 x.1.2.1.2.1 x.1.2.1.2.2.1 x.1.2.1.2.2.2.1 x.1.2.2.1 x.1.2.2.2.1 x.2.1.1 x.2.1.2.1 x.2.1.2.2.1 x.2.1.2.2.2.1
noncomputable def xM3 (test : Bool → Prop → Prop → Prop) : Ext := also (ifX test k146 k146e e146i) (consX test [])
theorem xM3_ok  : ExtOk Try.prog (xM3 cond) := also_ok (ifX_ok k146_ok k146e_ok) (consX_ok trivial)
namespace S
def staS (e : Int) (n : Nat) (t : Nat → Int) (rp fl : Int) (ns : Nat) (x : Nat → Int) : Int × Int :=
  let a := behS e n t rp fl ns x
  if a.2.2.2.2 = 0 then ((if a.2.1 = true then 3 else if a.1 > 0 then 2 else if a.2.2.1 = true then 4 else 1), 0) else (0, a.2.2.2.2)
def nxtS (e : Int) (n : Nat) (t : Nat → Int) (rp fl : Int) (ns : Nat) (x : Nat → Int) : Int × Int :=
  let a := behS e n t rp fl ns x
  if a.2.2.2.2 = 0 then (if a.2.1 = true ∧ a.1 = 0 then (0, 8) else (at' (stpL n t rp fl) a.1.toNat, 0)) else (0, a.2.2.2.2)
end S
theorem beh_ce  {e : Int} {n : Nat} {t : Nat → Int} {rp fl : Int} {ns : Nat} {x : Nat → Int} : (S.behS e n t rp fl ns x).2.2.2.2 = S.cseE e (S.setE ns x) := by
  unfold S.behS S.cseE
  by_cases h1 : e = 0
  · rw [if_pos h1, if_pos h1]
    by_cases h2 : S.setE ns x = 0
    · rw [if_pos h2, h2]
    · rw [if_neg h2]
  · rw [if_neg h1, if_neg h1]
theorem cse_0  {c s : Int} : S.cseE c s = 0 ↔ c = 0 ∧ s = 0 := by
  unfold S.cseE
  constructor
  · intro h
    split at h
    · exact ⟨by assumption, h⟩
    · exact absurd h (by assumption)
  · rintro ⟨rfl, rfl⟩; rfl
theorem beh_in  {cn : ByteArray} {n : Nat} {t : Nat → Int} {rp fl : Int} {ns : Nat} {x : Nat → Int} (h : S.cyE cn n t rp fl = 0) (h2 : S.setE ns x = 0) :
    let a := S.behS (S.cyE cn n t rp fl) n t rp fl ns x
    let c := S.remS n t fl rp ns x
    c.1 = a.1 ∧ c.2.1 = a.2.1 ∧ (a.2.1 = false → c.2.2.2.1 = a.2.2.1) ∧ c.2.2.2.2 = S.stpL n t rp fl ∧ (0 ≤ a.1 ∧ a.1 < ((S.stpL n t rp fl).length : Int)) := by
  have hc := cy_ok h
  have hl2 : 2 ≤ (S.stpL n t rp fl).length := by
    rw [stp_len]
    have : 1 ≤ n * rp.toNat := Nat.mul_pos (by omega) (by omega)
    omega
  unfold S.behS S.remS
  rw [h, if_pos rfl, if_pos h2]
  obtain ⟨h1, h2, h3, h4⟩ := rem_beh (n := n) (nl := (S.stpL n t rp fl).length) (t := t) (l := fun j => S.at' (S.stpL n t rp fl) j) (x := x) (fl := fl) ns
  exact ⟨h1, h2, h4, rfl, beh_b hl2 ns⟩
abbrev St124  := Empty
abbrev Rt124  := Int × Int
noncomputable def V124 (cn : ByteArray) (aq nq mq : Nat) (tq : NI) (rp fl : Int) (al nl ml : Nat) (tl : NI) (r : Rt124) : PV := PV.tup [PV.int .i64 r.1, PV.int .i64 r.2]
noncomputable def N124 (cn : ByteArray) (aq nq mq : Nat) (tq : NI) (rp fl : Int) (al nl ml : Nat) (tl : NI) (r : Rt124) : List Blk := []
noncomputable def I124 (cn : ByteArray) (aq nq mq : Nat) (tq : NI) (rp fl : Int) (al nl ml : Nat) (tl : NI) : St124 → Hd := fun s => s.elim
noncomputable def q124 (cn : ByteArray) (aq nq mq : Nat) (tq : NI) (rp fl : Int) (al nl ml : Nat) (tl : NI) : St124 → Option (St124 ⊕ Rt124) := fun s => s.elim
noncomputable def p124 (cn : ByteArray) (aq nq mq : Nat) (tq : NI) (rp fl : Int) (al nl ml : Nat) (tl : NI) : Option (St124 ⊕ Rt124) := bif (decide (S.cyE cn nq (fun j => tq (j + aq)) rp fl = 0 ∧ (S.setE nl fun j => tl (j + al)) = 0)) then (bif (decide (((aq + nq ≤ mq ∧ nq ≤ 1000000) ∧ al + nl ≤ ml ∧ nl ≤ 1000000) ∧ S.cyE cn nq (fun j => tq (j + aq)) rp fl = 0 ∧ (S.setE nl fun j => tl (j + al)) = 0)) then (bif ((S.remS nq (fun j => tq (j + aq)) fl rp nl fun j => tl (j + al)).2.1) then (some (.inr ((3 : Int), (0 : Int)))) else (bif ((S.remS nq (fun j => tq (j + aq)) fl rp nl fun j => tl (j + al)).1 != 0) then (some (.inr ((2 : Int), (0 : Int)))) else (bif (Prod.fst (Prod.snd ((S.remS nq (fun j => tq (j + aq)) fl rp nl fun j => tl (j + al)).2.2))) then (some (.inr ((4 : Int), (0 : Int)))) else (some (.inr ((1 : Int), (0 : Int))))))) else (none)) else (bif (decide (((aq + nq ≤ mq ∧ nq ≤ 1000000) ∧ al + nl ≤ ml ∧ nl ≤ 1000000) ∧ ¬(S.cyE cn nq (fun j => tq (j + aq)) rp fl = 0 ∧ (S.setE nl fun j => tl (j + al)) = 0))) then (bif (S.cseE (S.cyE cn nq (fun j => tq (j + aq)) rp fl) (S.setE nl fun j => tl (j + al)) != 0) then (some (.inr ((0 : Int), S.cseE (S.cyE cn nq (fun j => tq (j + aq)) rp fl) (S.setE nl fun j => tl (j + al))))) else (none)) else (none))
noncomputable abbrev u124_e_0 (mq : Nat) (tq : Nat → Int) (ml : Nat) (tl : Nat → Int) := ([[(1, false, Blk.cols ml [Col.int IntKind.i64 tl]), (0, false, Blk.cols mq [Col.int IntKind.i64 tq])]])
def Te124 (test : TT) (Kst : KS) (Kret : KR) (cn : ByteArray) (aq nq mq : Nat) (tq : NI) (rp fl : Int) (al nl ml : Nat) (tl : NI) : Prop := test (decide (S.cyE cn nq (fun j => tq (j + aq)) rp fl = 0 ∧ (S.setE nl fun j => tl (j + al)) = 0)) (test (decide (((aq + nq ≤ mq ∧ nq ≤ 1000000) ∧ al + nl ≤ ml ∧ nl ≤ 1000000) ∧ S.cyE cn nq (fun j => tq (j + aq)) rp fl = 0 ∧ (S.setE nl fun j => tl (j + al)) = 0)) (test (false) (Kret (PV.tup [PV.int .i64 (0 : Int), PV.int .i64 (0 : Int)]) (u124_e_0 mq tq ml tl) (6)) (test (S.remS nq (fun j => tq (j + aq)) fl rp nl fun j => tl (j + al)).2.1 (Kret (PV.tup [PV.int .i64 (3 : Int), PV.int .i64 (0 : Int)]) (u124_e_0 mq tq ml tl) (6)) (test ((S.remS nq (fun j => tq (j + aq)) fl rp nl fun j => tl (j + al)).1 != 0) (Kret (PV.tup [PV.int .i64 (2 : Int), PV.int .i64 (0 : Int)]) (u124_e_0 mq tq ml tl) (6)) (test (S.remS nq (fun j => tq (j + aq)) fl rp nl fun j => tl (j + al)).2.2.2.1 (Kret (PV.tup [PV.int .i64 (4 : Int), PV.int .i64 (0 : Int)]) (u124_e_0 mq tq ml tl) (6)) (Kret (PV.tup [PV.int .i64 (1 : Int), PV.int .i64 (0 : Int)]) (u124_e_0 mq tq ml tl) (6)))))) (False)) (test (decide (((aq + nq ≤ mq ∧ nq ≤ 1000000) ∧ al + nl ≤ ml ∧ nl ≤ 1000000) ∧ ¬(S.cyE cn nq (fun j => tq (j + aq)) rp fl = 0 ∧ (S.setE nl fun j => tl (j + al)) = 0))) (test (S.cseE (S.cyE cn nq (fun j => tq (j + aq)) rp fl) (S.setE nl fun j => tl (j + al)) != 0) (Kret (PV.tup [PV.int .i64 (0 : Int), PV.int .i64 (S.cseE (S.cyE cn nq (fun j => tq (j + aq)) rp fl) (S.setE nl fun j => tl (j + al)))]) (u124_e_0 mq tq ml tl) (4)) (False)) (False))
theorem te124 (test : TT) (Kst : KS) (Kret : KR) (cn : ByteArray) (aq nq mq : Nat) (tq : NI) (rp fl : Int) (al nl ml : Nat) (tl : NI) : run test Try.env true (xM3 test) true 400 ⟨24, [.cd (mkFn Try.f24).body], argT 0 [.agg [.str cn, .loose ⟨0, 1, aq, 0⟩ nq, .int .i64 rp, .int .i64 fl], .loose ⟨1, 1, al, 0⟩ nl], [[], [(0, (false, .cols mq [.int .i64 tq])), (1, (false, .cols ml [.int .i64 tl]))]], 2⟩ (proj 2 [] Kst Kret) =
  Te124 test Kst Kret cn aq nq mq tq rp fl al nl ml tl := by kernel_rfl
noncomputable abbrev J124 (cn : ByteArray) (aq nq mq : Nat) (tq : NI) (rp : Int) (fl : Int) (al nl ml : Nat) (tl : NI) : Rt124 → Heap := fun r => [newL (2 + 1) ((N124 cn aq nq mq tq rp fl al nl ml tl) r) ++ [(0, (false, .cols mq [.int .i64 tq])), (1, (false, .cols ml [.int .i64 tl]))]]
attribute [local irreducible] Int.subNatNat in
theorem be124 (cn : ByteArray) (aq nq mq : Nat) (tq : NI) (rp fl : Int) (al nl ml : Nat) (tl : NI) (Kst : KS) (Kret : KR) (x : St124 ⊕ Rt124) (hS : HS 2 400 ((I124 cn aq nq mq tq rp fl al nl ml tl)) Kst x) (hR : HR 2 400 ((V124 cn aq nq mq tq rp fl al nl ml tl)) (J124 cn aq nq mq tq rp fl al nl ml tl) Kret x) (h : p124 cn aq nq mq tq rp fl al nl ml tl = some x) : Te124 cond Kst Kret cn aq nq mq tq rp fl al nl ml tl := by
  unfold Te124
  unfold p124 at h
  refine bif_split h (fun c0 h => bif_split h (fun c1 h => cond_no rfl (bif_split h (fun c2 h => ?_) (fun c2 h => bif_split h (fun c3 h => ?_) (fun c3 h => bif_split h (fun c4 h => ?_) (fun c4 h => ?_))))) (fun c1 h => ?_)) (fun c0 h => bif_split h (fun c1 h => bif_split h (fun c2 h => ?_) (fun c2 h => ?_)) (fun c1 h => ?_))
  all_goals first
    | exact ret_at hR _ h (fun n => n) rfl rfl rfl (rn_tup ⟨(rn_int rfl), (rn_int rfl), trivial⟩) rfl (entl_bor (use_lo rfl) rfl rfl (entl_bor (use_lo rfl) rfl rfl entl_nil))
    | exact no_some h
theorem a124 (cn : ByteArray) (aq nq mq : Nat) (tq : NI) (rp fl : Int) (al nl ml : Nat) (tl : NI) {r : Rt124} (h : Goes ((q124 cn aq nq mq tq rp fl al nl ml tl)) ((p124 cn aq nq mq tq rp fl al nl ml tl)) r) : CallR Try.prog 24 [.agg [.str cn, .loose ⟨0, 1, aq, 0⟩ nq, .int .i64 rp, .int .i64 fl], .loose ⟨1, 1, al, 0⟩ nl] [[(0, (false, .cols mq [.int .i64 tq])), (1, (false, .cols ml [.int .i64 tl]))]] 2 ((V124 cn aq nq mq tq rp fl al nl ml tl) r) ((J124 cn aq nq mq tq rp fl al nl ml tl) r) 400 ∧ ∃ F, Try.prog.funcs[24]? = some F ∧ F.body.isSome = true ∧ (F.name == "runtime.NumGoroutine") = false := by
  refine dec_calls (f := 24) (lo := 2) (hi := 400) (H := [[(0, (false, .cols mq [.int .i64 tq])), (1, (false, .cols ml [.int .i64 tl]))]]) (args := [.agg [.str cn, .loose ⟨0, 1, aq, 0⟩ nq, .int .i64 rp, .int .i64 fl], .loose ⟨1, 1, al, 0⟩ nl]) Try.envOk Try.mixed xM3_ok ((I124 cn aq nq mq tq rp fl al nl ml tl)) ((V124 cn aq nq mq tq rp fl al nl ml tl)) (J124 cn aq nq mq tq rp fl al nl ml tl) (fn := mkFn Try.f24) (ts := []) (n := 400) rfl (by decide) (by simp) (names_of rfl) ?_ ?_ ?_ h
  · intro s; exact s.elim
  · intro Kst Kret x hS hR h
    exact Holds.eq (te124 cond Kst Kret cn aq nq mq tq rp fl al nl ml tl) (be124 cn aq nq mq tq rp fl al nl ml tl Kst Kret x hS hR h)
  · intro Kst Kret x hS hR s h; exact s.elim
noncomputable abbrev w124 {α : Type} (g : ByteArray → Nat → Nat → Nat → (Nat → Int) → Int → Int → Nat → Nat → Nat → (Nat → Int) → α) (x : (ByteArray × (Nat × Nat × Nat × (Nat → Int) × Unit) × Int × Int × Unit) × (Nat × Nat × Nat × (Nat → Int) × Unit) × Unit) : α := g x.1.1 x.1.2.1.1 x.1.2.1.2.1 x.1.2.1.2.2.1 x.1.2.1.2.2.2.1 x.1.2.2.1 x.1.2.2.2.1 x.2.1.1 x.2.1.2.1 x.2.1.2.2.1 x.2.1.2.2.2.1
noncomputable def k124  : Con := ⟨24, [.agg [.plain (.str), .list [.int .i64], .plain (.int .i64), .plain (.int .i64)], .one (.list [.int .i64])], w124 (fun cn aq nq mq tq rp fl al nl ml tl => decide ((aq + nq ≤ mq ∧ nq ≤ 1000000) ∧ al + nl ≤ ml ∧ nl ≤ 1000000)), w124 (fun cn aq nq mq tq rp fl al nl ml tl => (V124 cn aq nq mq tq rp fl al nl ml tl) (S.staS (S.cyE cn nq (fun j => tq (j + aq)) rp fl) nq (fun j => tq (j + aq)) rp fl nl (fun j => tl (j + al)))), w124 (fun cn aq nq mq tq rp fl al nl ml tl => (N124 cn aq nq mq tq rp fl al nl ml tl) (S.staS (S.cyE cn nq (fun j => tq (j + aq)) rp fl) nq (fun j => tq (j + aq)) rp fl nl (fun j => tl (j + al)))), fun _ _ => .dead⟩
theorem s124 (cn : ByteArray) (aq nq mq : Nat) (tq : Nat → Int) (rp fl : Int) (al nl ml : Nat) (tl : Nat → Int) (hp : (aq + nq ≤ mq ∧ nq ≤ 1000000) ∧ al + nl ≤ ml ∧ nl ≤ 1000000) : Goes ((q124 cn aq nq mq tq rp fl al nl ml tl)) ((p124 cn aq nq mq tq rp fl al nl ml tl)) (S.staS (S.cyE cn nq (fun j => tq (j + aq)) rp fl) nq (fun j => tq (j + aq)) rp fl nl (fun j => tl (j + al))) := by
  obtain ⟨⟨hp1, hp2⟩, hp3, hp4⟩ := hp
  have he := beh_ce (e := (S.cyE cn nq (fun j => tq (j + aq)) rp fl)) (n := nq) (t := (fun j => tq (j + aq))) (rp := rp) (fl := fl) (ns := nl) (x := (fun j => tl (j + al)))
  have hin := fun h1 h2 => (beh_in (cn := cn) (n := nq) (t := (fun j => tq (j + aq))) (rp := rp) (fl := fl) (ns := nl) (x := (fun j => tl (j + al))) h1 h2)
  unfold S.staS p124
  by_cases h67 : (S.cyE cn nq (fun j => tq (j + aq)) rp fl) = 0 ∧ (S.setE nl (fun j => tl (j + al))) = 0
  · have hin := hin h67.1 h67.2
    refine goes_ok (decide_eq_true h67) ?_
    refine goes_ok (decide_eq_true ⟨⟨⟨hp1, hp2⟩, hp3, hp4⟩, h67⟩) ?_
    replace he := he.trans (cse_0.mpr h67)
    generalize S.behS _ _ _ _ _ _ _ = B at *
    generalize S.remS _ _ _ _ _ _ = C at *
    obtain ⟨b1, b2, b3, b4, b5⟩ := B
    obtain ⟨c1, c2, c3, c4, c5⟩ := C
    simp only at he hin ⊢
    obtain ⟨rfl, rfl, i3, rfl, i4⟩ := hin
    rw [if_pos he]
    generalize S.stpL nq (fun j => tq (j + aq)) rp fl = L at *
    cases c2
    · have i3 := i3 rfl
      subst i3
      cases c4
      all_goals
        repeat' (first | with_reducible refine goes_if (fun h => ?_) (fun h => ?_) <;> (try simp only [SH] at h) | exact goes_none.mpr (by omega))
        all_goals first
          | (exfalso; omega)
          | (refine goes_inr.mpr ?_; simp only [Bool.false_eq_true, if_false, if_true, true_and, false_and] <;> first | rfl | (rw [if_pos (by omega)]) | (rw [if_neg (by omega)]) | ((repeat' split) <;> first | rfl | (exfalso; omega)))
    · clear i3
      repeat' (first | with_reducible refine goes_if (fun h => ?_) (fun h => ?_) <;> (try simp only [SH] at h) | exact goes_none.mpr (by omega))
      all_goals first
          | (exfalso; omega)
          | (refine goes_inr.mpr ?_; simp only [Bool.false_eq_true, if_false, if_true, true_and, false_and] <;> first | rfl | (rw [if_pos (by omega)]) | (rw [if_neg (by omega)]) | ((repeat' split) <;> first | rfl | (exfalso; omega)))
  · have h5 : S.cseE (S.cyE cn nq (fun j => tq (j + aq)) rp fl) (S.setE nl (fun j => tl (j + al))) ≠ 0 := fun h => h67 (cse_0.mp h)
    show Goes _ _ (if (S.behS (S.cyE cn nq (fun j => tq (j + aq)) rp fl) nq (fun j => tq (j + aq)) rp fl nl (fun j => tl (j + al))).2.2.2.2 = 0 then _ else (0, (S.behS (S.cyE cn nq (fun j => tq (j + aq)) rp fl) nq (fun j => tq (j + aq)) rp fl nl (fun j => tl (j + al))).2.2.2.2))
    rw [if_neg (by rw [he]; exact h5), he]
    refine goes_no (decide_eq_false h67) ?_
    refine goes_ok (decide_eq_true ⟨⟨⟨hp1, hp2⟩, hp3, hp4⟩, h67⟩) ?_
    exact goes_ok (by simpa using h5) (goes_inr.mpr rfl)
theorem k124_ok  : k124.ok Try.prog := by
  intro x hx
  obtain ⟨⟨cn, ⟨aq, nq, mq, tq, _⟩, rp, fl, _⟩, ⟨al, nl, ml, tl, _⟩, _⟩ := x
  obtain ⟨h1, h2⟩ := a124 cn aq nq mq tq rp fl al nl ml tl (s124 cn aq nq mq tq rp fl al nl ml tl (of_dec hx rfl))
  exact ⟨⟨400, (by decide : 2 + 1 + 0 ≤ 400), h1⟩, h2⟩
abbrev St127  := Empty
abbrev Rt127  := Int × Int
noncomputable def V127 (cn : ByteArray) (aq nq mq : Nat) (tq : NI) (rp fl : Int) (al nl ml : Nat) (tl : NI) (r : Rt127) : PV := PV.tup [PV.int .i64 r.1, PV.int .i64 r.2]
noncomputable def N127 (cn : ByteArray) (aq nq mq : Nat) (tq : NI) (rp fl : Int) (al nl ml : Nat) (tl : NI) (r : Rt127) : List Blk := []
noncomputable def I127 (cn : ByteArray) (aq nq mq : Nat) (tq : NI) (rp fl : Int) (al nl ml : Nat) (tl : NI) : St127 → Hd := fun s => s.elim
noncomputable def q127 (cn : ByteArray) (aq nq mq : Nat) (tq : NI) (rp fl : Int) (al nl ml : Nat) (tl : NI) : St127 → Option (St127 ⊕ Rt127) := fun s => s.elim
noncomputable def p127 (cn : ByteArray) (aq nq mq : Nat) (tq : NI) (rp fl : Int) (al nl ml : Nat) (tl : NI) : Option (St127 ⊕ Rt127) := bif (decide (S.cyE cn nq (fun j => tq (j + aq)) rp fl = 0 ∧ (S.setE nl fun j => tl (j + al)) = 0)) then (bif (decide (((aq + nq ≤ mq ∧ nq ≤ 1000000) ∧ al + nl ≤ ml ∧ nl ≤ 1000000) ∧ S.cyE cn nq (fun j => tq (j + aq)) rp fl = 0 ∧ (S.setE nl fun j => tl (j + al)) = 0)) then (bif ((S.remS nq (fun j => tq (j + aq)) fl rp nl fun j => tl (j + al)).2.1) then (bif ((S.remS nq (fun j => tq (j + aq)) fl rp nl fun j => tl (j + al)).1 == 0) then (some (.inr ((0 : Int), (8 : Int)))) else (bif (decide ((0 : Int) ≤ (S.remS nq (fun j => tq (j + aq)) fl rp nl fun j => tl (j + al)).1 ∧ (S.remS nq (fun j => tq (j + aq)) fl rp nl fun j => tl (j + al)).1 < (↑(List.length (Prod.snd (Prod.snd (Prod.snd (Prod.snd (S.remS nq (fun j => tq (j + aq)) fl rp nl fun j => tl (j + al))))))) : Int))) then (bif (decide (Int.toNat ((S.remS nq (fun j => tq (j + aq)) fl rp nl fun j => tl (j + al)).1) < List.length (Prod.snd (Prod.snd (Prod.snd ((S.remS nq (fun j => tq (j + aq)) fl rp nl fun j => tl (j + al)).2)))))) then (some (.inr (S.at' (Prod.snd (Prod.snd ((S.remS nq (fun j => tq (j + aq)) fl rp nl fun j => tl (j + al)).2.2))) (Int.toNat ((S.remS nq (fun j => tq (j + aq)) fl rp nl fun j => tl (j + al)).1)), (0 : Int)))) else (none)) else (none))) else (bif (decide ((0 : Int) ≤ (S.remS nq (fun j => tq (j + aq)) fl rp nl fun j => tl (j + al)).1 ∧ (S.remS nq (fun j => tq (j + aq)) fl rp nl fun j => tl (j + al)).1 < (↑(List.length (Prod.snd (Prod.snd (Prod.snd (Prod.snd (S.remS nq (fun j => tq (j + aq)) fl rp nl fun j => tl (j + al))))))) : Int))) then (bif (decide (Int.toNat ((S.remS nq (fun j => tq (j + aq)) fl rp nl fun j => tl (j + al)).1) < List.length (Prod.snd (Prod.snd (Prod.snd ((S.remS nq (fun j => tq (j + aq)) fl rp nl fun j => tl (j + al)).2)))))) then (some (.inr (S.at' (Prod.snd (Prod.snd ((S.remS nq (fun j => tq (j + aq)) fl rp nl fun j => tl (j + al)).2.2))) (Int.toNat ((S.remS nq (fun j => tq (j + aq)) fl rp nl fun j => tl (j + al)).1)), (0 : Int)))) else (none)) else (none))) else (none)) else (bif (decide (((aq + nq ≤ mq ∧ nq ≤ 1000000) ∧ al + nl ≤ ml ∧ nl ≤ 1000000) ∧ ¬(S.cyE cn nq (fun j => tq (j + aq)) rp fl = 0 ∧ (S.setE nl fun j => tl (j + al)) = 0))) then (bif (S.cseE (S.cyE cn nq (fun j => tq (j + aq)) rp fl) (S.setE nl fun j => tl (j + al)) != 0) then (some (.inr ((0 : Int), S.cseE (S.cyE cn nq (fun j => tq (j + aq)) rp fl) (S.setE nl fun j => tl (j + al))))) else (none)) else (none))
noncomputable abbrev u127_e_0 (aq nq : Nat) (tq : Nat → Int) (rp fl : Int) (al nl : Nat) (tl : Nat → Int) := S.remS nq (fun j => tq (j + aq)) fl rp nl fun j => tl (j + al)
noncomputable abbrev u127_e_1 (mq : Nat) (tq : Nat → Int) (ml : Nat) (tl : Nat → Int) := ([[(1, false, Blk.cols ml [Col.int IntKind.i64 tl]), (0, false, Blk.cols mq [Col.int IntKind.i64 tq])]])
def Te127 (test : TT) (Kst : KS) (Kret : KR) (cn : ByteArray) (aq nq mq : Nat) (tq : NI) (rp fl : Int) (al nl ml : Nat) (tl : NI) : Prop := test (decide (S.cyE cn nq (fun j => tq (j + aq)) rp fl = 0 ∧ (S.setE nl fun j => tl (j + al)) = 0)) (test (decide (((aq + nq ≤ mq ∧ nq ≤ 1000000) ∧ al + nl ≤ ml ∧ nl ≤ 1000000) ∧ S.cyE cn nq (fun j => tq (j + aq)) rp fl = 0 ∧ (S.setE nl fun j => tl (j + al)) = 0)) (test (false) (Kret (PV.tup [PV.int .i64 (0 : Int), PV.int .i64 (0 : Int)]) (u127_e_1 mq tq ml tl) (6)) (test (u127_e_0 aq nq tq rp fl al nl tl).2.1 (test ((u127_e_0 aq nq tq rp fl al nl tl).1 == 0) (Kret (PV.tup [PV.int .i64 (0 : Int), PV.int .i64 (8 : Int)]) (u127_e_1 mq tq ml tl) (6)) (test (decide ((0 : Int) ≤ (u127_e_0 aq nq tq rp fl al nl tl).1 ∧ (u127_e_0 aq nq tq rp fl al nl tl).1 < (↑(List.length (u127_e_0 aq nq tq rp fl al nl tl).2.2.2.2) : Int))) (test (decide (Int.toNat (u127_e_0 aq nq tq rp fl al nl tl).1 < List.length (u127_e_0 aq nq tq rp fl al nl tl).2.2.2.2)) (Kret (PV.tup [PV.int .i64 (S.at' (u127_e_0 aq nq tq rp fl al nl tl).2.2.2.2 (Int.toNat (u127_e_0 aq nq tq rp fl al nl tl).1)), PV.int .i64 (0 : Int)]) (u127_e_1 mq tq ml tl) (6)) (False)) (False))) (test (decide ((0 : Int) ≤ (u127_e_0 aq nq tq rp fl al nl tl).1 ∧ (u127_e_0 aq nq tq rp fl al nl tl).1 < (↑(List.length (u127_e_0 aq nq tq rp fl al nl tl).2.2.2.2) : Int))) (test (decide (Int.toNat (u127_e_0 aq nq tq rp fl al nl tl).1 < List.length (u127_e_0 aq nq tq rp fl al nl tl).2.2.2.2)) (Kret (PV.tup [PV.int .i64 (S.at' (u127_e_0 aq nq tq rp fl al nl tl).2.2.2.2 (Int.toNat (u127_e_0 aq nq tq rp fl al nl tl).1)), PV.int .i64 (0 : Int)]) (u127_e_1 mq tq ml tl) (6)) (False)) (False)))) (False)) (test (decide (((aq + nq ≤ mq ∧ nq ≤ 1000000) ∧ al + nl ≤ ml ∧ nl ≤ 1000000) ∧ ¬(S.cyE cn nq (fun j => tq (j + aq)) rp fl = 0 ∧ (S.setE nl fun j => tl (j + al)) = 0))) (test (S.cseE (S.cyE cn nq (fun j => tq (j + aq)) rp fl) (S.setE nl fun j => tl (j + al)) != 0) (Kret (PV.tup [PV.int .i64 (0 : Int), PV.int .i64 (S.cseE (S.cyE cn nq (fun j => tq (j + aq)) rp fl) (S.setE nl fun j => tl (j + al)))]) (u127_e_1 mq tq ml tl) (4)) (False)) (False))
theorem te127 (test : TT) (Kst : KS) (Kret : KR) (cn : ByteArray) (aq nq mq : Nat) (tq : NI) (rp fl : Int) (al nl ml : Nat) (tl : NI) : run test Try.env true (xM3 test) true 400 ⟨27, [.cd (mkFn Try.f27).body], argT 0 [.agg [.str cn, .loose ⟨0, 1, aq, 0⟩ nq, .int .i64 rp, .int .i64 fl], .loose ⟨1, 1, al, 0⟩ nl], [[], [(0, (false, .cols mq [.int .i64 tq])), (1, (false, .cols ml [.int .i64 tl]))]], 2⟩ (proj 2 [] Kst Kret) =
  Te127 test Kst Kret cn aq nq mq tq rp fl al nl ml tl := by kernel_rfl
noncomputable abbrev J127 (cn : ByteArray) (aq nq mq : Nat) (tq : NI) (rp : Int) (fl : Int) (al nl ml : Nat) (tl : NI) : Rt127 → Heap := fun r => [newL (2 + 1) ((N127 cn aq nq mq tq rp fl al nl ml tl) r) ++ [(0, (false, .cols mq [.int .i64 tq])), (1, (false, .cols ml [.int .i64 tl]))]]
attribute [local irreducible] Int.subNatNat in
theorem be127 (cn : ByteArray) (aq nq mq : Nat) (tq : NI) (rp fl : Int) (al nl ml : Nat) (tl : NI) (Kst : KS) (Kret : KR) (x : St127 ⊕ Rt127) (hS : HS 2 400 ((I127 cn aq nq mq tq rp fl al nl ml tl)) Kst x) (hR : HR 2 400 ((V127 cn aq nq mq tq rp fl al nl ml tl)) (J127 cn aq nq mq tq rp fl al nl ml tl) Kret x) (h : p127 cn aq nq mq tq rp fl al nl ml tl = some x) : Te127 cond Kst Kret cn aq nq mq tq rp fl al nl ml tl := by
  unfold Te127
  unfold p127 at h
  refine bif_split h (fun c0 h => bif_split h (fun c1 h => cond_no rfl (bif_split h (fun c2 h => bif_split h (fun c3 h => ?_) (fun c3 h => bif_split h (fun c4 h => bif_split h (fun c5 h => ?_) (fun c5 h => ?_)) (fun c4 h => ?_))) (fun c2 h => bif_split h (fun c3 h => bif_split h (fun c4 h => ?_) (fun c4 h => ?_)) (fun c3 h => ?_)))) (fun c1 h => ?_)) (fun c0 h => bif_split h (fun c1 h => bif_split h (fun c2 h => ?_) (fun c2 h => ?_)) (fun c1 h => ?_))
  all_goals first
    | exact no_some h
    | exact ret_at hR _ h (fun n => n) rfl rfl rfl (rn_tup ⟨(rn_int rfl), (rn_int rfl), trivial⟩) rfl (entl_bor (use_lo rfl) rfl rfl (entl_bor (use_lo rfl) rfl rfl entl_nil))
theorem a127 (cn : ByteArray) (aq nq mq : Nat) (tq : NI) (rp fl : Int) (al nl ml : Nat) (tl : NI) {r : Rt127} (h : Goes ((q127 cn aq nq mq tq rp fl al nl ml tl)) ((p127 cn aq nq mq tq rp fl al nl ml tl)) r) : CallR Try.prog 27 [.agg [.str cn, .loose ⟨0, 1, aq, 0⟩ nq, .int .i64 rp, .int .i64 fl], .loose ⟨1, 1, al, 0⟩ nl] [[(0, (false, .cols mq [.int .i64 tq])), (1, (false, .cols ml [.int .i64 tl]))]] 2 ((V127 cn aq nq mq tq rp fl al nl ml tl) r) ((J127 cn aq nq mq tq rp fl al nl ml tl) r) 400 ∧ ∃ F, Try.prog.funcs[27]? = some F ∧ F.body.isSome = true ∧ (F.name == "runtime.NumGoroutine") = false := by
  refine dec_calls (f := 27) (lo := 2) (hi := 400) (H := [[(0, (false, .cols mq [.int .i64 tq])), (1, (false, .cols ml [.int .i64 tl]))]]) (args := [.agg [.str cn, .loose ⟨0, 1, aq, 0⟩ nq, .int .i64 rp, .int .i64 fl], .loose ⟨1, 1, al, 0⟩ nl]) Try.envOk Try.mixed xM3_ok ((I127 cn aq nq mq tq rp fl al nl ml tl)) ((V127 cn aq nq mq tq rp fl al nl ml tl)) (J127 cn aq nq mq tq rp fl al nl ml tl) (fn := mkFn Try.f27) (ts := []) (n := 400) rfl (by decide) (by simp) (names_of rfl) ?_ ?_ ?_ h
  · intro s; exact s.elim
  · intro Kst Kret x hS hR h
    exact Holds.eq (te127 cond Kst Kret cn aq nq mq tq rp fl al nl ml tl) (be127 cn aq nq mq tq rp fl al nl ml tl Kst Kret x hS hR h)
  · intro Kst Kret x hS hR s h; exact s.elim
noncomputable abbrev w127 {α : Type} (g : ByteArray → Nat → Nat → Nat → (Nat → Int) → Int → Int → Nat → Nat → Nat → (Nat → Int) → α) (x : (ByteArray × (Nat × Nat × Nat × (Nat → Int) × Unit) × Int × Int × Unit) × (Nat × Nat × Nat × (Nat → Int) × Unit) × Unit) : α := g x.1.1 x.1.2.1.1 x.1.2.1.2.1 x.1.2.1.2.2.1 x.1.2.1.2.2.2.1 x.1.2.2.1 x.1.2.2.2.1 x.2.1.1 x.2.1.2.1 x.2.1.2.2.1 x.2.1.2.2.2.1
noncomputable def k127  : Con := ⟨27, [.agg [.plain (.str), .list [.int .i64], .plain (.int .i64), .plain (.int .i64)], .one (.list [.int .i64])], w127 (fun cn aq nq mq tq rp fl al nl ml tl => decide ((aq + nq ≤ mq ∧ nq ≤ 1000000) ∧ al + nl ≤ ml ∧ nl ≤ 1000000)), w127 (fun cn aq nq mq tq rp fl al nl ml tl => (V127 cn aq nq mq tq rp fl al nl ml tl) (S.nxtS (S.cyE cn nq (fun j => tq (j + aq)) rp fl) nq (fun j => tq (j + aq)) rp fl nl (fun j => tl (j + al)))), w127 (fun cn aq nq mq tq rp fl al nl ml tl => (N127 cn aq nq mq tq rp fl al nl ml tl) (S.nxtS (S.cyE cn nq (fun j => tq (j + aq)) rp fl) nq (fun j => tq (j + aq)) rp fl nl (fun j => tl (j + al)))), fun _ _ => .dead⟩
theorem s127 (cn : ByteArray) (aq nq mq : Nat) (tq : Nat → Int) (rp fl : Int) (al nl ml : Nat) (tl : Nat → Int) (hp : (aq + nq ≤ mq ∧ nq ≤ 1000000) ∧ al + nl ≤ ml ∧ nl ≤ 1000000) : Goes ((q127 cn aq nq mq tq rp fl al nl ml tl)) ((p127 cn aq nq mq tq rp fl al nl ml tl)) (S.nxtS (S.cyE cn nq (fun j => tq (j + aq)) rp fl) nq (fun j => tq (j + aq)) rp fl nl (fun j => tl (j + al))) := by
  obtain ⟨⟨hp1, hp2⟩, hp3, hp4⟩ := hp
  have he := beh_ce (e := (S.cyE cn nq (fun j => tq (j + aq)) rp fl)) (n := nq) (t := (fun j => tq (j + aq))) (rp := rp) (fl := fl) (ns := nl) (x := (fun j => tl (j + al)))
  have hin := fun h1 h2 => (beh_in (cn := cn) (n := nq) (t := (fun j => tq (j + aq))) (rp := rp) (fl := fl) (ns := nl) (x := (fun j => tl (j + al))) h1 h2)
  unfold S.nxtS p127
  by_cases h67 : (S.cyE cn nq (fun j => tq (j + aq)) rp fl) = 0 ∧ (S.setE nl (fun j => tl (j + al))) = 0
  · have hin := hin h67.1 h67.2
    refine goes_ok (decide_eq_true h67) ?_
    refine goes_ok (decide_eq_true ⟨⟨⟨hp1, hp2⟩, hp3, hp4⟩, h67⟩) ?_
    replace he := he.trans (cse_0.mpr h67)
    generalize S.behS _ _ _ _ _ _ _ = B at *
    generalize S.remS _ _ _ _ _ _ = C at *
    obtain ⟨b1, b2, b3, b4, b5⟩ := B
    obtain ⟨c1, c2, c3, c4, c5⟩ := C
    simp only at he hin ⊢
    obtain ⟨rfl, rfl, i3, rfl, i4⟩ := hin
    rw [if_pos he]
    generalize S.stpL nq (fun j => tq (j + aq)) rp fl = L at *
    cases c2
    · have i3 := i3 rfl
      subst i3
      cases c4
      all_goals
        repeat' (first | with_reducible refine goes_if (fun h => ?_) (fun h => ?_) <;> (try simp only [SH] at h) | exact goes_none.mpr (by omega))
        all_goals first
          | (exfalso; omega)
          | (refine goes_inr.mpr ?_; simp only [Bool.false_eq_true, if_false, if_true, true_and, false_and] <;> first | rfl | (rw [if_pos (by omega)]) | (rw [if_neg (by omega)]) | ((repeat' split) <;> first | rfl | (exfalso; omega)))
    · clear i3
      repeat' (first | with_reducible refine goes_if (fun h => ?_) (fun h => ?_) <;> (try simp only [SH] at h) | exact goes_none.mpr (by omega))
      all_goals first
          | (exfalso; omega)
          | (refine goes_inr.mpr ?_; simp only [Bool.false_eq_true, if_false, if_true, true_and, false_and] <;> first | rfl | (rw [if_pos (by omega)]) | (rw [if_neg (by omega)]) | ((repeat' split) <;> first | rfl | (exfalso; omega)))
  · have h5 : S.cseE (S.cyE cn nq (fun j => tq (j + aq)) rp fl) (S.setE nl (fun j => tl (j + al))) ≠ 0 := fun h => h67 (cse_0.mp h)
    show Goes _ _ (if (S.behS (S.cyE cn nq (fun j => tq (j + aq)) rp fl) nq (fun j => tq (j + aq)) rp fl nl (fun j => tl (j + al))).2.2.2.2 = 0 then _ else (0, (S.behS (S.cyE cn nq (fun j => tq (j + aq)) rp fl) nq (fun j => tq (j + aq)) rp fl nl (fun j => tl (j + al))).2.2.2.2))
    rw [if_neg (by rw [he]; exact h5), he]
    refine goes_no (decide_eq_false h67) ?_
    refine goes_ok (decide_eq_true ⟨⟨⟨hp1, hp2⟩, hp3, hp4⟩, h67⟩) ?_
    exact goes_ok (by simpa using h5) (goes_inr.mpr rfl)
theorem k127_ok  : k127.ok Try.prog := by
  intro x hx
  obtain ⟨⟨cn, ⟨aq, nq, mq, tq, _⟩, rp, fl, _⟩, ⟨al, nl, ml, tl, _⟩, _⟩ := x
  obtain ⟨h1, h2⟩ := a127 cn aq nq mq tq rp fl al nl ml tl (s127 cn aq nq mq tq rp fl al nl ml tl (of_dec hx rfl))
  exact ⟨⟨400, (by decide : 2 + 1 + 0 ≤ 400), h1⟩, h2⟩
namespace S
def bytes (n : Nat) (t : Nat → Int) : Bool := decide (∀ j, j < n → 0 ≤ t j ∧ t j ≤ 255)
end S
theorem bytes_mk  {n : Nat} {t : Nat → Int} (h : ∀ j, j < n → 0 ≤ t j ∧ t j ≤ 255) : S.bytes n t = true := decide_eq_true h
namespace S
def crN (t : Nat → Int) : Nat → List Int
  | 0 => []
  | i + 1 => if (crN t i).length = 0 then snoc (crN t i) (Int.tmod (t i) 20) else if at' (crN t i) ((crN t i).length - 1) ≠ Int.tmod (t i) 20 then snoc (crN t i) (Int.tmod (t i) 20) else crN t i
def crP (L : List Int) : List Int := if L.length = 0 then [20, 21] else if L.length = 1 then snoc L 21 else L
def crL (n : Nat) (t : Nat → Int) : List Int := crP (crN t (min n 8))
def crF (fi : Int) (L : List Int) : Int := if Int.tmod fi 20 = at' L (L.length - 1) then Int.tmod fi 20 + 1 else Int.tmod fi 20
def good (L : List Int) (m : Int) : Prop := ∀ j, j < L.length → (0 ≤ at' L j ∧ at' L j < m) ∧ (0 < j → at' L j ≠ at' L (j - 1))
end S
theorem good_snoc  {L : List Int} {m x : Int} (h : S.good L m) (hx : 0 ≤ x ∧ x < m) (hn : 0 < L.length → S.at' L (L.length - 1) ≠ x) : S.good (S.snoc L x) m := by
  intro j hj
  rw [snoc_len] at hj
  rcases Nat.lt_or_eq_of_le (Nat.le_of_lt_succ hj) with h1 | h1
  · rw [at_snoc_lt h1, at_snoc_lt (show j - 1 < L.length by omega)]
    exact h j h1
  · subst h1
    rw [at_snoc_eq]
    refine ⟨hx, fun h0 => ?_⟩
    rw [at_snoc_lt (by omega)]
    exact (hn h0).symm
theorem crN_ok  {t : Nat → Int} : ∀ {i : Nat}, (∀ j, j < i → 0 ≤ t j) → S.good (S.crN t i) 20 ∧ (S.crN t i).length ≤ i
  | 0, _ => ⟨fun j hj => absurd hj (Nat.not_lt_zero j), Nat.le_refl _⟩
  | i + 1, h => by
    obtain ⟨h1, h2⟩ := crN_ok (i := i) fun j hj => h j (by omega)
    have hx : 0 ≤ Int.tmod (t i) 20 ∧ Int.tmod (t i) 20 < 20 := ⟨Int.tmod_nonneg _ (h i (by omega)), Int.tmod_lt_of_pos _ (by decide)⟩
    simp only [S.crN]
    split
    · exact ⟨good_snoc h1 hx (fun h0 => by omega), by rw [snoc_len]; omega⟩
    · split
      · rename_i h3
        exact ⟨good_snoc h1 hx (fun h0 => h3), by rw [snoc_len]; omega⟩
      · exact ⟨h1, by omega⟩
theorem good_le  {L : List Int} {m m' : Int} (h : S.good L m) (hm : m ≤ m') : S.good L m' := fun j hj => by
  have := h j hj
  exact ⟨by omega, this.2⟩
theorem crL_ok  {n : Nat} {t : Nat → Int} (h : S.bytes n t = true) : S.good (S.crL n t) 22 ∧ 2 ≤ (S.crL n t).length ∧ (S.crL n t).length ≤ 8 := by
  have h0 := of_decide_eq_true h
  obtain ⟨h1, h2⟩ := crN_ok (t := t) (i := min n 8) fun j hj => (h0 j (by omega)).1
  unfold S.crL S.crP
  split
  · refine ⟨fun j hj => ?_, Nat.le_refl _, by decide⟩
    have hj : j < 2 := hj
    rcases Nat.lt_or_eq_of_le (Nat.le_of_lt_succ hj) with h3 | h3
    · rw [show j = 0 by omega]; exact ⟨by decide, fun h => absurd h (Nat.lt_irrefl 0)⟩
    · subst h3; exact ⟨by decide, fun _ => by decide⟩
  · split
    · rename_i h3 h4
      refine ⟨good_snoc (good_le h1 (by decide)) (by decide) (fun h5 => ?_), by rw [snoc_len]; omega, by rw [snoc_len]; omega⟩
      have := (h1 _ (show (S.crN t (min n 8)).length - 1 < _ by omega)).1
      omega
    · exact ⟨good_le h1 (by decide), by omega, by omega⟩
theorem name_c  : S.isNam (ByteArray.mk #[99]) = true := by decide +kernel
theorem crF_ok  {fi : Int} {L : List Int} (h : 0 ≤ fi) : (0 ≤ S.crF fi L ∧ S.crF fi L ≤ 20) ∧ S.crF fi L ≠ S.at' L (L.length - 1) := by
  have hx : 0 ≤ Int.tmod fi 20 ∧ Int.tmod fi 20 < 20 := ⟨Int.tmod_nonneg _ h, Int.tmod_lt_of_pos _ (by decide)⟩
  unfold S.crF
  split <;> omega
theorem curE_yes  {e : Int} {t : Nat → Int} : ∀ {k i : Nat}, (∀ j, i ≤ j → j < i + k → (-1099511627776 ≤ t j ∧ t j ≤ 1099511627776) ∧ (0 < j → t j ≠ t (j - 1))) → S.curE e t i k = e
  | 0, _, _ => rfl
  | k + 1, i, h => by
    obtain ⟨h1, h2⟩ := h i (Nat.le_refl _) (by omega)
    simp only [S.curE]
    rw [if_pos h1, if_neg (fun h3 => h2 h3.1 h3.2)]
    exact curE_yes fun j a c => h j (by omega) (by omega)
theorem draft_ok  {L : List Int} {rp fl : Int} (h1 : S.good L 22) (h2 : 2 ≤ L.length ∧ L.length ≤ 8) (h3 : 1 ≤ rp ∧ rp ≤ 3) (h4 : (0 ≤ fl ∧ fl ≤ 20) ∧ fl ≠ S.at' L (L.length - 1)) : S.cyE (ByteArray.mk #[99]) L.length (fun j => S.at' L j) rp fl = 0 := by
  unfold S.cyE
  rw [if_pos name_c, if_neg (by omega), if_neg (by omega), curE_yes fun j _ hj => ?_, if_pos (by omega), if_neg h4.2]
  have := h1 j (by omega)
  exact ⟨by omega, this.2⟩
inductive St132 where
  | h0 (x0 : Int) (x1 : List Int)
  | h1 (x0 : List Int)
abbrev Rt132  := Int × List Int
noncomputable def V132 (al nl ml : Nat) (tl : NI) (rp fi : Int) (r : Rt132) : PV := PV.agg [PV.str (ByteArray.mk #[(99 : UInt8)]), PV.own (2) (1) (List.length r.2), PV.int .i64 ((1 : Int) + Int.tmod rp (3 : Int)), PV.int .i64 r.1]
noncomputable def N132 (al nl ml : Nat) (tl : NI) (rp fi : Int) (r : Rt132) : List Blk := [Blk.cols (List.length r.2) [Col.int .i64 fun j => S.at' r.2 j]]
noncomputable def I132 (al nl ml : Nat) (tl : NI) (rp fi : Int) : St132 → Hd
  | .h0 x0 x1 => ⟨hd Try.f32 0, [PV.ptr (PA.mk (1) (0) (0) (0)),
 PV.ptr (PA.mk (2) (0) (0) (0)),
 PV.ptr (PA.mk (3) (0) (0) (0)), PV.int .i64 x0], [[(1, (true, Blk.cells
 [PV.loose (PA.mk (0) (1) al (0)) nl, PV.int .u8 rp,
 PV.int .u8 fi])), (2, (true, Blk.cells
 [PV.str (ByteArray.mk (Array.mk [])), PV.nils, PV.int .i64 (0 : Int),
 PV.int .i64 (0 : Int)])), (3, (true, Blk.cells
 [PV.str (ByteArray.mk #[(99 : UInt8)]), PV.own (4) (1) (List.length x1),
 PV.int .i64 ((1 : Int) + Int.tmod rp (3 : Int)), PV.int .i64 (0 : Int)])), (4, (true, Blk.cols (List.length x1) [Col.int .i64 fun j => S.at' x1 j]))], [(0, (false, .cols ml [.int .u8 tl]))]], 5⟩
  | .h1 x0 => ⟨hd Try.f32 1, [PV.ptr (PA.mk (1) (0) (0) (0)),
 PV.ptr (PA.mk (2) (0) (0) (0)),
 PV.ptr (PA.mk (3) (0) (0) (0)), PV.unk], [[(1, (true, Blk.cells
 [PV.loose (PA.mk (0) (1) al (0)) nl, PV.int .u8 rp,
 PV.int .u8 fi])), (2, (true, Blk.cells
 [PV.str (ByteArray.mk (Array.mk [])), PV.nils, PV.int .i64 (0 : Int),
 PV.int .i64 (0 : Int)])), (3, (true, Blk.cells
 [PV.str (ByteArray.mk #[(99 : UInt8)]), PV.own (4) (1) (List.length x0),
 PV.int .i64 ((1 : Int) + Int.tmod rp (3 : Int)), PV.int .i64 (0 : Int)])), (4, (true, Blk.cols (List.length x0) [Col.int .i64 fun j => S.at' x0 j]))], [(0, (false, .cols ml [.int .u8 tl]))]], 5⟩
noncomputable def q132 (al nl ml : Nat) (tl : NI) (rp fi : Int) : St132 → Option (St132 ⊕ Rt132) | .h0 x0 x1 => bif (decide (x0 < (↑nl : Int))) then (bif (decide (x0 < 8)) then (bif (decide ((0 : Int) ≤ x0 ∧ x0 < (↑nl : Int))) then (bif (decide (Int.toNat x0 + al < ml)) then (bif (lim .i64 (tl (Int.toNat x0 + al))) then (bif ((↑(List.length x1) : Int) == 0) then (bif (decide (List.length x1 + 1 ≤ 1000000)) then (bif (decide (List.length x1 ≤ List.length x1)) then (bif (lim .i64 (x0 + 1)) then (some (.inl (.h0 (x0 + 1) (S.snoc x1 (Int.tmod (tl (Int.toNat x0 + al)) (20 : Int)))))) else (none)) else (none)) else (none)) else (bif (lim .i64 ((↑(List.length x1) : Int) - 1)) then (bif (decide ((0 : Int) ≤ (↑(List.length x1) : Int) - 1 ∧ (↑(List.length x1) : Int) - 1 < (↑(List.length x1) : Int))) then (bif (decide (Int.toNat ((↑(List.length x1) : Int) - 1) < List.length x1)) then (bif (S.at' x1 (Int.toNat ((↑(List.length x1) : Int) - 1)) != Int.tmod (tl (Int.toNat x0 + al)) (20 : Int)) then (bif (decide (List.length x1 + 1 ≤ 1000000)) then (bif (decide (List.length x1 ≤ List.length x1)) then (bif (lim .i64 (x0 + 1)) then (some (.inl (.h0 (x0 + 1) (S.snoc x1 (Int.tmod (tl (Int.toNat x0 + al)) (20 : Int)))))) else (none)) else (none)) else (none)) else (bif (lim .i64 (x0 + 1)) then (some (.inl (.h0 (x0 + 1) (x1)))) else (none))) else (none)) else (none)) else (none))) else (none)) else (none)) else (none)) else (some (.inl (.h1 (x1))))) else (some (.inl (.h1 (x1)))) | .h1 x0 => bif (decide ((↑(List.length x0) : Int) < 2)) then (bif (lim .i64 ((20 : Int) + (↑(List.length x0) : Int))) then (bif (decide (List.length x0 + 1 ≤ 1000000)) then (bif (decide (List.length x0 ≤ List.length x0)) then (some (.inl (.h1 (S.snoc x0 ((20 : Int) + (↑(List.length x0) : Int)))))) else (none)) else (none)) else (none)) else (bif (lim .i64 fi) then (bif (lim .i64 ((↑(List.length x0) : Int) - 1)) then (bif (decide ((0 : Int) ≤ (↑(List.length x0) : Int) - 1 ∧ (↑(List.length x0) : Int) - 1 < (↑(List.length x0) : Int))) then (bif (decide (Int.toNat ((↑(List.length x0) : Int) - 1) < List.length x0)) then (bif (Int.tmod fi (20 : Int) == S.at' x0 (Int.toNat ((↑(List.length x0) : Int) - 1))) then (bif (lim .i64 (Int.tmod fi (20 : Int) + 1)) then (some (.inr (Int.tmod fi (20 : Int) + 1, x0))) else (none)) else (some (.inr (Int.tmod fi (20 : Int), x0)))) else (none)) else (none)) else (none)) else (none))
noncomputable def p132 (al nl ml : Nat) (tl : NI) (rp fi : Int) : Option (St132 ⊕ Rt132) := bif (lim .i64 rp) then (bif (lim .i64 ((1 : Int) + Int.tmod rp (3 : Int))) then (some (.inl (.h0 ((0 : Int)) ([])))) else (none)) else (none)
def Te132 (test : TT) (Kst : KS) (Kret : KR) (al nl ml : Nat) (tl : NI) (rp fi : Int) : Prop := test (lim .i64 rp) (test (false) (False) (test (lim .i64 ((1 : Int) + Int.tmod rp (3 : Int))) (Kst (hd Try.f32 0) ([PV.ptr (PA.mk (1) (0) (0) (0)), PV.ptr (PA.mk (2) (0) (0) (0)), PV.ptr (PA.mk (3) (0) (0) (0)), PV.int .i64 (0 : Int)]) ([[(0, false, Blk.cols ml [Col.int .u8 tl]), (3, true, Blk.cells [PV.str (ByteArray.mk #[(99 : UInt8)]), PV.nils, PV.int .i64 ((1 : Int) + Int.tmod rp (3 : Int)), PV.int .i64 (0 : Int)]), (2, true, Blk.cells [PV.str (ByteArray.mk (Array.mk [])), PV.nils, PV.int .i64 (0 : Int), PV.int .i64 (0 : Int)]), (1, true, Blk.cells [PV.loose (PA.mk (0) (1) al (0)) nl, PV.int .u8 rp, PV.int .u8 fi])]]) (4)) (False))) (False)
theorem te132 (test : TT) (Kst : KS) (Kret : KR) (al nl ml : Nat) (tl : NI) (rp fi : Int) : run test Try.env true noX true 400 ⟨32, [.cd (mkFn Try.f32).body], argT 0 [.agg [.loose ⟨0, 1, al, 0⟩ nl, .int .u8 rp, .int .u8 fi]], [[], [(0, (false, .cols ml [.int .u8 tl]))]], 1⟩ (proj 1 [1, 2, 3, 4] Kst Kret) =
  Te132 test Kst Kret al nl ml tl rp fi := by kernel_rfl
noncomputable abbrev u132_0_0 (al nl ml : Nat) (tl : Nat → Int) (rp fi : Int) (x1 : List Int) := ([[(0, false, Blk.cols ml [Col.int IntKind.u8 tl]), (3, true, Blk.cells [PV.str (ByteArray.mk #[(99 : UInt8)]), PV.own (4) (1) (List.length x1), PV.int IntKind.i64 ((1 : Int) + Int.tmod rp (3 : Int)), PV.int IntKind.i64 (0 : Int)]), (2, true, Blk.cells [PV.str (ByteArray.mk (Array.mk [])), PV.nils, PV.int IntKind.i64 (0 : Int), PV.int IntKind.i64 (0 : Int)]), (1, true, Blk.cells [PV.loose (PA.mk (0) (1) al (0)) nl, PV.int IntKind.u8 rp, PV.int IntKind.u8 fi]), (4, true, Blk.cols (List.length x1) [Col.int IntKind.i64 fun j => S.at' x1 j])]])
noncomputable abbrev u132_0_1 (al nl ml : Nat) (tl : Nat → Int) (rp fi x0 : Int) (x1 : List Int) := ([[(0, false, Blk.cols ml [Col.int IntKind.u8 tl]), (3, true, Blk.cells [PV.str (ByteArray.mk #[(99 : UInt8)]), PV.own (6) (1) (List.length x1 + 1), PV.int IntKind.i64 ((1 : Int) + Int.tmod rp (3 : Int)), PV.int IntKind.i64 (0 : Int)]), (2, true, Blk.cells [PV.str (ByteArray.mk (Array.mk [])), PV.nils, PV.int IntKind.i64 (0 : Int), PV.int IntKind.i64 (0 : Int)]), (1, true, Blk.cells [PV.loose (PA.mk (0) (1) al (0)) nl, PV.int IntKind.u8 rp, PV.int IntKind.u8 fi]), (6, true, Blk.cols (List.length x1 + 1) [Col.int IntKind.i64 fun j => bif Nat.blt j (List.length x1) then S.at' x1 j else Int.tmod (tl (Int.toNat x0 + al)) (20 : Int)])]])
noncomputable abbrev u132_0_2 (x0 : Int) := ([PV.ptr (PA.mk (1) (0) (0) (0)), PV.ptr (PA.mk (2) (0) (0) (0)), PV.ptr (PA.mk (3) (0) (0) (0)), PV.int IntKind.i64 (x0 + (1 : Int))])
def T132_0 (test : TT) (Kst : KS) (Kret : KR) (al nl ml : Nat) (tl : NI) (rp fi x0 : Int) (x1 : List Int) : Prop := test (decide (x0 < (↑nl : Int))) (test (decide (x0 < 8)) (test (decide ((0 : Int) ≤ x0 ∧ x0 < (↑nl : Int))) (test (decide (Int.toNat x0 + al < ml)) (test (lim .i64 (tl (Int.toNat x0 + al))) (test (false) (False) (test ((↑(List.length x1) : Int) == 0) (test (decide (List.length x1 + 1 ≤ 1000000)) (test (decide (List.length x1 ≤ List.length x1)) (test (true) (test (lim .i64 (x0 + 1)) (Kst (hd Try.f32 0) (u132_0_2 x0) (u132_0_1 al nl ml tl rp fi x0 x1) (7)) (False)) (False)) (False)) (False)) (test (lim .i64 ((↑(List.length x1) : Int) - 1)) (test (decide ((0 : Int) ≤ (↑(List.length x1) : Int) - 1 ∧ (↑(List.length x1) : Int) - 1 < (↑(List.length x1) : Int))) (test (decide (Int.toNat ((↑(List.length x1) : Int) - 1) < List.length x1)) (test (S.at' x1 (Int.toNat ((↑(List.length x1) : Int) - 1)) != Int.tmod (tl (Int.toNat x0 + al)) (20 : Int)) (test (decide (List.length x1 + 1 ≤ 1000000)) (test (decide (List.length x1 ≤ List.length x1)) (test (true) (test (lim .i64 (x0 + 1)) (Kst (hd Try.f32 0) (u132_0_2 x0) (u132_0_1 al nl ml tl rp fi x0 x1) (7)) (False)) (False)) (False)) (False)) (test (lim .i64 (x0 + 1)) (Kst (hd Try.f32 0) (u132_0_2 x0) (u132_0_0 al nl ml tl rp fi x1) (5)) (False))) (False)) (False)) (False)))) (False)) (False)) (False)) (Kst (hd Try.f32 1) ([PV.ptr (PA.mk (1) (0) (0) (0)), PV.ptr (PA.mk (2) (0) (0) (0)), PV.ptr (PA.mk (3) (0) (0) (0)), PV.int .i64 x0]) (u132_0_0 al nl ml tl rp fi x1) (5))) (Kst (hd Try.f32 1) ([PV.ptr (PA.mk (1) (0) (0) (0)), PV.ptr (PA.mk (2) (0) (0) (0)), PV.ptr (PA.mk (3) (0) (0) (0)), PV.int .i64 x0]) (u132_0_0 al nl ml tl rp fi x1) (5))
theorem t132_0 (test : TT) (Kst : KS) (Kret : KR) (al nl ml : Nat) (tl : NI) (rp fi x0 : Int) (x1 : List Int) : run test Try.env true noX true 400 ⟨32, hd Try.f32 0, zipT [1, 2, 3, 4] [PV.ptr (PA.mk (1) (0) (0) (0)),
 PV.ptr (PA.mk (2) (0) (0) (0)),
 PV.ptr (PA.mk (3) (0) (0) (0)), PV.int .i64 x0], [[(1, (true, Blk.cells
 [PV.loose (PA.mk (0) (1) al (0)) nl, PV.int .u8 rp,
 PV.int .u8 fi])), (2, (true, Blk.cells
 [PV.str (ByteArray.mk (Array.mk [])), PV.nils, PV.int .i64 (0 : Int),
 PV.int .i64 (0 : Int)])), (3, (true, Blk.cells
 [PV.str (ByteArray.mk #[(99 : UInt8)]), PV.own (4) (1) (List.length x1),
 PV.int .i64 ((1 : Int) + Int.tmod rp (3 : Int)), PV.int .i64 (0 : Int)])), (4, (true, Blk.cols (List.length x1) [Col.int .i64 fun j => S.at' x1 j]))], [(0, (false, .cols ml [.int .u8 tl]))]], 5⟩ (proj 1 [1, 2, 3, 4] Kst Kret) =
  T132_0 test Kst Kret al nl ml tl rp fi x0 x1 := by kernel_rfl
def T132_1 (test : TT) (Kst : KS) (Kret : KR) (al nl ml : Nat) (tl : NI) (rp fi : Int) (x0 : List Int) : Prop := test (decide ((↑(List.length x0) : Int) < 2)) (test (lim .i64 ((20 : Int) + (↑(List.length x0) : Int))) (test (decide (List.length x0 + 1 ≤ 1000000)) (test (decide (List.length x0 ≤ List.length x0)) (test (true) (Kst (hd Try.f32 1) ([PV.ptr (PA.mk (1) (0) (0) (0)), PV.ptr (PA.mk (2) (0) (0) (0)), PV.ptr (PA.mk (3) (0) (0) (0)), PV.unk]) ([[(0, false, Blk.cols ml [Col.int .u8 tl]), (3, true, Blk.cells [PV.str (ByteArray.mk #[(99 : UInt8)]), PV.own (6) (1) (List.length x0 + 1), PV.int .i64 ((1 : Int) + Int.tmod rp (3 : Int)), PV.int .i64 (0 : Int)]), (2, true, Blk.cells [PV.str (ByteArray.mk (Array.mk [])), PV.nils, PV.int .i64 (0 : Int), PV.int .i64 (0 : Int)]), (1, true, Blk.cells [PV.loose (PA.mk (0) (1) al (0)) nl, PV.int .u8 rp, PV.int .u8 fi]), (6, true, Blk.cols (List.length x0 + 1) [Col.int .i64 fun j => bif Nat.blt j (List.length x0) then S.at' x0 j else (20 : Int) + (↑(List.length x0) : Int)])]]) (7)) (False)) (False)) (False)) (False)) (test (lim .i64 fi) (test (false) (False) (test (lim .i64 ((↑(List.length x0) : Int) - 1)) (test (decide ((0 : Int) ≤ (↑(List.length x0) : Int) - 1 ∧ (↑(List.length x0) : Int) - 1 < (↑(List.length x0) : Int))) (test (decide (Int.toNat ((↑(List.length x0) : Int) - 1) < List.length x0)) (test (Int.tmod fi (20 : Int) == S.at' x0 (Int.toNat ((↑(List.length x0) : Int) - 1))) (test (lim .i64 (Int.tmod fi (20 : Int) + 1)) (Kret (PV.agg [PV.str (ByteArray.mk #[(99 : UInt8)]), PV.own (4) (1) (List.length x0), PV.int .i64 ((1 : Int) + Int.tmod rp (3 : Int)), PV.int .i64 (Int.tmod fi (20 : Int) + 1)]) ([[(0, false, Blk.cols ml [Col.int .u8 tl]), (4, true, Blk.cols (List.length x0) [Col.int .i64 fun j => S.at' x0 j])]]) (5)) (False)) (Kret (PV.agg [PV.str (ByteArray.mk #[(99 : UInt8)]), PV.own (4) (1) (List.length x0), PV.int .i64 ((1 : Int) + Int.tmod rp (3 : Int)), PV.int .i64 (Int.tmod fi (20 : Int))]) ([[(0, false, Blk.cols ml [Col.int .u8 tl]), (4, true, Blk.cols (List.length x0) [Col.int .i64 fun j => S.at' x0 j])]]) (5))) (False)) (False)) (False))) (False))
theorem t132_1 (test : TT) (Kst : KS) (Kret : KR) (al nl ml : Nat) (tl : NI) (rp fi : Int) (x0 : List Int) : run test Try.env true noX true 400 ⟨32, hd Try.f32 1, zipT [1, 2, 3, 4] [PV.ptr (PA.mk (1) (0) (0) (0)),
 PV.ptr (PA.mk (2) (0) (0) (0)),
 PV.ptr (PA.mk (3) (0) (0) (0)), PV.unk], [[(1, (true, Blk.cells
 [PV.loose (PA.mk (0) (1) al (0)) nl, PV.int .u8 rp,
 PV.int .u8 fi])), (2, (true, Blk.cells
 [PV.str (ByteArray.mk (Array.mk [])), PV.nils, PV.int .i64 (0 : Int),
 PV.int .i64 (0 : Int)])), (3, (true, Blk.cells
 [PV.str (ByteArray.mk #[(99 : UInt8)]), PV.own (4) (1) (List.length x0),
 PV.int .i64 ((1 : Int) + Int.tmod rp (3 : Int)), PV.int .i64 (0 : Int)])), (4, (true, Blk.cols (List.length x0) [Col.int .i64 fun j => S.at' x0 j]))], [(0, (false, .cols ml [.int .u8 tl]))]], 5⟩ (proj 1 [1, 2, 3, 4] Kst Kret) =
  T132_1 test Kst Kret al nl ml tl rp fi x0 := by kernel_rfl
noncomputable abbrev J132 (al nl ml : Nat) (tl : NI) (rp : Int) (fi : Int) : Rt132 → Heap := fun r => [newL (1 + 1) ((N132 al nl ml tl rp fi) r) ++ [(0, (false, .cols ml [.int .u8 tl]))]]
attribute [local irreducible] Int.subNatNat in
theorem be132 (al nl ml : Nat) (tl : NI) (rp fi : Int) (Kst : KS) (Kret : KR) (x : St132 ⊕ Rt132) (hS : HS 1 400 ((I132 al nl ml tl rp fi)) Kst x) (hR : HR 1 400 ((V132 al nl ml tl rp fi)) (J132 al nl ml tl rp fi) Kret x) (h : p132 al nl ml tl rp fi = some x) : Te132 cond Kst Kret al nl ml tl rp fi := by
  unfold Te132
  unfold p132 at h
  exact bif_split h (fun c0 h => cond_no rfl (bif_split h (fun c1 h => stop_at hS _ h (fun n => bif Nat.beq n 1 then 1 else bif Nat.beq n 2 then 2 else bif Nat.beq n 3 then 3 else bif Nat.beq n 4 then 399 else n) rfl rfl rfl ⟨(rn_ptr (use_own rfl) rfl rfl), ⟨(rn_ptr (use_own rfl) rfl rfl), ⟨(rn_ptr (use_own rfl) rfl rfl), ⟨(rn_int rfl), trivial⟩⟩⟩⟩ rfl (entl_b (use_own rfl) rfl (by simp) (rb_cells ⟨(rn_loose (use_lo rfl) rfl rfl rfl), (rn_int rfl), (rn_int rfl), trivial⟩) (entl_b (use_own rfl) rfl (by simp) (rb_cells ⟨(rn_str rfl), rn_nils, (rn_int rfl), (rn_int rfl), trivial⟩) (entl_b (use_own rfl) rfl (by simp) (rb_cells ⟨(rn_str rfl), (rn_own_nils rfl), (rn_int rfl), (rn_int rfl), trivial⟩) (entl_fresh (use_own rfl) (fresh_ok rfl) (entl_bor (use_lo rfl) rfl rfl entl_nil)))))) (fun c1 h => no_some h))) (fun c0 h => no_some h)
attribute [local irreducible] Int.subNatNat in
theorem b132_0 (al nl ml : Nat) (tl : NI) (rp fi : Int) (Kst : KS) (Kret : KR) (x : St132 ⊕ Rt132) (hS : HS 1 400 ((I132 al nl ml tl rp fi)) Kst x) (hR : HR 1 400 ((V132 al nl ml tl rp fi)) (J132 al nl ml tl rp fi) Kret x) (x0 : Int) (x1 : List Int) (h : q132 al nl ml tl rp fi (.h0 x0 x1) = some x) : T132_0 cond Kst Kret al nl ml tl rp fi x0 x1 := by
  unfold T132_0
  rw [q132] at h
  refine bif_split h (fun c0 h => bif_split h (fun c1 h => bif_split h (fun c2 h => bif_split h (fun c3 h => bif_split h (fun c4 h => cond_no rfl (bif_split h (fun c5 h => bif_split h (fun c6 h => bif_split h (fun c7 h => cond_yes rfl (bif_split h (fun c8 h => ?_) (fun c8 h => ?_))) (fun c7 h => ?_)) (fun c6 h => ?_)) (fun c5 h => bif_split h (fun c6 h => bif_split h (fun c7 h => bif_split h (fun c8 h => bif_split h (fun c9 h => bif_split h (fun c10 h => bif_split h (fun c11 h => cond_yes rfl (bif_split h (fun c12 h => ?_) (fun c12 h => ?_))) (fun c11 h => ?_)) (fun c10 h => ?_)) (fun c9 h => bif_split h (fun c10 h => stop_at hS _ h (fun n => bif Nat.beq n 1 then 1 else bif Nat.beq n 2 then 2 else bif Nat.beq n 3 then 3 else bif Nat.beq n 4 then 4 else n) rfl rfl rfl ⟨(rn_ptr (use_own rfl) rfl rfl), ⟨(rn_ptr (use_own rfl) rfl rfl), ⟨(rn_ptr (use_own rfl) rfl rfl), ⟨(rn_int rfl), trivial⟩⟩⟩⟩ rfl (entl_b (use_own rfl) rfl (by simp) (rb_cells ⟨(rn_loose (use_lo rfl) rfl rfl rfl), (rn_int rfl), (rn_int rfl), trivial⟩) (entl_b (use_own rfl) rfl (by simp) (rb_cells ⟨(rn_str rfl), rn_nils, (rn_int rfl), (rn_int rfl), trivial⟩) (entl_b (use_own rfl) rfl (by simp) (rb_cells ⟨(rn_str rfl), (rn_own (use_own rfl) rfl rfl), (rn_int rfl), (rn_int rfl), trivial⟩) (entl_new (use_own rfl) rfl (Nat.le_of_eq rfl) (rcs_int (fun _ _ => rfl) rcs_nil) (entl_bor (use_lo rfl) rfl rfl entl_nil)))))) (fun c10 h => ?_))) (fun c8 h => ?_)) (fun c7 h => ?_)) (fun c6 h => ?_)))) (fun c4 h => ?_)) (fun c3 h => ?_)) (fun c2 h => ?_)) (fun c1 h => ?_)) (fun c0 h => ?_)
  all_goals first
    | exact no_some h
    | exact stop_at hS _ h (fun n => bif Nat.beq n 1 then 1 else bif Nat.beq n 2 then 2 else bif Nat.beq n 3 then 3 else bif Nat.beq n 4 then 6 else n) rfl rfl rfl ⟨(rn_ptr (use_own rfl) rfl rfl), ⟨(rn_ptr (use_own rfl) rfl rfl), ⟨(rn_ptr (use_own rfl) rfl rfl), ⟨(rn_int rfl), trivial⟩⟩⟩⟩ rfl (entl_b (use_own rfl) rfl (by simp) (rb_cells ⟨(rn_loose (use_lo rfl) rfl rfl rfl), (rn_int rfl), (rn_int rfl), trivial⟩) (entl_b (use_own rfl) rfl (by simp) (rb_cells ⟨(rn_str rfl), rn_nils, (rn_int rfl), (rn_int rfl), trivial⟩) (entl_b (use_own rfl) rfl (by simp) (rb_cells ⟨(rn_str rfl), (rn_own (use_own rfl) rfl (snoc_len' rfl)), (rn_int rfl), (rn_int rfl), trivial⟩) (entl_new (use_own rfl) rfl (Nat.le_of_eq (snoc_len' rfl)) (rcs_int (col_snoc' (fun (t : Int) => t) rfl (fun _ _ => rfl)) rcs_nil) (entl_bor (use_lo rfl) rfl rfl entl_nil)))))
    | exact stop_at hS _ h (fun n => bif Nat.beq n 1 then 1 else bif Nat.beq n 2 then 2 else bif Nat.beq n 3 then 3 else bif Nat.beq n 4 then 4 else n) rfl rfl rfl ⟨(rn_ptr (use_own rfl) rfl rfl), ⟨(rn_ptr (use_own rfl) rfl rfl), ⟨(rn_ptr (use_own rfl) rfl rfl), ⟨(rn_unk _), trivial⟩⟩⟩⟩ rfl (entl_b (use_own rfl) rfl (by simp) (rb_cells ⟨(rn_loose (use_lo rfl) rfl rfl rfl), (rn_int rfl), (rn_int rfl), trivial⟩) (entl_b (use_own rfl) rfl (by simp) (rb_cells ⟨(rn_str rfl), rn_nils, (rn_int rfl), (rn_int rfl), trivial⟩) (entl_b (use_own rfl) rfl (by simp) (rb_cells ⟨(rn_str rfl), (rn_own (use_own rfl) rfl rfl), (rn_int rfl), (rn_int rfl), trivial⟩) (entl_new (use_own rfl) rfl (Nat.le_of_eq rfl) (rcs_int (fun _ _ => rfl) rcs_nil) (entl_bor (use_lo rfl) rfl rfl entl_nil)))))
end Go.Ev
