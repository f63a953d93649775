/-
  The parts that the statement needs, 1 of 3.
-/
import Derived.IntWalk
import Derived.Test.YtblnmffeinabcaaEnv
import Derived.Test.YtblnmffeinabcaaEvY
import Derived.Test.YtblnmffeinabcaaKit
namespace Go.Ev
open Go.Proofs
open Go.IntWalk
set_option linter.unusedVariables false
set_option linter.unusedSimpArgs false
set_option maxRecDepth 100000
set_option maxHeartbeats 2000000
noncomputable def k506 : Con := ⟨6, [], fun _ => true, fun _ => .bool true, fun _ => [], fun _ _ => .dead⟩
theorem te506 (Kst : KS) (Kret : KR) : run cond Try.env true noX false 4000 ⟨6, [.cd (mkFn Try.f6).body], [], [[], []], 0⟩ (proj 0 [] Kst Kret) = Kret (.tf true) [[]] 123 := by kernel_rfl
theorem k506_ok : k506.ok Try.prog := awake_ok (fn := mkFn Try.f6) (hi := 124) (n := 4000) Try.envOk Try.mixed noX_ok rfl (by decide) (by decide : Nat.ble 123 124 = true) te506
namespace S
def idx (p : Nat → Bool) : Nat → Nat → Int
  | _, 0 => -1
  | i, k + 1 => if p i = true then i else idx p (i + 1) k
def any (p : Nat → Bool) (n : Nat) : Bool := (List.range n).any p
def maxN (t : Nat → Int) : Nat → Int
  | 0 => t 0
  | n + 1 => max (maxN t n) (t (n + 1))
def minN (t : Nat → Int) : Nat → Int
  | 0 => t 0
  | n + 1 => min (minN t n) (t (n + 1))
end S
theorem any_iff {p : Nat → Bool} {n : Nat} : S.any p n = true ↔ ∃ j, j < n ∧ p j = true := by simp [S.any]
theorem any_no {p : Nat → Bool} {n : Nat} : S.any p n = false ↔ ∀ j, j < n → p j = false := by simp [S.any]
theorem idx_ge {p : Nat → Bool} : ∀ {k i : Nat}, S.idx p i k = -1 ∨ ((i : Int) ≤ S.idx p i k ∧ S.idx p i k < i + k)
  | 0, i => .inl rfl
  | k + 1, i => by
    simp only [S.idx]
    split
    · exact .inr ⟨by omega, by omega⟩
    · rcases idx_ge (p := p) (k := k) (i := i + 1) with h | h
      · exact .inl h
      · exact .inr ⟨by omega, by omega⟩
theorem idx_no {p : Nat → Bool} : ∀ {k i : Nat}, S.idx p i k = -1 ↔ ∀ j, i ≤ j → j < i + k → p j = false
  | 0, i => ⟨fun _ j h1 h2 => by omega, fun _ => rfl⟩
  | k + 1, i => by
    simp only [S.idx]
    split
    · rename_i h
      exact ⟨fun e => by omega, fun e => by rw [e i (Nat.le_refl _) (by omega)] at h; cases h⟩
    · rename_i h
      rw [idx_no]
      constructor
      · intro e j h1 h2
        by_cases hj : j = i
        · subst hj; simpa using h
        · exact e j (by omega) (by omega)
      · exact fun e j h1 h2 => e j (by omega) (by omega)
theorem idx_any {p : Nat → Bool} {n : Nat} : decide (S.idx p 0 n ≥ 0) = S.any p n := by
  rw [Bool.eq_iff_iff, decide_eq_true_eq, any_iff]
  constructor
  · intro h
    by_cases hn : S.idx p 0 n = -1
    · omega
    · rw [idx_no] at hn
      simp only [Classical.not_forall] at hn
      obtain ⟨j, _, h2, h3⟩ := hn
      exact ⟨j, by omega, by simpa using h3⟩
  · rintro ⟨j, h1, h2⟩
    rcases idx_ge (p := p) (k := n) (i := 0) with h | h
    · rw [idx_no] at h
      rw [h j (by omega) (by omega)] at h2; cases h2
    · omega
theorem nbeq_no {i j : Nat} (h : j ≠ i) : Nat.beq j i = false := by
  cases hb : Nat.beq j i
  · rfl
  · exact absurd (Nat.eq_of_beq_eq_true hb) h
theorem upd_step {α : Type} [Inhabited α] {n i : Nat} {f g : Nat → α} {v : α} (hv : v = g i) : (S.mkl n fun j => bif Nat.beq j i then v else S.at' (S.mkl n fun j => if j < i then g j else f j) j) = S.mkl n fun j => if j < i + 1 then g j else f j := by
  refine mkl_congr fun j hj => ?_
  by_cases h : j = i
  · subst h; rw [Nat.beq_refl, cond_true, if_pos (Nat.lt_succ_self _), hv]
  · rw [nbeq_no h, cond_false, at_mkl hj]
    by_cases h2 : j < i
    · rw [if_pos h2, if_pos (by omega)]
    · rw [if_neg h2, if_neg (by omega)]
theorem same_step {α : Type} [Inhabited α] {n i : Nat} {f g : Nat → α} (hv : f i = g i) : (S.mkl n fun j => if j < i then g j else f j) = S.mkl n fun j => if j < i + 1 then g j else f j := by
  refine mkl_congr fun j hj => ?_
  by_cases h : j = i
  · subst h; rw [if_neg (Nat.lt_irrefl _), if_pos (Nat.lt_succ_self _), hv]
  · by_cases h2 : j < i
    · rw [if_pos h2, if_pos (by omega)]
    · rw [if_neg h2, if_neg (by omega)]
theorem upd_none {α : Type} [Inhabited α] {n : Nat} {f g : Nat → α} : S.mkl n f = S.mkl n fun j => if j < 0 then g j else f j := mkl_congr fun j hj => (if_neg (Nat.not_lt_zero j)).symm
namespace S
def runN (p : Nat → Bool) : Nat → Nat → Nat
  | _, 0 => 0
  | i, k + 1 => if p i = true then runN p (i + 1) k + 1 else 0
def lowB (c : Int) : Bool := decide (97 ≤ c ∧ c ≤ 122)
def namB (c : Int) : Bool := decide ((97 ≤ c ∧ c ≤ 122) ∨ (48 ≤ c ∧ c ≤ 57) ∨ c = 95)
def isNam (s : ByteArray) : Bool := decide (1 ≤ s.size ∧ s.size ≤ 20) && (lowB (keys s 0) && decide (runN (fun j => namB (keys s j)) 0 s.size = s.size))
def all (p : Nat → Bool) (n : Nat) : Bool := (List.range n).all p
end S
theorem all_iff {p : Nat → Bool} {n : Nat} : S.all p n = true ↔ ∀ j, j < n → p j = true := by simp [S.all]
theorem all_no {p : Nat → Bool} {n i : Nat} (hi : i < n) (h : p i = false) : ¬ S.all p n = true := fun e => by rw [all_iff.mp e i hi] at h; cases h
theorem runN_le {p : Nat → Bool} : ∀ {k i : Nat}, S.runN p i k ≤ k
  | 0, _ => Nat.le_refl _
  | k + 1, i => by
    simp only [S.runN]
    split
    · have := runN_le (p := p) (k := k) (i := i + 1); omega
    · omega
theorem size_nil {s : ByteArray} : (s.toList == []) = decide (s.size = 0) := by
  rw [ByteArray.toList_eq, Bool.eq_iff_iff, beq_iff_eq, decide_eq_true_eq]
  have : s.size = s.data.toList.length := rfl
  rw [this, List.length_eq_zero_iff]
inductive St157 where
  | h0 (x0 : Int)
abbrev Rt157 := Int
noncomputable def V157 (ws : ByteArray) (fr : Int) (r : Rt157) : PV := PV.int IntKind.i64 r
noncomputable def N157 (ws : ByteArray) (fr : Int) (r : Rt157) : List Blk := []
noncomputable def I157 (ws : ByteArray) (fr : Int) : St157 → Hd
  | .h0 x0 => ⟨hd Try.f43 0, [PV.str ws, PV.int IntKind.i64 fr, PV.fn (Go.Fn.func (44)) [] [],
 PV.int IntKind.i64 x0], [[], []], 0⟩
noncomputable def q157 (ws : ByteArray) (fr : Int) : St157 → Option (St157 ⊕ Rt157)
  | .h0 x0 => bif (lim IntKind.i64 (fr + x0))
 then (bif (decide (fr + x0 < (↑(ByteArray.size ws) : Int)))
 then (bif (decide ((0 : Int) ≤ fr + x0 ∧ fr + x0 < (↑(ByteArray.size ws) : Int)))
 then (bif (decide (keys ws (Int.toNat (fr + x0)) ≥ (97 : Int)))
 then (bif (decide (keys ws (Int.toNat (fr + x0)) ≤ (122 : Int)))
 then (bif (lim IntKind.i64 (x0 + (1 : Int)))
 then (some (.inl (.h0 (x0 + (1 : Int)))))
 else (none))
 else (bif (decide (keys ws (Int.toNat (fr + x0)) ≥ (48 : Int)))
 then (bif (decide (keys ws (Int.toNat (fr + x0)) ≤ (57 : Int)))
 then (bif (lim IntKind.i64 (x0 + (1 : Int)))
 then (some (.inl (.h0 (x0 + (1 : Int)))))
 else (none))
 else (bif (keys ws (Int.toNat (fr + x0)) == (95 : Int))
 then (bif (lim IntKind.i64 (x0 + (1 : Int)))
 then (some (.inl (.h0 (x0 + (1 : Int)))))
 else (none))
 else (some (.inr (x0)))))
 else (bif (keys ws (Int.toNat (fr + x0)) == (95 : Int))
 then (bif (lim IntKind.i64 (x0 + (1 : Int)))
 then (some (.inl (.h0 (x0 + (1 : Int)))))
 else (none))
 else (some (.inr (x0))))))
 else (bif (decide (keys ws (Int.toNat (fr + x0)) ≥ (48 : Int)))
 then (bif (decide (keys ws (Int.toNat (fr + x0)) ≤ (57 : Int)))
 then (bif (lim IntKind.i64 (x0 + (1 : Int)))
 then (some (.inl (.h0 (x0 + (1 : Int)))))
 else (none))
 else (bif (keys ws (Int.toNat (fr + x0)) == (95 : Int))
 then (bif (lim IntKind.i64 (x0 + (1 : Int)))
 then (some (.inl (.h0 (x0 + (1 : Int)))))
 else (none))
 else (some (.inr (x0)))))
 else (bif (keys ws (Int.toNat (fr + x0)) == (95 : Int))
 then (bif (lim IntKind.i64 (x0 + (1 : Int)))
 then (some (.inl (.h0 (x0 + (1 : Int)))))
 else (none))
 else (some (.inr (x0))))))
 else (none))
 else (some (.inr (x0))))
 else (none)
noncomputable def p157 (ws : ByteArray) (fr : Int) : Option (St157 ⊕ Rt157) := some (.inl (.h0 ((0 : Int))))
noncomputable def Te157 (test : Bool → Prop → Prop → Prop) (Kst : KS) (Kret : KR) (ws : ByteArray) (fr : Int) : Prop :=
  Kst (hd Try.f43 0) ([PV.str ws, PV.int IntKind.i64 fr, PV.fn (Go.Fn.func (44)) [] [],
 PV.int IntKind.i64 (0 : Int)]) ([[]]) (0)
theorem te157 (test : Bool → Prop → Prop → Prop) (Kst : KS) (Kret : KR) (ws : ByteArray) (fr : Int) : run test Try.env true noX true 400 ⟨43, [.cd (mkFn Try.f43).body], argT 0 [.str ws, .int .i64 fr, .fn (.func 44) [] []], [[], []], 0⟩ (proj 0 [0, 1, 2, 7] Kst Kret) =
  Te157 test Kst Kret ws fr := by kernel_rfl
noncomputable def T157_0 (test : Bool → Prop → Prop → Prop) (Kst : KS) (Kret : KR) (ws : ByteArray) (fr : Int) (x0 : Int) : Prop :=
  test (lim IntKind.i64 (fr + x0))
 (test (decide (fr + x0 < (↑(ByteArray.size ws) : Int)))
 (test (lim IntKind.i64 (fr + x0))
 (test (decide ((0 : Int) ≤ fr + x0 ∧ fr + x0 < (↑(ByteArray.size ws) : Int)))
 (test (decide (keys ws (Int.toNat (fr + x0)) ≥ (97 : Int)))
 (test (decide (keys ws (Int.toNat (fr + x0)) ≤ (122 : Int)))
 (test (lim IntKind.i64 (x0 + (1 : Int)))
 (Kst (hd Try.f43 0) ([PV.str ws, PV.int IntKind.i64 fr, PV.fn (Go.Fn.func (44)) [] [],
 PV.int IntKind.i64 (x0 + (1 : Int))]) ([[]]) (0))
 (False))
 (test (decide (keys ws (Int.toNat (fr + x0)) ≥ (48 : Int)))
 (test (decide (keys ws (Int.toNat (fr + x0)) ≤ (57 : Int)))
 (test (lim IntKind.i64 (x0 + (1 : Int)))
 (Kst (hd Try.f43 0) ([PV.str ws, PV.int IntKind.i64 fr, PV.fn (Go.Fn.func (44)) [] [],
 PV.int IntKind.i64 (x0 + (1 : Int))]) ([[]]) (0))
 (False))
 (test (keys ws (Int.toNat (fr + x0)) == (95 : Int))
 (test (lim IntKind.i64 (x0 + (1 : Int)))
 (Kst (hd Try.f43 0) ([PV.str ws, PV.int IntKind.i64 fr, PV.fn (Go.Fn.func (44)) [] [],
 PV.int IntKind.i64 (x0 + (1 : Int))]) ([[]]) (0))
 (False))
 (Kret (PV.int IntKind.i64 x0) ([[]]) (0))))
 (test (keys ws (Int.toNat (fr + x0)) == (95 : Int))
 (test (lim IntKind.i64 (x0 + (1 : Int)))
 (Kst (hd Try.f43 0) ([PV.str ws, PV.int IntKind.i64 fr, PV.fn (Go.Fn.func (44)) [] [],
 PV.int IntKind.i64 (x0 + (1 : Int))]) ([[]]) (0))
 (False))
 (Kret (PV.int IntKind.i64 x0) ([[]]) (0)))))
 (test (decide (keys ws (Int.toNat (fr + x0)) ≥ (48 : Int)))
 (test (decide (keys ws (Int.toNat (fr + x0)) ≤ (57 : Int)))
 (test (lim IntKind.i64 (x0 + (1 : Int)))
 (Kst (hd Try.f43 0) ([PV.str ws, PV.int IntKind.i64 fr, PV.fn (Go.Fn.func (44)) [] [],
 PV.int IntKind.i64 (x0 + (1 : Int))]) ([[]]) (0))
 (False))
 (test (keys ws (Int.toNat (fr + x0)) == (95 : Int))
 (test (lim IntKind.i64 (x0 + (1 : Int)))
 (Kst (hd Try.f43 0) ([PV.str ws, PV.int IntKind.i64 fr, PV.fn (Go.Fn.func (44)) [] [],
 PV.int IntKind.i64 (x0 + (1 : Int))]) ([[]]) (0))
 (False))
 (Kret (PV.int IntKind.i64 x0) ([[]]) (0))))
 (test (keys ws (Int.toNat (fr + x0)) == (95 : Int))
 (test (lim IntKind.i64 (x0 + (1 : Int)))
 (Kst (hd Try.f43 0) ([PV.str ws, PV.int IntKind.i64 fr, PV.fn (Go.Fn.func (44)) [] [],
 PV.int IntKind.i64 (x0 + (1 : Int))]) ([[]]) (0))
 (False))
 (Kret (PV.int IntKind.i64 x0) ([[]]) (0)))))
 (False))
 (False))
 (Kret (PV.int IntKind.i64 x0) ([[]]) (0)))
 (False)
theorem t157_0 (test : Bool → Prop → Prop → Prop) (Kst : KS) (Kret : KR) (ws : ByteArray) (fr : Int) (x0 : Int) : run test Try.env true noX true 400 ⟨43, hd Try.f43 0, zipT [0, 1, 2, 7] [PV.str ws, PV.int IntKind.i64 fr, PV.fn (Go.Fn.func (44)) [] [],
 PV.int IntKind.i64 x0], [[], []], 0⟩ (proj 0 [0, 1, 2, 7] Kst Kret) =
  T157_0 test Kst Kret ws fr x0 := by kernel_rfl
theorem be157 (ws : ByteArray) (fr : Int) (Kst : KS) (Kret : KR) (x : St157 ⊕ Rt157) (hS : HS 0 400 ((I157 ws fr)) Kst x) (hR : HR 0 400 ((V157 ws fr)) (fun r => [newL (0 + 1) ((N157 ws fr) r) ++ []]) Kret x) (h : (some (.inl (.h0 ((0 : Int)))) : Option (St157 ⊕ Rt157)) = some x) : Te157 cond Kst Kret ws fr := by
  unfold Te157
  exact stop_at hS _ h (fun n => n) rfl rfl rfl ⟨(rn_str rfl), ⟨(rn_int rfl), ⟨(rn_fn trivial trivial), ⟨(rn_int rfl), trivial⟩⟩⟩⟩ rfl entl_nil
theorem b157_0 (ws : ByteArray) (fr : Int) (Kst : KS) (Kret : KR) (x : St157 ⊕ Rt157) (hS : HS 0 400 ((I157 ws fr)) Kst x) (hR : HR 0 400 ((V157 ws fr)) (fun r => [newL (0 + 1) ((N157 ws fr) r) ++ []]) Kret x) (x0 : Int) (h : (bif (lim IntKind.i64 (fr + x0))
 then (bif (decide (fr + x0 < (↑(ByteArray.size ws) : Int)))
 then (bif (decide ((0 : Int) ≤ fr + x0 ∧ fr + x0 < (↑(ByteArray.size ws) : Int)))
 then (bif (decide (keys ws (Int.toNat (fr + x0)) ≥ (97 : Int)))
 then (bif (decide (keys ws (Int.toNat (fr + x0)) ≤ (122 : Int)))
 then (bif (lim IntKind.i64 (x0 + (1 : Int)))
 then (some (.inl (.h0 (x0 + (1 : Int)))))
 else (none))
 else (bif (decide (keys ws (Int.toNat (fr + x0)) ≥ (48 : Int)))
 then (bif (decide (keys ws (Int.toNat (fr + x0)) ≤ (57 : Int)))
 then (bif (lim IntKind.i64 (x0 + (1 : Int)))
 then (some (.inl (.h0 (x0 + (1 : Int)))))
 else (none))
 else (bif (keys ws (Int.toNat (fr + x0)) == (95 : Int))
 then (bif (lim IntKind.i64 (x0 + (1 : Int)))
 then (some (.inl (.h0 (x0 + (1 : Int)))))
 else (none))
 else (some (.inr (x0)))))
 else (bif (keys ws (Int.toNat (fr + x0)) == (95 : Int))
 then (bif (lim IntKind.i64 (x0 + (1 : Int)))
 then (some (.inl (.h0 (x0 + (1 : Int)))))
 else (none))
 else (some (.inr (x0))))))
 else (bif (decide (keys ws (Int.toNat (fr + x0)) ≥ (48 : Int)))
 then (bif (decide (keys ws (Int.toNat (fr + x0)) ≤ (57 : Int)))
 then (bif (lim IntKind.i64 (x0 + (1 : Int)))
 then (some (.inl (.h0 (x0 + (1 : Int)))))
 else (none))
 else (bif (keys ws (Int.toNat (fr + x0)) == (95 : Int))
 then (bif (lim IntKind.i64 (x0 + (1 : Int)))
 then (some (.inl (.h0 (x0 + (1 : Int)))))
 else (none))
 else (some (.inr (x0)))))
 else (bif (keys ws (Int.toNat (fr + x0)) == (95 : Int))
 then (bif (lim IntKind.i64 (x0 + (1 : Int)))
 then (some (.inl (.h0 (x0 + (1 : Int)))))
 else (none))
 else (some (.inr (x0))))))
 else (none))
 else (some (.inr (x0))))
 else (none) : Option (St157 ⊕ Rt157)) = some x) : T157_0 cond Kst Kret ws fr x0 := by
  unfold T157_0
  exact bif_split h
   (fun c0 h => bif_split h
   (fun c1 h => cond_yes c0 (bif_split h
   (fun c2 h => bif_split h
   (fun c3 h => bif_split h
   (fun c4 h => bif_split h
   (fun c5 h => stop_at hS _ h (fun n => n) rfl rfl rfl ⟨(rn_str rfl), ⟨(rn_int rfl), ⟨(rn_fn trivial trivial), ⟨(rn_int rfl), trivial⟩⟩⟩⟩ rfl entl_nil)
   (fun c5 h => no_some h))
   (fun c4 h => bif_split h
   (fun c5 h => bif_split h
   (fun c6 h => bif_split h
   (fun c7 h => stop_at hS _ h (fun n => n) rfl rfl rfl ⟨(rn_str rfl), ⟨(rn_int rfl), ⟨(rn_fn trivial trivial), ⟨(rn_int rfl), trivial⟩⟩⟩⟩ rfl entl_nil)
   (fun c7 h => no_some h))
   (fun c6 h => bif_split h
   (fun c7 h => bif_split h
   (fun c8 h => stop_at hS _ h (fun n => n) rfl rfl rfl ⟨(rn_str rfl), ⟨(rn_int rfl), ⟨(rn_fn trivial trivial), ⟨(rn_int rfl), trivial⟩⟩⟩⟩ rfl entl_nil)
   (fun c8 h => no_some h))
   (fun c7 h => ret_at hR _ h (fun n => n) rfl rfl rfl (rn_int rfl) rfl entl_nil)))
   (fun c5 h => bif_split h
   (fun c6 h => bif_split h
   (fun c7 h => stop_at hS _ h (fun n => n) rfl rfl rfl ⟨(rn_str rfl), ⟨(rn_int rfl), ⟨(rn_fn trivial trivial), ⟨(rn_int rfl), trivial⟩⟩⟩⟩ rfl entl_nil)
   (fun c7 h => no_some h))
   (fun c6 h => ret_at hR _ h (fun n => n) rfl rfl rfl (rn_int rfl) rfl entl_nil))))
   (fun c3 h => bif_split h
   (fun c4 h => bif_split h
   (fun c5 h => bif_split h
   (fun c6 h => stop_at hS _ h (fun n => n) rfl rfl rfl ⟨(rn_str rfl), ⟨(rn_int rfl), ⟨(rn_fn trivial trivial), ⟨(rn_int rfl), trivial⟩⟩⟩⟩ rfl entl_nil)
   (fun c6 h => no_some h))
   (fun c5 h => bif_split h
   (fun c6 h => bif_split h
   (fun c7 h => stop_at hS _ h (fun n => n) rfl rfl rfl ⟨(rn_str rfl), ⟨(rn_int rfl), ⟨(rn_fn trivial trivial), ⟨(rn_int rfl), trivial⟩⟩⟩⟩ rfl entl_nil)
   (fun c7 h => no_some h))
   (fun c6 h => ret_at hR _ h (fun n => n) rfl rfl rfl (rn_int rfl) rfl entl_nil)))
   (fun c4 h => bif_split h
   (fun c5 h => bif_split h
   (fun c6 h => stop_at hS _ h (fun n => n) rfl rfl rfl ⟨(rn_str rfl), ⟨(rn_int rfl), ⟨(rn_fn trivial trivial), ⟨(rn_int rfl), trivial⟩⟩⟩⟩ rfl entl_nil)
   (fun c6 h => no_some h))
   (fun c5 h => ret_at hR _ h (fun n => n) rfl rfl rfl (rn_int rfl) rfl entl_nil))))
   (fun c2 h => no_some h)))
   (fun c1 h => ret_at hR _ h (fun n => n) rfl rfl rfl (rn_int rfl) rfl entl_nil))
   (fun c0 h => no_some h)
theorem a157 (ws : ByteArray) (fr : Int) {r : Rt157} (h : Goes ((q157 ws fr)) ((p157 ws fr)) r) : CallR Try.prog 43 [.str ws, .int .i64 fr, .fn (.func 44) [] []] [[]] 0 ((V157 ws fr) r) ((fun r => [newL (0 + 1) ((N157 ws fr) r) ++ []]) r) 400 ∧ ∃ F, Try.prog.funcs[43]? = some F ∧ F.body.isSome = true ∧ (F.name == "runtime.NumGoroutine") = false := by
  refine dec_calls (f := 43) (lo := 0) (hi := 400) (H := [[]]) (args := [.str ws, .int .i64 fr, .fn (.func 44) [] []]) Try.envOk Try.mixed noX_ok ((I157 ws fr)) ((V157 ws fr)) (fun r => [newL (0 + 1) ((N157 ws fr) r) ++ []]) (fn := mkFn Try.f43) (ts := [0, 1, 2, 7]) (n := 400) rfl (by decide) (by simp) (names_of rfl) ?_ ?_ ?_ h
  · intro s; cases s <;> exact ⟨hd_ok _ _, by simp [I157], names_of rfl, Nat.le_of_ble_eq_true rfl⟩
  · intro Kst Kret x hS hR h
    exact Holds.eq (te157 cond Kst Kret ws fr) (be157 ws fr Kst Kret x hS hR h)
  · intro Kst Kret x hS hR s h
    cases s with
    | h0 x0 => exact Holds.eq (t157_0 cond Kst Kret ws fr x0) (b157_0 ws fr Kst Kret x hS hR x0 h)
noncomputable def k157 : Con := ⟨43, [.one (.plain (.str)), .one (.plain (.int .i64)), .fn 44 []], fun (x : ByteArray × Int × (Unit) × Unit) => (fun (ws : ByteArray) (fr : Int) => decide (ws.size ≤ 1000 ∧ fr = 0)) x.1 x.2.1, fun (x : ByteArray × Int × (Unit) × Unit) => (fun (ws : ByteArray) (fr : Int) => (V157 ws fr) (((S.runN (fun j => S.namB (keys ws j)) 0 ws.size : Nat) : Int))) x.1 x.2.1, fun (x : ByteArray × Int × (Unit) × Unit) => (fun (ws : ByteArray) (fr : Int) => (N157 ws fr) (((S.runN (fun j => S.namB (keys ws j)) 0 ws.size : Nat) : Int))) x.1 x.2.1, fun _ _ => .dead⟩
theorem s157' (ws : ByteArray) (fr : Int) (hp : ws.size ≤ 1000) (hf : fr = 0) : ∀ k i : Nat, i + k = ws.size → Comes (q157 ws fr) (.h0 (i : Int)) (((i + S.runN (fun j => S.namB (keys ws j)) i k : Nat)) : Int) := by
  intro k
  induction k with
  | zero =>
    intro i hi
    apply Comes.of
    show Goes _ _ _
    (first | rw [q157] | unfold q157)
    repeat' first
      | with_reducible refine goes_if (fun h => ?_) (fun h => ?_) <;> (try simp only [lim64, imp_false, decide_eq_true_eq, decide_eq_false_iff_not, Int.toNat_natCast, toNat_pred, toNat_succ, Option.getD_some, Option.getD_none, Bool.not_eq_true', Bool.not_eq_false', Bool.and_eq_true, Bool.or_eq_true, Bool.and_eq_false_iff, Bool.or_eq_false_iff, bne_iff_ne, beq_iff_eq, bne_eq_false_iff_eq, beq_eq_false_iff_ne, ne_eq, not_and, Int.not_le, Int.not_lt, ge_iff_le, gt_iff_lt, Nat.not_lt, Nat.not_le, Bool.not_eq_true, Bool.not_eq_false, Bool.true_eq_false, Bool.false_eq_true, not_false_eq_true, not_true_eq_false] at h)
      | exact goes_none.mpr (by omega)
    all_goals first | (exfalso; omega) | rfl
  | succ k ih =>
    intro i hi
    have ih := ih (i + 1) (by omega)
    have e0 : (0 : Int) + (i : Int) = i := Int.zero_add _
    simp only [S.runN]
    by_cases hc : (fun j => S.namB (keys ws j)) i = true
    · rw [if_pos hc]
      rw [show i + 1 + S.runN (fun j => S.namB (keys ws j)) (i + 1) k = i + (S.runN (fun j => S.namB (keys ws j)) (i + 1) k + 1) by omega] at ih
      simp only [S.namB, decide_eq_true_eq] at hc
      subst hf
      apply Comes.of
      show Goes _ _ _
      (first | rw [q157] | unfold q157)
      repeat' first
        | with_reducible refine goes_if (fun h => ?_) (fun h => ?_) <;> (try simp only [lim64, imp_false, decide_eq_true_eq, decide_eq_false_iff_not, Int.toNat_natCast, toNat_pred, toNat_succ, Option.getD_some, Option.getD_none, Bool.not_eq_true', Bool.not_eq_false', Bool.and_eq_true, Bool.or_eq_true, Bool.and_eq_false_iff, Bool.or_eq_false_iff, bne_iff_ne, beq_iff_eq, bne_eq_false_iff_eq, beq_eq_false_iff_ne, ne_eq, not_and, Int.not_le, Int.not_lt, ge_iff_le, gt_iff_lt, Nat.not_lt, Nat.not_le, Bool.not_eq_true, Bool.not_eq_false, Bool.true_eq_false, Bool.false_eq_true, not_false_eq_true, not_true_eq_false, e0] at h)
        | exact goes_none.mpr (by omega)
      all_goals first | (exfalso; omega) | exact ih | (exfalso; simp_all; done) | (exfalso; simp_all; omega)
    · rw [if_neg hc]
      simp only [S.namB, decide_eq_true_eq] at hc
      subst hf
      apply Comes.of
      show Goes _ _ _
      (first | rw [q157] | unfold q157)
      repeat' first
        | with_reducible refine goes_if (fun h => ?_) (fun h => ?_) <;> (try simp only [lim64, imp_false, decide_eq_true_eq, decide_eq_false_iff_not, Int.toNat_natCast, toNat_pred, toNat_succ, Option.getD_some, Option.getD_none, Bool.not_eq_true', Bool.not_eq_false', Bool.and_eq_true, Bool.or_eq_true, Bool.and_eq_false_iff, Bool.or_eq_false_iff, bne_iff_ne, beq_iff_eq, bne_eq_false_iff_eq, beq_eq_false_iff_ne, ne_eq, not_and, Int.not_le, Int.not_lt, ge_iff_le, gt_iff_lt, Nat.not_lt, Nat.not_le, Bool.not_eq_true, Bool.not_eq_false, Bool.true_eq_false, Bool.false_eq_true, not_false_eq_true, not_true_eq_false, e0] at h)
        | exact goes_none.mpr (by omega)
      all_goals first | (exfalso; omega) | (exact goes_inr.mpr rfl) | (exfalso; simp_all; done) | (exfalso; simp_all; omega)
theorem s157 (ws : ByteArray) (fr : Int) (hp : ws.size ≤ 1000 ∧ fr = 0) : Goes ((q157 ws fr)) ((p157 ws fr)) (((S.runN (fun j => S.namB (keys ws j)) 0 ws.size : Nat) : Int)) := by
  obtain ⟨hp1, hp2⟩ := hp
  have hm := s157' ws fr hp1 hp2 ws.size 0 (by omega)
  rw [Nat.zero_add] at hm
  show Goes _ _ _
  unfold p157
  repeat' first
    | with_reducible refine goes_if (fun h => ?_) (fun h => ?_) <;> (try simp only [lim64, imp_false, decide_eq_true_eq, decide_eq_false_iff_not, Int.toNat_natCast, toNat_pred, toNat_succ, Option.getD_some, Option.getD_none, Bool.not_eq_true', Bool.not_eq_false', Bool.and_eq_true, Bool.or_eq_true, Bool.and_eq_false_iff, Bool.or_eq_false_iff, bne_iff_ne, beq_iff_eq, bne_eq_false_iff_eq, beq_eq_false_iff_ne, ne_eq, not_and, Int.not_le, Int.not_lt, ge_iff_le, gt_iff_lt, Nat.not_lt, Nat.not_le, Bool.not_eq_true, Bool.not_eq_false, Bool.true_eq_false, Bool.false_eq_true, not_false_eq_true, not_true_eq_false] at h)
    | exact goes_none.mpr (by omega)
  all_goals first | (exfalso; omega) | exact hm
theorem k157_ok : k157.ok Try.prog := by
  intro x hx
  obtain ⟨ws, fr, ⟨_⟩, _⟩ := x
  obtain ⟨h1, h2⟩ := a157 ws fr (s157 ws fr (of_dec hx rfl))
  exact ⟨⟨400, (by decide : 0 + 1 + 0 ≤ 400), h1⟩, h2⟩
noncomputable def xN0 (test : Bool → Prop → Prop → Prop) : Ext := consX test [k157]
theorem xN0_ok : ExtOk Try.prog (xN0 cond) := consX_ok ⟨k157_ok, trivial⟩
abbrev St137 := Empty
abbrev Rt137 := Bool
noncomputable def V137 (ws : ByteArray) (r : Rt137) : PV := PV.bool r
noncomputable def N137 (ws : ByteArray) (r : Rt137) : List Blk := []
noncomputable def I137 (ws : ByteArray) : St137 → Hd := fun s => s.elim
noncomputable def q137 (ws : ByteArray) : St137 → Option (St137 ⊕ Rt137) := fun s => s.elim
noncomputable def p137 (ws : ByteArray) : Option (St137 ⊕ Rt137) := bif (!S.eqS ws (ByteArray.mk #[]))
 then (bif (decide ((↑(ByteArray.size ws) : Int) ≤ (20 : Int)))
 then (bif (decide ((0 : Int) ≤ (0 : Int) ∧ (0 : Int) < (↑(ByteArray.size ws) : Int)))
 then (bif (decide (keys ws (0) ≥ (97 : Int)))
 then (bif (decide (keys ws (0) ≤ (122 : Int)))
 then (bif (decide (ByteArray.size ws ≤ 1000 ∧ (0 : Int) = (0 : Int)))
 then (bif ((↑(S.runN (fun j => S.namB (keys ws j)) (0) (ByteArray.size ws)) : Int) ==
 (↑(ByteArray.size ws) : Int))
 then (some (.inr (true)))
 else (some (.inr (false))))
 else (none))
 else (some (.inr (false))))
 else (some (.inr (false))))
 else (none))
 else (some (.inr (false))))
 else (some (.inr (false)))
noncomputable def Te137 (test : Bool → Prop → Prop → Prop) (Kst : KS) (Kret : KR) (ws : ByteArray) : Prop :=
  test (!S.eqS ws (ByteArray.mk #[]))
 (test (decide ((↑(ByteArray.size ws) : Int) ≤ (20 : Int)))
 (test (decide ((0 : Int) ≤ (0 : Int) ∧ (0 : Int) < (↑(ByteArray.size ws) : Int)))
 (test (decide (keys ws (0) ≥ (97 : Int)))
 (test (decide (keys ws (0) ≤ (122 : Int)))
 (test (decide (ByteArray.size ws ≤ 1000 ∧ (0 : Int) = (0 : Int)))
 (test ((↑(S.runN (fun j => S.namB (keys ws j)) (0) (ByteArray.size ws)) : Int) ==
 (↑(ByteArray.size ws) : Int))
 (Kret (PV.tf true) ([[]]) (1))
 (Kret (PV.tf false) ([[]]) (1)))
 (False))
 (Kret (PV.tf false) ([[]]) (0)))
 (Kret (PV.tf false) ([[]]) (0)))
 (False))
 (Kret (PV.tf false) ([[]]) (0)))
 (Kret (PV.tf false) ([[]]) (0))
theorem te137 (test : Bool → Prop → Prop → Prop) (Kst : KS) (Kret : KR) (ws : ByteArray) : run test Try.env true (xN0 test) true 400 ⟨33, [.cd (mkFn Try.f33).body], argT 0 [.str ws], [[], []], 0⟩ (proj 0 [] Kst Kret) =
  Te137 test Kst Kret ws := by kernel_rfl
theorem be137 (ws : ByteArray) (Kst : KS) (Kret : KR) (x : St137 ⊕ Rt137) (hS : HS 0 400 ((I137 ws)) Kst x) (hR : HR 0 400 ((V137 ws)) (fun r => [newL (0 + 1) ((N137 ws) r) ++ []]) Kret x) (h : (bif (!S.eqS ws (ByteArray.mk #[]))
 then (bif (decide ((↑(ByteArray.size ws) : Int) ≤ (20 : Int)))
 then (bif (decide ((0 : Int) ≤ (0 : Int) ∧ (0 : Int) < (↑(ByteArray.size ws) : Int)))
 then (bif (decide (keys ws (0) ≥ (97 : Int)))
 then (bif (decide (keys ws (0) ≤ (122 : Int)))
 then (bif (decide (ByteArray.size ws ≤ 1000 ∧ (0 : Int) = (0 : Int)))
 then (bif ((↑(S.runN (fun j => S.namB (keys ws j)) (0) (ByteArray.size ws)) : Int) ==
 (↑(ByteArray.size ws) : Int))
 then (some (.inr (true)))
 else (some (.inr (false))))
 else (none))
 else (some (.inr (false))))
 else (some (.inr (false))))
 else (none))
 else (some (.inr (false))))
 else (some (.inr (false))) : Option (St137 ⊕ Rt137)) = some x) : Te137 cond Kst Kret ws := by
  unfold Te137
  exact bif_split h
   (fun c0 h => bif_split h
   (fun c1 h => bif_split h
   (fun c2 h => bif_split h
   (fun c3 h => bif_split h
   (fun c4 h => bif_split h
   (fun c5 h => bif_split h
   (fun c6 h => ret_at hR _ h (fun n => n) rfl rfl rfl (rn_bool_tf rfl) rfl entl_nil)
   (fun c6 h => ret_at hR _ h (fun n => n) rfl rfl rfl (rn_bool_tf rfl) rfl entl_nil))
   (fun c5 h => no_some h))
   (fun c4 h => ret_at hR _ h (fun n => n) rfl rfl rfl (rn_bool_tf rfl) rfl entl_nil))
   (fun c3 h => ret_at hR _ h (fun n => n) rfl rfl rfl (rn_bool_tf rfl) rfl entl_nil))
   (fun c2 h => no_some h))
   (fun c1 h => ret_at hR _ h (fun n => n) rfl rfl rfl (rn_bool_tf rfl) rfl entl_nil))
   (fun c0 h => ret_at hR _ h (fun n => n) rfl rfl rfl (rn_bool_tf rfl) rfl entl_nil)
theorem a137 (ws : ByteArray) {r : Rt137} (h : Goes ((q137 ws)) ((p137 ws)) r) : CallR Try.prog 33 [.str ws] [[]] 0 ((V137 ws) r) ((fun r => [newL (0 + 1) ((N137 ws) r) ++ []]) r) 400 ∧ ∃ F, Try.prog.funcs[33]? = some F ∧ F.body.isSome = true ∧ (F.name == "runtime.NumGoroutine") = false := by
  refine dec_calls (f := 33) (lo := 0) (hi := 400) (H := [[]]) (args := [.str ws]) Try.envOk Try.mixed xN0_ok ((I137 ws)) ((V137 ws)) (fun r => [newL (0 + 1) ((N137 ws) r) ++ []]) (fn := mkFn Try.f33) (ts := []) (n := 400) rfl (by decide) (by simp) (names_of rfl) ?_ ?_ ?_ h
  · intro s; exact s.elim
  · intro Kst Kret x hS hR h
    exact Holds.eq (te137 cond Kst Kret ws) (be137 ws Kst Kret x hS hR h)
  · intro Kst Kret x hS hR s h; exact s.elim
noncomputable def k137 : Con := ⟨33, [.one (.plain (.str))], fun (x : ByteArray × Unit) => (fun (ws : ByteArray) => decide (True)) x.1, fun (x : ByteArray × Unit) => (fun (ws : ByteArray) => (V137 ws) (S.isNam ws)) x.1, fun (x : ByteArray × Unit) => (fun (ws : ByteArray) => (N137 ws) (S.isNam ws)) x.1, fun _ _ => .dead⟩
theorem s137 (ws : ByteArray) (hp : True) : Goes ((q137 ws)) ((p137 ws)) (S.isNam ws) := by
  have hs : S.eqS ws (ByteArray.mk #[]) = decide (ws.size = 0) := by
    show (ws.toList == (ByteArray.mk #[]).toList) = _
    rw [ByteArray.toList_eq (ByteArray.mk #[])]
    exact size_nil
  have hr := runN_le (p := (fun j => S.namB (keys ws j))) (k := ws.size) (i := 0)
  have e : S.isNam ws = (decide (1 ≤ ws.size ∧ ws.size ≤ 20) && (S.lowB (keys ws 0) && decide (S.runN (fun j => S.namB (keys ws j)) 0 ws.size = ws.size))) := rfl
  rw [e]
  unfold p137
  simp only [hs]
  have hk : S.lowB (keys ws 0) = decide (97 ≤ keys ws 0 ∧ keys ws 0 ≤ 122) := rfl
  generalize S.runN (fun j => S.namB (keys ws j)) 0 ws.size = rn at *
  show Goes _ _ _
  repeat' first
    | with_reducible refine goes_if (fun h => ?_) (fun h => ?_) <;> (try simp only [lim64, imp_false, decide_eq_true_eq, decide_eq_false_iff_not, Int.toNat_natCast, toNat_pred, toNat_succ, Option.getD_some, Option.getD_none, Bool.not_eq_true', Bool.not_eq_false', Bool.and_eq_true, Bool.or_eq_true, Bool.and_eq_false_iff, Bool.or_eq_false_iff, bne_iff_ne, beq_iff_eq, bne_eq_false_iff_eq, beq_eq_false_iff_ne, ne_eq, not_and, Int.not_le, Int.not_lt, ge_iff_le, gt_iff_lt, Nat.not_lt, Nat.not_le, Bool.not_eq_true, Bool.not_eq_false, Bool.true_eq_false, Bool.false_eq_true, not_false_eq_true, not_true_eq_false] at h)
    | exact goes_none.mpr (by omega)
  all_goals first
    | (exfalso; omega)
    | (refine goes_inr.mpr ?_; simp only [hk, ← Bool.decide_and]; first | exact (decide_eq_true (by omega)).symm | exact (decide_eq_false (by omega)).symm | (rw [Bool.eq_iff_iff]; simp only [decide_eq_true_eq, beq_iff_eq]; omega))
theorem k137_ok : k137.ok Try.prog := by
  intro x hx
  obtain ⟨ws, _⟩ := x
  obtain ⟨h1, h2⟩ := a137 ws (s137 ws (of_dec hx rfl))
  exact ⟨⟨400, (by decide : 0 + 1 + 0 ≤ 400), h1⟩, h2⟩
noncomputable def xN (test : Bool → Prop → Prop → Prop) : Ext := consX test [k137]
theorem xN_ok : ExtOk Try.prog (xN cond) := consX_ok ⟨k137_ok, trivial⟩
noncomputable def k37 : Con := ⟨45, [.one (.list [.int .i64, .int .i64, .int .i64])], fun (x : (Nat × Nat × Nat × (Nat → Int) × (Nat → Int) × (Nat → Int) × Unit) × Unit) => (fun (aa na ma : Nat) (ta : Nat → Int) (va : Nat → Int) (ga : Nat → Int) => decide (aa + na ≤ ma ∧ na ≤ 1000000)) x.1.1 x.1.2.1 x.1.2.2.1 x.1.2.2.2.1 x.1.2.2.2.2.1 x.1.2.2.2.2.2.1, fun (x : (Nat × Nat × Nat × (Nat → Int) × (Nat → Int) × (Nat → Int) × Unit) × Unit) => (fun (aa na ma : Nat) (ta : Nat → Int) (va : Nat → Int) (ga : Nat → Int) => .own 2 3 na) x.1.1 x.1.2.1 x.1.2.2.1 x.1.2.2.2.1 x.1.2.2.2.2.1 x.1.2.2.2.2.2.1, fun (x : (Nat × Nat × Nat × (Nat → Int) × (Nat → Int) × (Nat → Int) × Unit) × Unit) => (fun (aa na ma : Nat) (ta : Nat → Int) (va : Nat → Int) (ga : Nat → Int) => [.cols na [.int .i64 (fun j => ta (j + aa)), .int .i64 (fun j => va (j + aa)), .int .i64 (fun j => ga (j + aa))]]) x.1.1 x.1.2.1 x.1.2.2.1 x.1.2.2.2.1 x.1.2.2.2.2.1 x.1.2.2.2.2.2.1, fun _ _ => .dead⟩
theorem e37s (test : Bool → Prop → Prop → Prop) (Kst : List It → List PV → Heap → Nat → Prop) (Kret : PV → Heap → Nat → Prop) (aa na ma : Nat) (ta : Nat → Int) (va : Nat → Int) (ga : Nat → Int) :
  (run test Try.env true noX true 300 ⟨45, [.cd (mkFn Try.f45).body], argT 0 [.sl ⟨0, 3, aa, 0⟩ na], [[], [(0, (false, .cols ma [.int .i64 ta, .int .i64 va, .int .i64 ga]))]], 1⟩ (proj 1 [] Kst Kret)) =
  (test (decide (0 + na ≤ 1000000))
  (test true
    (test (decide (aa + na ≤ ma))
      (Kret (PV.own (2) (3) (0 + na))
        [[(0, false, Blk.cols ma [Col.int IntKind.i64 ta, Col.int IntKind.i64 va, Col.int IntKind.i64 ga]),
            (2, true,
              Blk.cols (0 + na)
                [Col.int IntKind.i64 fun j => ta (j + aa), Col.int IntKind.i64 fun j => va (j + aa),
                  Col.int IntKind.i64 fun j => ga (j + aa)])]]
        (3))
      False)
    False)
  False) := by kernel_rfl
theorem c37s (aa na ma : Nat) (ta : Nat → Int) (va : Nat → Int) (ga : Nat → Int) (hp : aa + na ≤ ma ∧ na ≤ 1000000) (h0 : 0 < na) : CallR Try.prog 45 [.sl ⟨0, 3, aa, 0⟩ na] [[(0, (false, .cols ma [.int .i64 ta, .int .i64 va, .int .i64 ga]))]] 1 (.own 2 3 na) [(2, (true, .cols na [.int .i64 (fun j => ta (j + aa)), .int .i64 (fun j => va (j + aa)), .int .i64 (fun j => ga (j + aa))])) :: [(0, (false, .cols ma [.int .i64 ta, .int .i64 va, .int .i64 ga]))]] 40 ∧ ∃ F, Try.prog.funcs[45]? = some F ∧ F.body.isSome = true ∧ (F.name == "runtime.NumGoroutine") = false := by
  refine @ret_eq _ _ Try.envOk Try.mixed _ noX_ok 45 (mkFn Try.f45) [.sl ⟨0, 3, aa, 0⟩ na] [[(0, (false, .cols ma [.int .i64 ta, .int .i64 va, .int .i64 ga]))]] [(2, (true, .cols na [.int .i64 (fun j => ta (j + aa)), .int .i64 (fun j => va (j + aa)), .int .i64 (fun j => ga (j + aa))])) :: [(0, (false, .cols ma [.int .i64 ta, .int .i64 va, .int .i64 ga]))]] 1 40 (.own 2 3 na) true 300 rfl (by decide) (by simp) (names_of rfl) _ (e37s cond _ _ aa na ma ta va ga) ?_
  repeat' first
    | with_reducible refine cond_yes rfl ?_
    | with_reducible refine cond_no rfl ?_
    | (with_reducible refine cond_intro (fun h => ?_) (fun h => ?_)) <;> (try simp only [lim64, decide_eq_true_eq, decide_eq_false_iff_not, reduceCtorEq, Int.toNat_natCast, Bool.not_eq_true', Bool.not_eq_false', Bool.and_eq_true, Bool.or_eq_true, Bool.and_eq_false_iff, Bool.or_eq_false_iff, bne_iff_ne, beq_iff_eq, bne_eq_false_iff_eq, beq_eq_false_iff_ne, ne_eq] at h)
  all_goals first
    | with_reducible apply ret_k
    | omega
  repeat' first
    | with_reducible exact rns_nil
    | with_reducible refine rns_cons ?_ ?_
    | with_reducible refine rn_tup ?_
    | with_reducible refine rn_agg ?_
    | with_reducible refine rn_int ?_
    | with_reducible refine rn_tf ?_
    | with_reducible refine rn_bool_tf ?_
    | with_reducible refine rn_bool ?_
    | with_reducible refine rn_str ?_
    | with_reducible exact rn_nils
    | with_reducible refine rn_own_nils ?_
    | with_reducible refine rn_own ?_ ?_ ?_
    | with_reducible refine rn_own_sl ?_ ?_ ?_ ?_ ?_
    | with_reducible refine rn_own_loose ?_ ?_ ?_ ?_
    | with_reducible refine rn_loose ?_ ?_ ?_ ?_
    | with_reducible refine rn_loose_sl ?_ ?_ ?_ ?_
    | exact use_lo rfl
    | exact use_own rfl
    | exact nm_k rfl
    | exact nm_lo rfl
    | ((with_reducible refine (id : pos _ = pos _ → _) ?_); exact rfl)
    | ((with_reducible refine (id : pos _ = 0 → _) ?_); exact rfl)
    | ((with_reducible refine (id : Nat.ble _ _ = true → _) ?_); exact rfl)
    | ((with_reducible refine (id : injL _ _ = true → _) ?_); exact rfl)
    | ((with_reducible refine (id : plainC _ = true → _) ?_); exact rfl)
    | ((with_reducible refine (id : hget _ _ = some _ → _) ?_); exact rfl)
    | with_reducible exact (id : (_ : Bool) = true → _ = true)
    | with_reducible exact entl_nil
    | with_reducible refine entl_bor ?_ ?_ ?_ ?_
    | refine entl_new (use_own rfl) (by rfl) ?_ ?_ ?_
    | refine entl_rows (use_own rfl) (by rfl) rfl ?_ (nthc_all ?_) ?_
    | refine entl_zero (use_own rfl) (by rfl) (by simp) (by omega) ?_
    | with_reducible exact rcs_nil
    | with_reducible refine rcs_int (fun j hj => ?_) ?_
    | with_reducible refine rcs_bool (fun j hj => ?_) ?_
    | with_reducible refine rcs_str (fun j hj => ?_) ?_
    | refine entl_fresh (k := 2) (use_own rfl) (fresh_ok (n := 39) rfl) ?_
    | with_reducible rfl
  all_goals try exact (0 : Nat)
  all_goals try ((with_reducible refine (id : injL _ _ = true → _) ?_); exact rfl)
  all_goals first
    | omega
    | skip
theorem e37z (test : Bool → Prop → Prop → Prop) (Kst : List It → List PV → Heap → Nat → Prop) (Kret : PV → Heap → Nat → Prop) (aa na ma : Nat) (ta : Nat → Int) (va : Nat → Int) (ga : Nat → Int) :
  (run test Try.env true noX true 300 ⟨45, [.cd (mkFn Try.f45).body], argT 0 [.zer true], [[], [(0, (false, .cols ma [.int .i64 ta, .int .i64 va, .int .i64 ga]))]], 1⟩ (proj 1 [] Kst Kret)) =
  (Kret (PV.own (1) (3) (0))
  [[(0, false, Blk.cols ma [Col.int IntKind.i64 ta, Col.int IntKind.i64 va, Col.int IntKind.i64 ga]),
      (1, true, Blk.cells [])]]
  (2)) := by kernel_rfl
theorem c37z (aa na ma : Nat) (ta : Nat → Int) (va : Nat → Int) (ga : Nat → Int) (hp : aa + na ≤ ma ∧ na ≤ 1000000) (h0 : na = 0) : CallR Try.prog 45 [.zer true] [[(0, (false, .cols ma [.int .i64 ta, .int .i64 va, .int .i64 ga]))]] 1 (.own 2 3 na) [(2, (true, .cols na [.int .i64 (fun j => ta (j + aa)), .int .i64 (fun j => va (j + aa)), .int .i64 (fun j => ga (j + aa))])) :: [(0, (false, .cols ma [.int .i64 ta, .int .i64 va, .int .i64 ga]))]] 40 ∧ ∃ F, Try.prog.funcs[45]? = some F ∧ F.body.isSome = true ∧ (F.name == "runtime.NumGoroutine") = false := by
  refine @ret_eq _ _ Try.envOk Try.mixed _ noX_ok 45 (mkFn Try.f45) [.zer true] [[(0, (false, .cols ma [.int .i64 ta, .int .i64 va, .int .i64 ga]))]] [(2, (true, .cols na [.int .i64 (fun j => ta (j + aa)), .int .i64 (fun j => va (j + aa)), .int .i64 (fun j => ga (j + aa))])) :: [(0, (false, .cols ma [.int .i64 ta, .int .i64 va, .int .i64 ga]))]] 1 40 (.own 2 3 na) true 300 rfl (by decide) (by simp) (names_of rfl) _ (e37z cond _ _ aa na ma ta va ga) ?_
  repeat' first
    | with_reducible refine cond_yes rfl ?_
    | with_reducible refine cond_no rfl ?_
    | (with_reducible refine cond_intro (fun h => ?_) (fun h => ?_)) <;> (try simp only [lim64, decide_eq_true_eq, decide_eq_false_iff_not, reduceCtorEq, Int.toNat_natCast, Bool.not_eq_true', Bool.not_eq_false', Bool.and_eq_true, Bool.or_eq_true, Bool.and_eq_false_iff, Bool.or_eq_false_iff, bne_iff_ne, beq_iff_eq, bne_eq_false_iff_eq, beq_eq_false_iff_ne, ne_eq] at h)
  all_goals first
    | with_reducible apply ret_k
    | omega
  repeat' first
    | with_reducible exact rns_nil
    | with_reducible refine rns_cons ?_ ?_
    | with_reducible refine rn_tup ?_
    | with_reducible refine rn_agg ?_
    | with_reducible refine rn_int ?_
    | with_reducible refine rn_tf ?_
    | with_reducible refine rn_bool_tf ?_
    | with_reducible refine rn_bool ?_
    | with_reducible refine rn_str ?_
    | with_reducible exact rn_nils
    | with_reducible refine rn_own_nils ?_
    | with_reducible refine rn_own ?_ ?_ ?_
    | with_reducible refine rn_own_sl ?_ ?_ ?_ ?_ ?_
    | with_reducible refine rn_own_loose ?_ ?_ ?_ ?_
    | with_reducible refine rn_loose ?_ ?_ ?_ ?_
    | with_reducible refine rn_loose_sl ?_ ?_ ?_ ?_
    | exact use_lo rfl
    | exact use_own rfl
    | exact nm_k rfl
    | exact nm_lo rfl
    | ((with_reducible refine (id : pos _ = pos _ → _) ?_); exact rfl)
    | ((with_reducible refine (id : pos _ = 0 → _) ?_); exact rfl)
    | ((with_reducible refine (id : Nat.ble _ _ = true → _) ?_); exact rfl)
    | ((with_reducible refine (id : injL _ _ = true → _) ?_); exact rfl)
    | ((with_reducible refine (id : plainC _ = true → _) ?_); exact rfl)
    | ((with_reducible refine (id : hget _ _ = some _ → _) ?_); exact rfl)
    | with_reducible exact (id : (_ : Bool) = true → _ = true)
    | with_reducible exact entl_nil
    | with_reducible refine entl_bor ?_ ?_ ?_ ?_
    | refine entl_new (use_own rfl) (by rfl) ?_ ?_ ?_
    | refine entl_rows (use_own rfl) (by rfl) rfl ?_ (nthc_all ?_) ?_
    | refine entl_zero (use_own rfl) (by rfl) (by simp) (by omega) ?_
    | with_reducible exact rcs_nil
    | with_reducible refine rcs_int (fun j hj => ?_) ?_
    | with_reducible refine rcs_bool (fun j hj => ?_) ?_
    | with_reducible refine rcs_str (fun j hj => ?_) ?_
    | refine entl_fresh (k := 2) (use_own rfl) (fresh_ok (n := 39) rfl) ?_
    | with_reducible rfl
  all_goals try exact (0 : Nat)
  all_goals try ((with_reducible refine (id : injL _ _ = true → _) ?_); exact rfl)
  all_goals first
    | omega
    | skip
theorem e37y (test : Bool → Prop → Prop → Prop) (Kst : List It → List PV → Heap → Nat → Prop) (Kret : PV → Heap → Nat → Prop) (aa na ma : Nat) (ta : Nat → Int) (va : Nat → Int) (ga : Nat → Int) :
  (run test Try.env true noX true 300 ⟨45, [.cd (mkFn Try.f45).body], argT 0 [.zer false], [[], [(0, (false, .cols ma [.int .i64 ta, .int .i64 va, .int .i64 ga]))]], 1⟩ (proj 1 [] Kst Kret)) =
  (Kret PV.nils
  [[(0, false, Blk.cols ma [Col.int IntKind.i64 ta, Col.int IntKind.i64 va, Col.int IntKind.i64 ga])]]
  (1)) := by kernel_rfl
theorem c37y (aa na ma : Nat) (ta : Nat → Int) (va : Nat → Int) (ga : Nat → Int) (hp : aa + na ≤ ma ∧ na ≤ 1000000) (h0 : na = 0) : CallR Try.prog 45 [.zer false] [[(0, (false, .cols ma [.int .i64 ta, .int .i64 va, .int .i64 ga]))]] 1 (.own 2 3 na) [(2, (true, .cols na [.int .i64 (fun j => ta (j + aa)), .int .i64 (fun j => va (j + aa)), .int .i64 (fun j => ga (j + aa))])) :: [(0, (false, .cols ma [.int .i64 ta, .int .i64 va, .int .i64 ga]))]] 40 ∧ ∃ F, Try.prog.funcs[45]? = some F ∧ F.body.isSome = true ∧ (F.name == "runtime.NumGoroutine") = false := by
  refine @ret_eq _ _ Try.envOk Try.mixed _ noX_ok 45 (mkFn Try.f45) [.zer false] [[(0, (false, .cols ma [.int .i64 ta, .int .i64 va, .int .i64 ga]))]] [(2, (true, .cols na [.int .i64 (fun j => ta (j + aa)), .int .i64 (fun j => va (j + aa)), .int .i64 (fun j => ga (j + aa))])) :: [(0, (false, .cols ma [.int .i64 ta, .int .i64 va, .int .i64 ga]))]] 1 40 (.own 2 3 na) true 300 rfl (by decide) (by simp) (names_of rfl) _ (e37y cond _ _ aa na ma ta va ga) ?_
  repeat' first
    | with_reducible refine cond_yes rfl ?_
    | with_reducible refine cond_no rfl ?_
    | (with_reducible refine cond_intro (fun h => ?_) (fun h => ?_)) <;> (try simp only [lim64, decide_eq_true_eq, decide_eq_false_iff_not, reduceCtorEq, Int.toNat_natCast, Bool.not_eq_true', Bool.not_eq_false', Bool.and_eq_true, Bool.or_eq_true, Bool.and_eq_false_iff, Bool.or_eq_false_iff, bne_iff_ne, beq_iff_eq, bne_eq_false_iff_eq, beq_eq_false_iff_ne, ne_eq] at h)
  all_goals first
    | with_reducible apply ret_k
    | omega
  repeat' first
    | with_reducible exact rns_nil
    | with_reducible refine rns_cons ?_ ?_
    | with_reducible refine rn_tup ?_
    | with_reducible refine rn_agg ?_
    | with_reducible refine rn_int ?_
    | with_reducible refine rn_tf ?_
    | with_reducible refine rn_bool_tf ?_
    | with_reducible refine rn_bool ?_
    | with_reducible refine rn_str ?_
    | with_reducible exact rn_nils
    | with_reducible refine rn_own_nils ?_
    | with_reducible refine rn_own ?_ ?_ ?_
    | with_reducible refine rn_own_sl ?_ ?_ ?_ ?_ ?_
    | with_reducible refine rn_own_loose ?_ ?_ ?_ ?_
    | with_reducible refine rn_loose ?_ ?_ ?_ ?_
    | with_reducible refine rn_loose_sl ?_ ?_ ?_ ?_
    | exact use_lo rfl
    | exact use_own rfl
    | exact nm_k rfl
    | exact nm_lo rfl
    | ((with_reducible refine (id : pos _ = pos _ → _) ?_); exact rfl)
    | ((with_reducible refine (id : pos _ = 0 → _) ?_); exact rfl)
    | ((with_reducible refine (id : Nat.ble _ _ = true → _) ?_); exact rfl)
    | ((with_reducible refine (id : injL _ _ = true → _) ?_); exact rfl)
    | ((with_reducible refine (id : plainC _ = true → _) ?_); exact rfl)
    | ((with_reducible refine (id : hget _ _ = some _ → _) ?_); exact rfl)
    | with_reducible exact (id : (_ : Bool) = true → _ = true)
    | with_reducible exact entl_nil
    | with_reducible refine entl_bor ?_ ?_ ?_ ?_
    | refine entl_new (use_own rfl) (by rfl) ?_ ?_ ?_
    | refine entl_rows (use_own rfl) (by rfl) rfl ?_ (nthc_all ?_) ?_
    | refine entl_zero (use_own rfl) (by rfl) (by simp) (by omega) ?_
    | with_reducible exact rcs_nil
    | with_reducible refine rcs_int (fun j hj => ?_) ?_
    | with_reducible refine rcs_bool (fun j hj => ?_) ?_
    | with_reducible refine rcs_str (fun j hj => ?_) ?_
    | refine entl_fresh (k := 2) (use_own rfl) (fresh_ok (n := 39) rfl) ?_
    | with_reducible rfl
  all_goals try exact (0 : Nat)
  all_goals try ((with_reducible refine (id : injL _ _ = true → _) ?_); exact rfl)
  all_goals first
    | omega
    | skip
theorem c37 (aa na ma : Nat) (ta : Nat → Int) (va : Nat → Int) (ga : Nat → Int) (hp : aa + na ≤ ma ∧ na ≤ 1000000) : CallR Try.prog 45 [.loose ⟨0, 3, aa, 0⟩ na] [[(0, (false, .cols ma [.int .i64 ta, .int .i64 va, .int .i64 ga]))]] 1 (.own 2 3 na) [(2, (true, .cols na [.int .i64 (fun j => ta (j + aa)), .int .i64 (fun j => va (j + aa)), .int .i64 (fun j => ga (j + aa))])) :: [(0, (false, .cols ma [.int .i64 ta, .int .i64 va, .int .i64 ga]))]] 40 ∧ ∃ F, Try.prog.funcs[45]? = some F ∧ F.body.isSome = true ∧ (F.name == "runtime.NumGoroutine") = false :=
  ⟨loose_cases (fun h => (c37s aa na ma ta va ga hp h).1) (fun h b => by cases b; exact (c37y aa na ma ta va ga hp h).1; exact (c37z aa na ma ta va ga hp h).1), by
    rcases Nat.eq_zero_or_pos na with h | h
    · exact (c37y aa na ma ta va ga hp h).2
    · exact (c37s aa na ma ta va ga hp h).2⟩
theorem k37_ok : k37.ok Try.prog := by
  intro x hx
  obtain ⟨⟨aa, na, ma, ta, va, ga, _⟩, _⟩ := x
  have hp : aa + na ≤ ma ∧ na ≤ 1000000 := of_decide_eq_true hx
  obtain ⟨h1, h2⟩ := c37 aa na ma ta va ga hp
  exact ⟨⟨40, (by decide : 1 + 1 + 1 ≤ 40), h1⟩, h2⟩
noncomputable def k38 : Con := ⟨46, [.one (.list [.bool])], fun (x : (Nat × Nat × Nat × (Nat → Bool) × Unit) × Unit) => (fun (aa na ma : Nat) (ta : Nat → Bool) => decide (aa + na ≤ ma ∧ na ≤ 1000000)) x.1.1 x.1.2.1 x.1.2.2.1 x.1.2.2.2.1, fun (x : (Nat × Nat × Nat × (Nat → Bool) × Unit) × Unit) => (fun (aa na ma : Nat) (ta : Nat → Bool) => .own 2 1 na) x.1.1 x.1.2.1 x.1.2.2.1 x.1.2.2.2.1, fun (x : (Nat × Nat × Nat × (Nat → Bool) × Unit) × Unit) => (fun (aa na ma : Nat) (ta : Nat → Bool) => [.cols na [.bool (fun j => ta (j + aa))]]) x.1.1 x.1.2.1 x.1.2.2.1 x.1.2.2.2.1, fun _ _ => .dead⟩
theorem e38s (test : Bool → Prop → Prop → Prop) (Kst : List It → List PV → Heap → Nat → Prop) (Kret : PV → Heap → Nat → Prop) (aa na ma : Nat) (ta : Nat → Bool) :
  (run test Try.env true noX true 300 ⟨46, [.cd (mkFn Try.f46).body], argT 0 [.sl ⟨0, 1, aa, 0⟩ na], [[], [(0, (false, .cols ma [.bool ta]))]], 1⟩ (proj 1 [] Kst Kret)) =
  (test (decide (0 + na ≤ 1000000))
  (test true
    (test (decide (aa + na ≤ ma))
      (Kret (PV.own (2) (1) (0 + na))
        [[(0, false, Blk.cols ma [Col.bool ta]),
            (2, true, Blk.cols (0 + na) [Col.bool fun j => ta (j + aa)])]]
        (3))
      False)
    False)
  False) := by kernel_rfl
theorem c38s (aa na ma : Nat) (ta : Nat → Bool) (hp : aa + na ≤ ma ∧ na ≤ 1000000) (h0 : 0 < na) : CallR Try.prog 46 [.sl ⟨0, 1, aa, 0⟩ na] [[(0, (false, .cols ma [.bool ta]))]] 1 (.own 2 1 na) [(2, (true, .cols na [.bool (fun j => ta (j + aa))])) :: [(0, (false, .cols ma [.bool ta]))]] 40 ∧ ∃ F, Try.prog.funcs[46]? = some F ∧ F.body.isSome = true ∧ (F.name == "runtime.NumGoroutine") = false := by
  refine @ret_eq _ _ Try.envOk Try.mixed _ noX_ok 46 (mkFn Try.f46) [.sl ⟨0, 1, aa, 0⟩ na] [[(0, (false, .cols ma [.bool ta]))]] [(2, (true, .cols na [.bool (fun j => ta (j + aa))])) :: [(0, (false, .cols ma [.bool ta]))]] 1 40 (.own 2 1 na) true 300 rfl (by decide) (by simp) (names_of rfl) _ (e38s cond _ _ aa na ma ta) ?_
  repeat' first
    | with_reducible refine cond_yes rfl ?_
    | with_reducible refine cond_no rfl ?_
    | (with_reducible refine cond_intro (fun h => ?_) (fun h => ?_)) <;> (try simp only [lim64, decide_eq_true_eq, decide_eq_false_iff_not, reduceCtorEq, Int.toNat_natCast, Bool.not_eq_true', Bool.not_eq_false', Bool.and_eq_true, Bool.or_eq_true, Bool.and_eq_false_iff, Bool.or_eq_false_iff, bne_iff_ne, beq_iff_eq, bne_eq_false_iff_eq, beq_eq_false_iff_ne, ne_eq] at h)
  all_goals first
    | with_reducible apply ret_k
    | omega
  repeat' first
    | with_reducible exact rns_nil
    | with_reducible refine rns_cons ?_ ?_
    | with_reducible refine rn_tup ?_
    | with_reducible refine rn_agg ?_
    | with_reducible refine rn_int ?_
    | with_reducible refine rn_tf ?_
    | with_reducible refine rn_bool_tf ?_
    | with_reducible refine rn_bool ?_
    | with_reducible refine rn_str ?_
    | with_reducible exact rn_nils
    | with_reducible refine rn_own_nils ?_
    | with_reducible refine rn_own ?_ ?_ ?_
    | with_reducible refine rn_own_sl ?_ ?_ ?_ ?_ ?_
    | with_reducible refine rn_own_loose ?_ ?_ ?_ ?_
    | with_reducible refine rn_loose ?_ ?_ ?_ ?_
    | with_reducible refine rn_loose_sl ?_ ?_ ?_ ?_
    | exact use_lo rfl
    | exact use_own rfl
    | exact nm_k rfl
    | exact nm_lo rfl
    | ((with_reducible refine (id : pos _ = pos _ → _) ?_); exact rfl)
    | ((with_reducible refine (id : pos _ = 0 → _) ?_); exact rfl)
    | ((with_reducible refine (id : Nat.ble _ _ = true → _) ?_); exact rfl)
    | ((with_reducible refine (id : injL _ _ = true → _) ?_); exact rfl)
    | ((with_reducible refine (id : plainC _ = true → _) ?_); exact rfl)
    | ((with_reducible refine (id : hget _ _ = some _ → _) ?_); exact rfl)
    | with_reducible exact (id : (_ : Bool) = true → _ = true)
    | with_reducible exact entl_nil
    | with_reducible refine entl_bor ?_ ?_ ?_ ?_
    | refine entl_new (use_own rfl) (by rfl) ?_ ?_ ?_
    | refine entl_rows (use_own rfl) (by rfl) rfl ?_ (nthc_all ?_) ?_
    | refine entl_zero (use_own rfl) (by rfl) (by simp) (by omega) ?_
    | with_reducible exact rcs_nil
    | with_reducible refine rcs_int (fun j hj => ?_) ?_
    | with_reducible refine rcs_bool (fun j hj => ?_) ?_
    | with_reducible refine rcs_str (fun j hj => ?_) ?_
    | refine entl_fresh (k := 2) (use_own rfl) (fresh_ok (n := 39) rfl) ?_
    | with_reducible rfl
  all_goals try exact (0 : Nat)
  all_goals try ((with_reducible refine (id : injL _ _ = true → _) ?_); exact rfl)
  all_goals first
    | omega
    | skip
theorem e38z (test : Bool → Prop → Prop → Prop) (Kst : List It → List PV → Heap → Nat → Prop) (Kret : PV → Heap → Nat → Prop) (aa na ma : Nat) (ta : Nat → Bool) :
  (run test Try.env true noX true 300 ⟨46, [.cd (mkFn Try.f46).body], argT 0 [.zer true], [[], [(0, (false, .cols ma [.bool ta]))]], 1⟩ (proj 1 [] Kst Kret)) =
  (Kret (PV.own (1) (1) (0))
  [[(0, false, Blk.cols ma [Col.bool ta]), (1, true, Blk.cells [])]] (2)) := by kernel_rfl
theorem c38z (aa na ma : Nat) (ta : Nat → Bool) (hp : aa + na ≤ ma ∧ na ≤ 1000000) (h0 : na = 0) : CallR Try.prog 46 [.zer true] [[(0, (false, .cols ma [.bool ta]))]] 1 (.own 2 1 na) [(2, (true, .cols na [.bool (fun j => ta (j + aa))])) :: [(0, (false, .cols ma [.bool ta]))]] 40 ∧ ∃ F, Try.prog.funcs[46]? = some F ∧ F.body.isSome = true ∧ (F.name == "runtime.NumGoroutine") = false := by
  refine @ret_eq _ _ Try.envOk Try.mixed _ noX_ok 46 (mkFn Try.f46) [.zer true] [[(0, (false, .cols ma [.bool ta]))]] [(2, (true, .cols na [.bool (fun j => ta (j + aa))])) :: [(0, (false, .cols ma [.bool ta]))]] 1 40 (.own 2 1 na) true 300 rfl (by decide) (by simp) (names_of rfl) _ (e38z cond _ _ aa na ma ta) ?_
  repeat' first
    | with_reducible refine cond_yes rfl ?_
    | with_reducible refine cond_no rfl ?_
    | (with_reducible refine cond_intro (fun h => ?_) (fun h => ?_)) <;> (try simp only [lim64, decide_eq_true_eq, decide_eq_false_iff_not, reduceCtorEq, Int.toNat_natCast, Bool.not_eq_true', Bool.not_eq_false', Bool.and_eq_true, Bool.or_eq_true, Bool.and_eq_false_iff, Bool.or_eq_false_iff, bne_iff_ne, beq_iff_eq, bne_eq_false_iff_eq, beq_eq_false_iff_ne, ne_eq] at h)
  all_goals first
    | with_reducible apply ret_k
    | omega
  repeat' first
    | with_reducible exact rns_nil
    | with_reducible refine rns_cons ?_ ?_
    | with_reducible refine rn_tup ?_
    | with_reducible refine rn_agg ?_
    | with_reducible refine rn_int ?_
    | with_reducible refine rn_tf ?_
    | with_reducible refine rn_bool_tf ?_
    | with_reducible refine rn_bool ?_
    | with_reducible refine rn_str ?_
    | with_reducible exact rn_nils
    | with_reducible refine rn_own_nils ?_
    | with_reducible refine rn_own ?_ ?_ ?_
    | with_reducible refine rn_own_sl ?_ ?_ ?_ ?_ ?_
    | with_reducible refine rn_own_loose ?_ ?_ ?_ ?_
    | with_reducible refine rn_loose ?_ ?_ ?_ ?_
    | with_reducible refine rn_loose_sl ?_ ?_ ?_ ?_
    | exact use_lo rfl
    | exact use_own rfl
    | exact nm_k rfl
    | exact nm_lo rfl
    | ((with_reducible refine (id : pos _ = pos _ → _) ?_); exact rfl)
    | ((with_reducible refine (id : pos _ = 0 → _) ?_); exact rfl)
    | ((with_reducible refine (id : Nat.ble _ _ = true → _) ?_); exact rfl)
    | ((with_reducible refine (id : injL _ _ = true → _) ?_); exact rfl)
    | ((with_reducible refine (id : plainC _ = true → _) ?_); exact rfl)
    | ((with_reducible refine (id : hget _ _ = some _ → _) ?_); exact rfl)
    | with_reducible exact (id : (_ : Bool) = true → _ = true)
    | with_reducible exact entl_nil
    | with_reducible refine entl_bor ?_ ?_ ?_ ?_
    | refine entl_new (use_own rfl) (by rfl) ?_ ?_ ?_
    | refine entl_rows (use_own rfl) (by rfl) rfl ?_ (nthc_all ?_) ?_
    | refine entl_zero (use_own rfl) (by rfl) (by simp) (by omega) ?_
    | with_reducible exact rcs_nil
    | with_reducible refine rcs_int (fun j hj => ?_) ?_
    | with_reducible refine rcs_bool (fun j hj => ?_) ?_
    | with_reducible refine rcs_str (fun j hj => ?_) ?_
    | refine entl_fresh (k := 2) (use_own rfl) (fresh_ok (n := 39) rfl) ?_
    | with_reducible rfl
  all_goals try exact (0 : Nat)
  all_goals try ((with_reducible refine (id : injL _ _ = true → _) ?_); exact rfl)
  all_goals first
    | omega
    | skip
theorem e38y (test : Bool → Prop → Prop → Prop) (Kst : List It → List PV → Heap → Nat → Prop) (Kret : PV → Heap → Nat → Prop) (aa na ma : Nat) (ta : Nat → Bool) :
  (run test Try.env true noX true 300 ⟨46, [.cd (mkFn Try.f46).body], argT 0 [.zer false], [[], [(0, (false, .cols ma [.bool ta]))]], 1⟩ (proj 1 [] Kst Kret)) =
  (Kret PV.nils [[(0, false, Blk.cols ma [Col.bool ta])]] (1)) := by kernel_rfl
theorem c38y (aa na ma : Nat) (ta : Nat → Bool) (hp : aa + na ≤ ma ∧ na ≤ 1000000) (h0 : na = 0) : CallR Try.prog 46 [.zer false] [[(0, (false, .cols ma [.bool ta]))]] 1 (.own 2 1 na) [(2, (true, .cols na [.bool (fun j => ta (j + aa))])) :: [(0, (false, .cols ma [.bool ta]))]] 40 ∧ ∃ F, Try.prog.funcs[46]? = some F ∧ F.body.isSome = true ∧ (F.name == "runtime.NumGoroutine") = false := by
  refine @ret_eq _ _ Try.envOk Try.mixed _ noX_ok 46 (mkFn Try.f46) [.zer false] [[(0, (false, .cols ma [.bool ta]))]] [(2, (true, .cols na [.bool (fun j => ta (j + aa))])) :: [(0, (false, .cols ma [.bool ta]))]] 1 40 (.own 2 1 na) true 300 rfl (by decide) (by simp) (names_of rfl) _ (e38y cond _ _ aa na ma ta) ?_
  repeat' first
    | with_reducible refine cond_yes rfl ?_
    | with_reducible refine cond_no rfl ?_
    | (with_reducible refine cond_intro (fun h => ?_) (fun h => ?_)) <;> (try simp only [lim64, decide_eq_true_eq, decide_eq_false_iff_not, reduceCtorEq, Int.toNat_natCast, Bool.not_eq_true', Bool.not_eq_false', Bool.and_eq_true, Bool.or_eq_true, Bool.and_eq_false_iff, Bool.or_eq_false_iff, bne_iff_ne, beq_iff_eq, bne_eq_false_iff_eq, beq_eq_false_iff_ne, ne_eq] at h)
  all_goals first
    | with_reducible apply ret_k
    | omega
  repeat' first
    | with_reducible exact rns_nil
    | with_reducible refine rns_cons ?_ ?_
    | with_reducible refine rn_tup ?_
    | with_reducible refine rn_agg ?_
    | with_reducible refine rn_int ?_
    | with_reducible refine rn_tf ?_
    | with_reducible refine rn_bool_tf ?_
    | with_reducible refine rn_bool ?_
    | with_reducible refine rn_str ?_
    | with_reducible exact rn_nils
    | with_reducible refine rn_own_nils ?_
    | with_reducible refine rn_own ?_ ?_ ?_
    | with_reducible refine rn_own_sl ?_ ?_ ?_ ?_ ?_
    | with_reducible refine rn_own_loose ?_ ?_ ?_ ?_
    | with_reducible refine rn_loose ?_ ?_ ?_ ?_
    | with_reducible refine rn_loose_sl ?_ ?_ ?_ ?_
    | exact use_lo rfl
    | exact use_own rfl
    | exact nm_k rfl
    | exact nm_lo rfl
    | ((with_reducible refine (id : pos _ = pos _ → _) ?_); exact rfl)
    | ((with_reducible refine (id : pos _ = 0 → _) ?_); exact rfl)
    | ((with_reducible refine (id : Nat.ble _ _ = true → _) ?_); exact rfl)
    | ((with_reducible refine (id : injL _ _ = true → _) ?_); exact rfl)
    | ((with_reducible refine (id : plainC _ = true → _) ?_); exact rfl)
    | ((with_reducible refine (id : hget _ _ = some _ → _) ?_); exact rfl)
    | with_reducible exact (id : (_ : Bool) = true → _ = true)
    | with_reducible exact entl_nil
    | with_reducible refine entl_bor ?_ ?_ ?_ ?_
    | refine entl_new (use_own rfl) (by rfl) ?_ ?_ ?_
    | refine entl_rows (use_own rfl) (by rfl) rfl ?_ (nthc_all ?_) ?_
    | refine entl_zero (use_own rfl) (by rfl) (by simp) (by omega) ?_
    | with_reducible exact rcs_nil
    | with_reducible refine rcs_int (fun j hj => ?_) ?_
    | with_reducible refine rcs_bool (fun j hj => ?_) ?_
    | with_reducible refine rcs_str (fun j hj => ?_) ?_
    | refine entl_fresh (k := 2) (use_own rfl) (fresh_ok (n := 39) rfl) ?_
    | with_reducible rfl
  all_goals try exact (0 : Nat)
  all_goals try ((with_reducible refine (id : injL _ _ = true → _) ?_); exact rfl)
  all_goals first
    | omega
    | skip
theorem c38 (aa na ma : Nat) (ta : Nat → Bool) (hp : aa + na ≤ ma ∧ na ≤ 1000000) : CallR Try.prog 46 [.loose ⟨0, 1, aa, 0⟩ na] [[(0, (false, .cols ma [.bool ta]))]] 1 (.own 2 1 na) [(2, (true, .cols na [.bool (fun j => ta (j + aa))])) :: [(0, (false, .cols ma [.bool ta]))]] 40 ∧ ∃ F, Try.prog.funcs[46]? = some F ∧ F.body.isSome = true ∧ (F.name == "runtime.NumGoroutine") = false :=
  ⟨loose_cases (fun h => (c38s aa na ma ta hp h).1) (fun h b => by cases b; exact (c38y aa na ma ta hp h).1; exact (c38z aa na ma ta hp h).1), by
    rcases Nat.eq_zero_or_pos na with h | h
    · exact (c38y aa na ma ta hp h).2
    · exact (c38s aa na ma ta hp h).2⟩
theorem k38_ok : k38.ok Try.prog := by
  intro x hx
  obtain ⟨⟨aa, na, ma, ta, _⟩, _⟩ := x
  have hp : aa + na ≤ ma ∧ na ≤ 1000000 := of_decide_eq_true hx
  obtain ⟨h1, h2⟩ := c38 aa na ma ta hp
  exact ⟨⟨40, (by decide : 1 + 1 + 1 ≤ 40), h1⟩, h2⟩
namespace S
def okR (u d w : Int) : Bool := decide (-1099511627776 ≤ u ∧ u ≤ 1099511627776 ∧ -1099511627776 ≤ d ∧ d ≤ 1099511627776 ∧ 1 ≤ w ∧ w ≤ 1073741824)
def relE (e : Int) (u d w : Nat → Int) : Nat → Nat → Int
  | _, 0 => e
  | i, k + 1 => if okR (u i) (d i) (w i) = true then (if u i ≤ d i then 15 else relE e u d w (i + 1) k) else 6
def magE (n : Nat) (u d w : Nat → Int) (no : Nat) : Int := if n = 0 then 7 else if 40 < n then 3 else relE (if no = n then 0 else 1) u d w 0 n
end S
inductive St21 where
  | h0 (x0 : Int)
abbrev Rt21 := Int
noncomputable def V21 (ar nr mr : Nat) (tr : Nat → Int) (vr : Nat → Int) (gr : Nat → Int) (ao no mo : Nat) (to : Nat → Bool) (r : Rt21) : PV := PV.int IntKind.i64 r
noncomputable def N21 (ar nr mr : Nat) (tr : Nat → Int) (vr : Nat → Int) (gr : Nat → Int) (ao no mo : Nat) (to : Nat → Bool) (r : Rt21) : List Blk := []
noncomputable def I21 (ar nr mr : Nat) (tr : Nat → Int) (vr : Nat → Int) (gr : Nat → Int) (ao no mo : Nat) (to : Nat → Bool) : St21 → Hd
  | .h0 x0 => ⟨hd Try.f10 0, [PV.ptr (PA.mk (2) (0) (0) (0)),
 PV.loose (PA.mk (0) (3) ar (0)) nr, PV.int IntKind.i64 (↑nr : Int),
 PV.int IntKind.i64 x0], [[(2, (true, Blk.cells
 [PV.loose (PA.mk (0) (3) ar (0)) nr,
 PV.loose (PA.mk (1) (1) ao (0)) no]))], [(0, (false, .cols mr [.int .i64 tr, .int .i64 vr, .int .i64 gr])), (1, (false, .cols mo [.bool to]))]], 3⟩
noncomputable def q21 (ar nr mr : Nat) (tr : Nat → Int) (vr : Nat → Int) (gr : Nat → Int) (ao no mo : Nat) (to : Nat → Bool) : St21 → Option (St21 ⊕ Rt21)
  | .h0 x0 => bif (decide (x0 < (↑nr : Int)))
 then (bif (decide ((0 : Int) ≤ x0 ∧ x0 < (↑nr : Int)))
 then (bif (decide (Int.toNat x0 + ar < mr))
 then (bif (decide (tr (Int.toNat x0 + ar) ≥ (-1099511627776 : Int)))
 then (bif (decide (tr (Int.toNat x0 + ar) ≤ (1099511627776 : Int)))
 then (bif (decide (vr (Int.toNat x0 + ar) ≥ (-1099511627776 : Int)))
 then (bif (decide (vr (Int.toNat x0 + ar) ≤ (1099511627776 : Int)))
 then (bif (decide (gr (Int.toNat x0 + ar) < (1 : Int)))
 then (some (.inr ((6 : Int))))
 else (bif (decide (gr (Int.toNat x0 + ar) > (1073741824 : Int)))
 then (some (.inr ((6 : Int))))
 else (bif (decide (tr (Int.toNat x0 + ar) ≤ vr (Int.toNat x0 + ar)))
 then (some (.inr ((15 : Int))))
 else (bif (lim IntKind.i64 (x0 + (1 : Int)))
 then (some (.inl (.h0 (x0 + (1 : Int)))))
 else (none)))))
 else (some (.inr ((6 : Int)))))
 else (some (.inr ((6 : Int)))))
 else (some (.inr ((6 : Int)))))
 else (some (.inr ((6 : Int)))))
 else (none))
 else (none))
 else (bif ((↑no : Int) != (↑nr : Int))
 then (some (.inr ((1 : Int))))
 else (some (.inr ((0 : Int)))))
noncomputable def p21 (ar nr mr : Nat) (tr : Nat → Int) (vr : Nat → Int) (gr : Nat → Int) (ao no mo : Nat) (to : Nat → Bool) : Option (St21 ⊕ Rt21) := bif ((↑nr : Int) == (0 : Int))
 then (some (.inr ((7 : Int))))
 else (bif (decide ((↑nr : Int) > (40 : Int)))
 then (some (.inr ((3 : Int))))
 else (some (.inl (.h0 ((0 : Int))))))
noncomputable def Te21 (test : Bool → Prop → Prop → Prop) (Kst : KS) (Kret : KR) (ar nr mr : Nat) (tr : Nat → Int) (vr : Nat → Int) (gr : Nat → Int) (ao no mo : Nat) (to : Nat → Bool) : Prop :=
  test ((↑nr : Int) == (0 : Int))
 (Kret (PV.int IntKind.i64 (7 : Int)) ([[(1, false, Blk.cols mo [Col.bool to]),
 (0, false,
 Blk.cols mr
 [Col.int IntKind.i64 tr, Col.int IntKind.i64 vr, Col.int IntKind.i64 gr])]]) (3))
 (test (decide ((↑nr : Int) > (40 : Int)))
 (Kret (PV.int IntKind.i64 (3 : Int)) ([[(1, false, Blk.cols mo [Col.bool to]),
 (0, false,
 Blk.cols mr
 [Col.int IntKind.i64 tr, Col.int IntKind.i64 vr, Col.int IntKind.i64 gr])]]) (3))
 (Kst (hd Try.f10 0) ([PV.ptr (PA.mk (2) (0) (0) (0)),
 PV.loose (PA.mk (0) (3) ar (0)) nr, PV.int IntKind.i64 (↑nr : Int),
 PV.int IntKind.i64 (0 : Int)]) ([[(1, false, Blk.cols mo [Col.bool to]),
 (0, false,
 Blk.cols mr
 [Col.int IntKind.i64 tr, Col.int IntKind.i64 vr, Col.int IntKind.i64 gr]),
 (2, true,
 Blk.cells
 [PV.loose (PA.mk (0) (3) ar (0)) nr,
 PV.loose (PA.mk (1) (1) ao (0)) no])]]) (3)))
theorem te21 (test : Bool → Prop → Prop → Prop) (Kst : KS) (Kret : KR) (ar nr mr : Nat) (tr : Nat → Int) (vr : Nat → Int) (gr : Nat → Int) (ao no mo : Nat) (to : Nat → Bool) : run test Try.env true noX true 400 ⟨10, [.cd (mkFn Try.f10).body], argT 0 [.agg [.loose ⟨0, 3, ar, 0⟩ nr, .loose ⟨1, 1, ao, 0⟩ no]], [[], [(0, (false, .cols mr [.int .i64 tr, .int .i64 vr, .int .i64 gr])), (1, (false, .cols mo [.bool to]))]], 2⟩ (proj 2 [1, 14, 15, 16] Kst Kret) =
  Te21 test Kst Kret ar nr mr tr vr gr ao no mo to := by kernel_rfl
noncomputable def T21_0 (test : Bool → Prop → Prop → Prop) (Kst : KS) (Kret : KR) (ar nr mr : Nat) (tr : Nat → Int) (vr : Nat → Int) (gr : Nat → Int) (ao no mo : Nat) (to : Nat → Bool) (x0 : Int) : Prop :=
  test (decide (x0 < (↑nr : Int)))
 (test (decide ((0 : Int) ≤ x0 ∧ x0 < (↑nr : Int)))
 (test (decide (Int.toNat x0 + ar < mr))
 (test (decide (Int.toNat x0 + ar < mr))
 (test (decide (Int.toNat x0 + ar < mr))
 (test (decide (tr (Int.toNat x0 + ar) ≥ (-1099511627776 : Int)))
 (test (decide (tr (Int.toNat x0 + ar) ≤ (1099511627776 : Int)))
 (test (decide (vr (Int.toNat x0 + ar) ≥ (-1099511627776 : Int)))
 (test (decide (vr (Int.toNat x0 + ar) ≤ (1099511627776 : Int)))
 (test (decide (gr (Int.toNat x0 + ar) < (1 : Int)))
 (Kret (PV.int IntKind.i64 (6 : Int)) ([[(1, false, Blk.cols mo [Col.bool to]),
 (0, false,
 Blk.cols mr
 [Col.int IntKind.i64 tr, Col.int IntKind.i64 vr, Col.int IntKind.i64 gr])]]) (4))
 (test (decide (gr (Int.toNat x0 + ar) > (1073741824 : Int)))
 (Kret (PV.int IntKind.i64 (6 : Int)) ([[(1, false, Blk.cols mo [Col.bool to]),
 (0, false,
 Blk.cols mr
 [Col.int IntKind.i64 tr, Col.int IntKind.i64 vr, Col.int IntKind.i64 gr])]]) (4))
 (test (decide (tr (Int.toNat x0 + ar) ≤ vr (Int.toNat x0 + ar)))
 (Kret (PV.int IntKind.i64 (15 : Int)) ([[(1, false, Blk.cols mo [Col.bool to]),
 (0, false,
 Blk.cols mr
 [Col.int IntKind.i64 tr, Col.int IntKind.i64 vr, Col.int IntKind.i64 gr])]]) (4))
 (test (lim IntKind.i64 (x0 + (1 : Int)))
 (Kst (hd Try.f10 0) ([PV.ptr (PA.mk (2) (0) (0) (0)),
 PV.loose (PA.mk (0) (3) ar (0)) nr, PV.int IntKind.i64 (↑nr : Int),
 PV.int IntKind.i64 (x0 + (1 : Int))]) ([[(1, false, Blk.cols mo [Col.bool to]),
 (0, false,
 Blk.cols mr
 [Col.int IntKind.i64 tr, Col.int IntKind.i64 vr, Col.int IntKind.i64 gr]),
 (2, true,
 Blk.cells
 [PV.loose (PA.mk (0) (3) ar (0)) nr,
 PV.loose (PA.mk (1) (1) ao (0)) no])]]) (4))
 (False)))))
 (Kret (PV.int IntKind.i64 (6 : Int)) ([[(1, false, Blk.cols mo [Col.bool to]),
 (0, false,
 Blk.cols mr
 [Col.int IntKind.i64 tr, Col.int IntKind.i64 vr, Col.int IntKind.i64 gr])]]) (4)))
 (Kret (PV.int IntKind.i64 (6 : Int)) ([[(1, false, Blk.cols mo [Col.bool to]),
 (0, false,
 Blk.cols mr
 [Col.int IntKind.i64 tr, Col.int IntKind.i64 vr, Col.int IntKind.i64 gr])]]) (4)))
 (Kret (PV.int IntKind.i64 (6 : Int)) ([[(1, false, Blk.cols mo [Col.bool to]),
 (0, false,
 Blk.cols mr
 [Col.int IntKind.i64 tr, Col.int IntKind.i64 vr, Col.int IntKind.i64 gr])]]) (4)))
 (Kret (PV.int IntKind.i64 (6 : Int)) ([[(1, false, Blk.cols mo [Col.bool to]),
 (0, false,
 Blk.cols mr
 [Col.int IntKind.i64 tr, Col.int IntKind.i64 vr, Col.int IntKind.i64 gr])]]) (4)))
 (False))
 (False))
 (False))
 (False))
 (test ((↑no : Int) != (↑nr : Int))
 (Kret (PV.int IntKind.i64 (1 : Int)) ([[(1, false, Blk.cols mo [Col.bool to]),
 (0, false,
 Blk.cols mr
 [Col.int IntKind.i64 tr, Col.int IntKind.i64 vr, Col.int IntKind.i64 gr])]]) (3))
 (Kret (PV.int IntKind.i64 (0 : Int)) ([[(1, false, Blk.cols mo [Col.bool to]),
 (0, false,
 Blk.cols mr
 [Col.int IntKind.i64 tr, Col.int IntKind.i64 vr, Col.int IntKind.i64 gr])]]) (3)))
theorem t21_0 (test : Bool → Prop → Prop → Prop) (Kst : KS) (Kret : KR) (ar nr mr : Nat) (tr : Nat → Int) (vr : Nat → Int) (gr : Nat → Int) (ao no mo : Nat) (to : Nat → Bool) (x0 : Int) : run test Try.env true noX true 400 ⟨10, hd Try.f10 0, zipT [1, 14, 15, 16] [PV.ptr (PA.mk (2) (0) (0) (0)),
 PV.loose (PA.mk (0) (3) ar (0)) nr, PV.int IntKind.i64 (↑nr : Int),
 PV.int IntKind.i64 x0], [[(2, (true, Blk.cells
 [PV.loose (PA.mk (0) (3) ar (0)) nr,
 PV.loose (PA.mk (1) (1) ao (0)) no]))], [(0, (false, .cols mr [.int .i64 tr, .int .i64 vr, .int .i64 gr])), (1, (false, .cols mo [.bool to]))]], 3⟩ (proj 2 [1, 14, 15, 16] Kst Kret) =
  T21_0 test Kst Kret ar nr mr tr vr gr ao no mo to x0 := by kernel_rfl
theorem be21 (ar nr mr : Nat) (tr : Nat → Int) (vr : Nat → Int) (gr : Nat → Int) (ao no mo : Nat) (to : Nat → Bool) (Kst : KS) (Kret : KR) (x : St21 ⊕ Rt21) (hS : HS 2 400 ((I21 ar nr mr tr vr gr ao no mo to)) Kst x) (hR : HR 2 400 ((V21 ar nr mr tr vr gr ao no mo to)) (fun r => [newL (2 + 1) ((N21 ar nr mr tr vr gr ao no mo to) r) ++ [(0, (false, .cols mr [.int .i64 tr, .int .i64 vr, .int .i64 gr])), (1, (false, .cols mo [.bool to]))]]) Kret x) (h : (bif ((↑nr : Int) == (0 : Int))
 then (some (.inr ((7 : Int))))
 else (bif (decide ((↑nr : Int) > (40 : Int)))
 then (some (.inr ((3 : Int))))
 else (some (.inl (.h0 ((0 : Int)))))) : Option (St21 ⊕ Rt21)) = some x) : Te21 cond Kst Kret ar nr mr tr vr gr ao no mo to := by
  unfold Te21
  exact bif_split h
   (fun c0 h => ret_at hR _ h (fun n => n) rfl rfl rfl (rn_int rfl) rfl (entl_bor (use_lo rfl) rfl rfl (entl_bor (use_lo rfl) rfl rfl entl_nil)))
   (fun c0 h => bif_split h
   (fun c1 h => ret_at hR _ h (fun n => n) rfl rfl rfl (rn_int rfl) rfl (entl_bor (use_lo rfl) rfl rfl (entl_bor (use_lo rfl) rfl rfl entl_nil)))
   (fun c1 h => stop_at hS _ h (fun n => bif Nat.beq n 2 then 2 else n) rfl rfl rfl ⟨(rn_ptr (use_own rfl) rfl rfl), ⟨(rn_loose (use_lo rfl) rfl rfl rfl), ⟨(rn_int rfl), ⟨(rn_int rfl), trivial⟩⟩⟩⟩ rfl (entl_b (use_own rfl) rfl (by simp) (rb_cells ⟨(rn_loose (use_lo rfl) rfl rfl rfl), (rn_loose (use_lo rfl) rfl rfl rfl), trivial⟩) (entl_bor (use_lo rfl) rfl rfl (entl_bor (use_lo rfl) rfl rfl entl_nil)))))
theorem b21_0 (ar nr mr : Nat) (tr : Nat → Int) (vr : Nat → Int) (gr : Nat → Int) (ao no mo : Nat) (to : Nat → Bool) (Kst : KS) (Kret : KR) (x : St21 ⊕ Rt21) (hS : HS 2 400 ((I21 ar nr mr tr vr gr ao no mo to)) Kst x) (hR : HR 2 400 ((V21 ar nr mr tr vr gr ao no mo to)) (fun r => [newL (2 + 1) ((N21 ar nr mr tr vr gr ao no mo to) r) ++ [(0, (false, .cols mr [.int .i64 tr, .int .i64 vr, .int .i64 gr])), (1, (false, .cols mo [.bool to]))]]) Kret x) (x0 : Int) (h : (bif (decide (x0 < (↑nr : Int)))
 then (bif (decide ((0 : Int) ≤ x0 ∧ x0 < (↑nr : Int)))
 then (bif (decide (Int.toNat x0 + ar < mr))
 then (bif (decide (tr (Int.toNat x0 + ar) ≥ (-1099511627776 : Int)))
 then (bif (decide (tr (Int.toNat x0 + ar) ≤ (1099511627776 : Int)))
 then (bif (decide (vr (Int.toNat x0 + ar) ≥ (-1099511627776 : Int)))
 then (bif (decide (vr (Int.toNat x0 + ar) ≤ (1099511627776 : Int)))
 then (bif (decide (gr (Int.toNat x0 + ar) < (1 : Int)))
 then (some (.inr ((6 : Int))))
 else (bif (decide (gr (Int.toNat x0 + ar) > (1073741824 : Int)))
 then (some (.inr ((6 : Int))))
 else (bif (decide (tr (Int.toNat x0 + ar) ≤ vr (Int.toNat x0 + ar)))
 then (some (.inr ((15 : Int))))
 else (bif (lim IntKind.i64 (x0 + (1 : Int)))
 then (some (.inl (.h0 (x0 + (1 : Int)))))
 else (none)))))
 else (some (.inr ((6 : Int)))))
 else (some (.inr ((6 : Int)))))
 else (some (.inr ((6 : Int)))))
 else (some (.inr ((6 : Int)))))
 else (none))
 else (none))
 else (bif ((↑no : Int) != (↑nr : Int))
 then (some (.inr ((1 : Int))))
 else (some (.inr ((0 : Int))))) : Option (St21 ⊕ Rt21)) = some x) : T21_0 cond Kst Kret ar nr mr tr vr gr ao no mo to x0 := by
  unfold T21_0
  exact bif_split h
   (fun c0 h => bif_split h
   (fun c1 h => bif_split h
   (fun c2 h => cond_yes c2 (cond_yes c2 (bif_split h
   (fun c3 h => bif_split h
   (fun c4 h => bif_split h
   (fun c5 h => bif_split h
   (fun c6 h => bif_split h
   (fun c7 h => ret_at hR _ h (fun n => n) rfl rfl rfl (rn_int rfl) rfl (entl_bor (use_lo rfl) rfl rfl (entl_bor (use_lo rfl) rfl rfl entl_nil)))
   (fun c7 h => bif_split h
   (fun c8 h => ret_at hR _ h (fun n => n) rfl rfl rfl (rn_int rfl) rfl (entl_bor (use_lo rfl) rfl rfl (entl_bor (use_lo rfl) rfl rfl entl_nil)))
   (fun c8 h => bif_split h
   (fun c9 h => ret_at hR _ h (fun n => n) rfl rfl rfl (rn_int rfl) rfl (entl_bor (use_lo rfl) rfl rfl (entl_bor (use_lo rfl) rfl rfl entl_nil)))
   (fun c9 h => bif_split h
   (fun c10 h => stop_at hS _ h (fun n => bif Nat.beq n 2 then 2 else n) rfl rfl rfl ⟨(rn_ptr (use_own rfl) rfl rfl), ⟨(rn_loose (use_lo rfl) rfl rfl rfl), ⟨(rn_int rfl), ⟨(rn_int rfl), trivial⟩⟩⟩⟩ rfl (entl_b (use_own rfl) rfl (by simp) (rb_cells ⟨(rn_loose (use_lo rfl) rfl rfl rfl), (rn_loose (use_lo rfl) rfl rfl rfl), trivial⟩) (entl_bor (use_lo rfl) rfl rfl (entl_bor (use_lo rfl) rfl rfl entl_nil))))
   (fun c10 h => no_some h)))))
   (fun c6 h => ret_at hR _ h (fun n => n) rfl rfl rfl (rn_int rfl) rfl (entl_bor (use_lo rfl) rfl rfl (entl_bor (use_lo rfl) rfl rfl entl_nil))))
   (fun c5 h => ret_at hR _ h (fun n => n) rfl rfl rfl (rn_int rfl) rfl (entl_bor (use_lo rfl) rfl rfl (entl_bor (use_lo rfl) rfl rfl entl_nil))))
   (fun c4 h => ret_at hR _ h (fun n => n) rfl rfl rfl (rn_int rfl) rfl (entl_bor (use_lo rfl) rfl rfl (entl_bor (use_lo rfl) rfl rfl entl_nil))))
   (fun c3 h => ret_at hR _ h (fun n => n) rfl rfl rfl (rn_int rfl) rfl (entl_bor (use_lo rfl) rfl rfl (entl_bor (use_lo rfl) rfl rfl entl_nil))))))
   (fun c2 h => no_some h))
   (fun c1 h => no_some h))
   (fun c0 h => bif_split h
   (fun c1 h => ret_at hR _ h (fun n => n) rfl rfl rfl (rn_int rfl) rfl (entl_bor (use_lo rfl) rfl rfl (entl_bor (use_lo rfl) rfl rfl entl_nil)))
   (fun c1 h => ret_at hR _ h (fun n => n) rfl rfl rfl (rn_int rfl) rfl (entl_bor (use_lo rfl) rfl rfl (entl_bor (use_lo rfl) rfl rfl entl_nil))))
theorem a21 (ar nr mr : Nat) (tr : Nat → Int) (vr : Nat → Int) (gr : Nat → Int) (ao no mo : Nat) (to : Nat → Bool) {r : Rt21} (h : Goes ((q21 ar nr mr tr vr gr ao no mo to)) ((p21 ar nr mr tr vr gr ao no mo to)) r) : CallR Try.prog 10 [.agg [.loose ⟨0, 3, ar, 0⟩ nr, .loose ⟨1, 1, ao, 0⟩ no]] [[(0, (false, .cols mr [.int .i64 tr, .int .i64 vr, .int .i64 gr])), (1, (false, .cols mo [.bool to]))]] 2 ((V21 ar nr mr tr vr gr ao no mo to) r) ((fun r => [newL (2 + 1) ((N21 ar nr mr tr vr gr ao no mo to) r) ++ [(0, (false, .cols mr [.int .i64 tr, .int .i64 vr, .int .i64 gr])), (1, (false, .cols mo [.bool to]))]]) r) 400 ∧ ∃ F, Try.prog.funcs[10]? = some F ∧ F.body.isSome = true ∧ (F.name == "runtime.NumGoroutine") = false := by
  refine dec_calls (f := 10) (lo := 2) (hi := 400) (H := [[(0, (false, .cols mr [.int .i64 tr, .int .i64 vr, .int .i64 gr])), (1, (false, .cols mo [.bool to]))]]) (args := [.agg [.loose ⟨0, 3, ar, 0⟩ nr, .loose ⟨1, 1, ao, 0⟩ no]]) Try.envOk Try.mixed noX_ok ((I21 ar nr mr tr vr gr ao no mo to)) ((V21 ar nr mr tr vr gr ao no mo to)) (fun r => [newL (2 + 1) ((N21 ar nr mr tr vr gr ao no mo to) r) ++ [(0, (false, .cols mr [.int .i64 tr, .int .i64 vr, .int .i64 gr])), (1, (false, .cols mo [.bool to]))]]) (fn := mkFn Try.f10) (ts := [1, 14, 15, 16]) (n := 400) rfl (by decide) (by simp) (names_of rfl) ?_ ?_ ?_ h
  · intro s; cases s <;> exact ⟨hd_ok _ _, by simp [I21], names_of rfl, Nat.le_of_ble_eq_true rfl⟩
  · intro Kst Kret x hS hR h
    exact Holds.eq (te21 cond Kst Kret ar nr mr tr vr gr ao no mo to) (be21 ar nr mr tr vr gr ao no mo to Kst Kret x hS hR h)
  · intro Kst Kret x hS hR s h
    cases s with
    | h0 x0 => exact Holds.eq (t21_0 cond Kst Kret ar nr mr tr vr gr ao no mo to x0) (b21_0 ar nr mr tr vr gr ao no mo to Kst Kret x hS hR x0 h)
noncomputable def k21 : Con := ⟨10, [.agg [.list [.int .i64, .int .i64, .int .i64], .list [.bool]]], fun (x : ((Nat × Nat × Nat × (Nat → Int) × (Nat → Int) × (Nat → Int) × Unit) × (Nat × Nat × Nat × (Nat → Bool) × Unit) × Unit) × Unit) => (fun (ar nr mr : Nat) (tr : Nat → Int) (vr : Nat → Int) (gr : Nat → Int) (ao no mo : Nat) (to : Nat → Bool) => decide (ar + nr ≤ mr ∧ nr ≤ 1000000)) x.1.1.1 x.1.1.2.1 x.1.1.2.2.1 x.1.1.2.2.2.1 x.1.1.2.2.2.2.1 x.1.1.2.2.2.2.2.1 x.1.2.1.1 x.1.2.1.2.1 x.1.2.1.2.2.1 x.1.2.1.2.2.2.1, fun (x : ((Nat × Nat × Nat × (Nat → Int) × (Nat → Int) × (Nat → Int) × Unit) × (Nat × Nat × Nat × (Nat → Bool) × Unit) × Unit) × Unit) => (fun (ar nr mr : Nat) (tr : Nat → Int) (vr : Nat → Int) (gr : Nat → Int) (ao no mo : Nat) (to : Nat → Bool) => (V21 ar nr mr tr vr gr ao no mo to) (S.magE nr (fun j => tr (j + ar)) (fun j => vr (j + ar)) (fun j => gr (j + ar)) no)) x.1.1.1 x.1.1.2.1 x.1.1.2.2.1 x.1.1.2.2.2.1 x.1.1.2.2.2.2.1 x.1.1.2.2.2.2.2.1 x.1.2.1.1 x.1.2.1.2.1 x.1.2.1.2.2.1 x.1.2.1.2.2.2.1, fun (x : ((Nat × Nat × Nat × (Nat → Int) × (Nat → Int) × (Nat → Int) × Unit) × (Nat × Nat × Nat × (Nat → Bool) × Unit) × Unit) × Unit) => (fun (ar nr mr : Nat) (tr : Nat → Int) (vr : Nat → Int) (gr : Nat → Int) (ao no mo : Nat) (to : Nat → Bool) => (N21 ar nr mr tr vr gr ao no mo to) (S.magE nr (fun j => tr (j + ar)) (fun j => vr (j + ar)) (fun j => gr (j + ar)) no)) x.1.1.1 x.1.1.2.1 x.1.1.2.2.1 x.1.1.2.2.2.1 x.1.1.2.2.2.2.1 x.1.1.2.2.2.2.2.1 x.1.2.1.1 x.1.2.1.2.1 x.1.2.1.2.2.1 x.1.2.1.2.2.2.1, fun _ _ => .dead⟩
theorem s21' (ar nr mr : Nat) (tr : Nat → Int) (vr : Nat → Int) (gr : Nat → Int) (ao no mo : Nat) (to : Nat → Bool) (hp : ar + nr ≤ mr ∧ nr ≤ 1000000) : ∀ k i : Nat, i + k = nr → Comes (q21 ar nr mr tr vr gr ao no mo to) (.h0 (i : Int)) (S.relE (if no = nr then 0 else 1) (fun j => tr (j + ar)) (fun j => vr (j + ar)) (fun j => gr (j + ar)) i k) := by
  obtain ⟨hp1, hp2⟩ := hp
  intro k
  induction k with
  | zero =>
    intro i hi
    apply Comes.of
    show Goes _ _ _
    (first | rw [q21] | unfold q21)
    repeat' first
      | with_reducible refine goes_if (fun h => ?_) (fun h => ?_) <;> (try simp only [lim64, imp_false, decide_eq_true_eq, decide_eq_false_iff_not, Int.toNat_natCast, toNat_pred, toNat_succ, Option.getD_some, Option.getD_none, Bool.not_eq_true', Bool.not_eq_false', Bool.and_eq_true, Bool.or_eq_true, Bool.and_eq_false_iff, Bool.or_eq_false_iff, bne_iff_ne, beq_iff_eq, bne_eq_false_iff_eq, beq_eq_false_iff_ne, ne_eq, not_and, Int.not_le, Int.not_lt, ge_iff_le, gt_iff_lt, Nat.not_lt, Nat.not_le, Bool.not_eq_true, Bool.not_eq_false, Bool.true_eq_false, Bool.false_eq_true, not_false_eq_true, not_true_eq_false] at h)
      | exact goes_none.mpr (by omega)
    all_goals first | (exfalso; omega) | rfl | (refine Eq.mpr (congrArg (Comes _ _) ?_) True; simp only [S.relE, S.okR, decide_eq_true_eq]; (repeat' split) <;> first | rfl | omega | (exfalso; omega) | (exfalso; simp_all; done) | (exfalso; simp_all; omega) | simp_all) | (refine goes_inr.mpr ?_; simp only [S.relE, S.okR, decide_eq_true_eq]; (repeat' split) <;> first | rfl | omega | (exfalso; omega) | (exfalso; simp_all; done) | (exfalso; simp_all; omega) | simp_all)
  | succ k ih =>
    intro i hi
    have ih := ih (i + 1) (by omega)
    apply Comes.of
    show Goes _ _ _
    (first | rw [q21] | unfold q21)
    repeat' first
      | with_reducible refine goes_if (fun h => ?_) (fun h => ?_) <;> (try simp only [lim64, imp_false, decide_eq_true_eq, decide_eq_false_iff_not, Int.toNat_natCast, toNat_pred, toNat_succ, Option.getD_some, Option.getD_none, Bool.not_eq_true', Bool.not_eq_false', Bool.and_eq_true, Bool.or_eq_true, Bool.and_eq_false_iff, Bool.or_eq_false_iff, bne_iff_ne, beq_iff_eq, bne_eq_false_iff_eq, beq_eq_false_iff_ne, ne_eq, not_and, Int.not_le, Int.not_lt, ge_iff_le, gt_iff_lt, Nat.not_lt, Nat.not_le, Bool.not_eq_true, Bool.not_eq_false, Bool.true_eq_false, Bool.false_eq_true, not_false_eq_true, not_true_eq_false] at h)
      | exact goes_none.mpr (by omega)
    all_goals first | (exfalso; omega) | rfl | (refine Eq.mpr (congrArg (Comes _ _) ?_) ih; simp only [S.relE, S.okR, decide_eq_true_eq]; (repeat' split) <;> first | rfl | omega | (exfalso; omega) | (exfalso; simp_all; done) | (exfalso; simp_all; omega) | simp_all) | (refine goes_inr.mpr ?_; simp only [S.relE, S.okR, decide_eq_true_eq]; (repeat' split) <;> first | rfl | omega | (exfalso; omega) | (exfalso; simp_all; done) | (exfalso; simp_all; omega) | simp_all)
theorem s21 (ar nr mr : Nat) (tr : Nat → Int) (vr : Nat → Int) (gr : Nat → Int) (ao no mo : Nat) (to : Nat → Bool) (hp : ar + nr ≤ mr ∧ nr ≤ 1000000) : Goes ((q21 ar nr mr tr vr gr ao no mo to)) ((p21 ar nr mr tr vr gr ao no mo to)) (S.magE nr (fun j => tr (j + ar)) (fun j => vr (j + ar)) (fun j => gr (j + ar)) no) := by
  have hm := s21' ar nr mr tr vr gr ao no mo to hp nr 0 (by omega)
  obtain ⟨hp1, hp2⟩ := hp
  unfold S.magE
  show Goes _ _ _
  unfold p21
  repeat' first
    | with_reducible refine goes_if (fun h => ?_) (fun h => ?_) <;> (try simp only [lim64, imp_false, decide_eq_true_eq, decide_eq_false_iff_not, Int.toNat_natCast, toNat_pred, toNat_succ, Option.getD_some, Option.getD_none, Bool.not_eq_true', Bool.not_eq_false', Bool.and_eq_true, Bool.or_eq_true, Bool.and_eq_false_iff, Bool.or_eq_false_iff, bne_iff_ne, beq_iff_eq, bne_eq_false_iff_eq, beq_eq_false_iff_ne, ne_eq, not_and, Int.not_le, Int.not_lt, ge_iff_le, gt_iff_lt, Nat.not_lt, Nat.not_le, Bool.not_eq_true, Bool.not_eq_false, Bool.true_eq_false, Bool.false_eq_true, not_false_eq_true, not_true_eq_false] at h)
    | exact goes_none.mpr (by omega)
  all_goals first | (exfalso; omega) | (refine goes_inr.mpr ?_; (repeat' split) <;> first | rfl | omega) | (rw [if_neg (by omega), if_neg (by omega)]; exact hm)
theorem k21_ok : k21.ok Try.prog := by
  intro x hx
  obtain ⟨⟨⟨ar, nr, mr, tr, vr, gr, _⟩, ⟨ao, no, mo, to, _⟩, _⟩, _⟩ := x
  obtain ⟨h1, h2⟩ := a21 ar nr mr tr vr gr ao no mo to (s21 ar nr mr tr vr gr ao no mo to (of_dec hx rfl))
  exact ⟨⟨400, (by decide : 2 + 1 + 0 ≤ 400), h1⟩, h2⟩
namespace S
def inE (t : Nat → Int) : Nat → Nat → Int
  | _, 0 => 0
  | i, k + 1 => if -1099511627776 ≤ t i ∧ t i ≤ 1099511627776 then inE t (i + 1) k else 6
def histE (n : Nat) (u d w : Nat → Int) (no : Nat) (nl : Nat) (t : Nat → Int) : Int := if magE n u d w no = 0 then (if 1000 < nl then 3 else inE t 0 nl) else magE n u d w no
def aft (u d : Int) (o : Bool) (x : Int) : Bool := bif decide (x ≥ u) then true else bif decide (x ≤ d) then false else o
end S
noncomputable def xA (test : Bool → Prop → Prop → Prop) : Ext := consX test [k21, k37, k38]
theorem xA_ok : ExtOk Try.prog (xA cond) := consX_ok ⟨k21_ok, k37_ok, k38_ok, trivial⟩
inductive St42 where
  | h0 (x0 : Int)
abbrev Rt42 := Int
noncomputable def V42 (ar nr mr : Nat) (tr : Nat → Int) (vr : Nat → Int) (gr : Nat → Int) (ao no mo : Nat) (to : Nat → Bool) (al nl ml : Nat) (tl : Nat → Int) (r : Rt42) : PV := PV.int IntKind.i64 r
noncomputable def N42 (ar nr mr : Nat) (tr : Nat → Int) (vr : Nat → Int) (gr : Nat → Int) (ao no mo : Nat) (to : Nat → Bool) (al nl ml : Nat) (tl : Nat → Int) (r : Rt42) : List Blk := []
noncomputable def I42 (ar nr mr : Nat) (tr : Nat → Int) (vr : Nat → Int) (gr : Nat → Int) (ao no mo : Nat) (to : Nat → Bool) (al nl ml : Nat) (tl : Nat → Int) : St42 → Hd
  | .h0 x0 => ⟨hd Try.f28 0, [PV.loose (PA.mk (2) (1) al (0)) nl, PV.int IntKind.i64 (↑nl : Int),
 PV.int IntKind.i64 x0], [[], [(0, (false, .cols mr [.int .i64 tr, .int .i64 vr, .int .i64 gr])), (1, (false, .cols mo [.bool to])), (2, (false, .cols ml [.int .i64 tl]))]], 3⟩
noncomputable def q42 (ar nr mr : Nat) (tr : Nat → Int) (vr : Nat → Int) (gr : Nat → Int) (ao no mo : Nat) (to : Nat → Bool) (al nl ml : Nat) (tl : Nat → Int) : St42 → Option (St42 ⊕ Rt42)
  | .h0 x0 => bif (decide (x0 < (↑nl : Int)))
 then (bif (decide ((0 : Int) ≤ x0 ∧ x0 < (↑nl : Int)))
 then (bif (decide (Int.toNat x0 + al < ml))
 then (bif (decide (tl (Int.toNat x0 + al) ≥ (-1099511627776 : Int)))
 then (bif (decide (tl (Int.toNat x0 + al) ≤ (1099511627776 : Int)))
 then (bif (lim IntKind.i64 (x0 + (1 : Int)))
 then (some (.inl (.h0 (x0 + (1 : Int)))))
 else (none))
 else (some (.inr ((6 : Int)))))
 else (some (.inr ((6 : Int)))))
 else (none))
 else (none))
 else (some (.inr ((0 : Int))))
noncomputable def p42 (ar nr mr : Nat) (tr : Nat → Int) (vr : Nat → Int) (gr : Nat → Int) (ao no mo : Nat) (to : Nat → Bool) (al nl ml : Nat) (tl : Nat → Int) : Option (St42 ⊕ Rt42) := bif (decide (ar + nr ≤ mr ∧ nr ≤ 1000000))
 then (bif (S.magE nr (fun j => tr (j + ar)) (fun j => vr (j + ar)) (fun j => gr (j + ar)) no !=
 (0 : Int))
 then (some (.inr (S.magE nr (fun j => tr (j + ar)) (fun j => vr (j + ar)) (fun j => gr (j + ar)) no)))
 else (bif (decide ((↑nl : Int) > (1000 : Int)))
 then (some (.inr ((3 : Int))))
 else (some (.inl (.h0 ((0 : Int)))))))
 else (none)
noncomputable def Te42 (test : Bool → Prop → Prop → Prop) (Kst : KS) (Kret : KR) (ar nr mr : Nat) (tr : Nat → Int) (vr : Nat → Int) (gr : Nat → Int) (ao no mo : Nat) (to : Nat → Bool) (al nl ml : Nat) (tl : Nat → Int) : Prop :=
  test (decide (ar + nr ≤ mr ∧ nr ≤ 1000000))
 (test (S.magE nr (fun j => tr (j + ar)) (fun j => vr (j + ar)) (fun j => gr (j + ar)) no !=
 (0 : Int))
 (Kret (PV.int IntKind.i64
 (S.magE nr (fun j => tr (j + ar)) (fun j => vr (j + ar)) (fun j => gr (j + ar)) no)) ([[(2, false, Blk.cols ml [Col.int IntKind.i64 tl]),
 (1, false, Blk.cols mo [Col.bool to]),
 (0, false,
 Blk.cols mr
 [Col.int IntKind.i64 tr, Col.int IntKind.i64 vr, Col.int IntKind.i64 gr])]]) (5))
 (test (decide ((↑nl : Int) > (1000 : Int)))
 (Kret (PV.int IntKind.i64 (3 : Int)) ([[(2, false, Blk.cols ml [Col.int IntKind.i64 tl]),
 (1, false, Blk.cols mo [Col.bool to]),
 (0, false,
 Blk.cols mr
 [Col.int IntKind.i64 tr, Col.int IntKind.i64 vr, Col.int IntKind.i64 gr])]]) (5))
 (Kst (hd Try.f28 0) ([PV.loose (PA.mk (2) (1) al (0)) nl, PV.int IntKind.i64 (↑nl : Int),
 PV.int IntKind.i64 (0 : Int)]) ([[(2, false, Blk.cols ml [Col.int IntKind.i64 tl]),
 (1, false, Blk.cols mo [Col.bool to]),
 (0, false,
 Blk.cols mr
 [Col.int IntKind.i64 tr, Col.int IntKind.i64 vr, Col.int IntKind.i64 gr])]]) (5))))
 (False)
theorem te42 (test : Bool → Prop → Prop → Prop) (Kst : KS) (Kret : KR) (ar nr mr : Nat) (tr : Nat → Int) (vr : Nat → Int) (gr : Nat → Int) (ao no mo : Nat) (to : Nat → Bool) (al nl ml : Nat) (tl : Nat → Int) : run test Try.env true (xA test) true 400 ⟨28, [.cd (mkFn Try.f28).body], argT 0 [.agg [.loose ⟨0, 3, ar, 0⟩ nr, .loose ⟨1, 1, ao, 0⟩ no], .loose ⟨2, 1, al, 0⟩ nl], [[], [(0, (false, .cols mr [.int .i64 tr, .int .i64 vr, .int .i64 gr])), (1, (false, .cols mo [.bool to])), (2, (false, .cols ml [.int .i64 tl]))]], 3⟩ (proj 3 [16, 17, 18] Kst Kret) =
  Te42 test Kst Kret ar nr mr tr vr gr ao no mo to al nl ml tl := by kernel_rfl
noncomputable def T42_0 (test : Bool → Prop → Prop → Prop) (Kst : KS) (Kret : KR) (ar nr mr : Nat) (tr : Nat → Int) (vr : Nat → Int) (gr : Nat → Int) (ao no mo : Nat) (to : Nat → Bool) (al nl ml : Nat) (tl : Nat → Int) (x0 : Int) : Prop :=
  test (decide (x0 < (↑nl : Int)))
 (test (decide ((0 : Int) ≤ x0 ∧ x0 < (↑nl : Int)))
 (test (decide (Int.toNat x0 + al < ml))
 (test (decide (tl (Int.toNat x0 + al) ≥ (-1099511627776 : Int)))
 (test (decide (tl (Int.toNat x0 + al) ≤ (1099511627776 : Int)))
 (test (lim IntKind.i64 (x0 + (1 : Int)))
 (Kst (hd Try.f28 0) ([PV.loose (PA.mk (2) (1) al (0)) nl, PV.int IntKind.i64 (↑nl : Int),
 PV.int IntKind.i64 (x0 + (1 : Int))]) ([[(2, false, Blk.cols ml [Col.int IntKind.i64 tl]),
 (1, false, Blk.cols mo [Col.bool to]),
 (0, false,
 Blk.cols mr
 [Col.int IntKind.i64 tr, Col.int IntKind.i64 vr, Col.int IntKind.i64 gr])]]) (3))
 (False))
 (Kret (PV.int IntKind.i64 (6 : Int)) ([[(2, false, Blk.cols ml [Col.int IntKind.i64 tl]),
 (1, false, Blk.cols mo [Col.bool to]),
 (0, false,
 Blk.cols mr
 [Col.int IntKind.i64 tr, Col.int IntKind.i64 vr, Col.int IntKind.i64 gr])]]) (3)))
 (Kret (PV.int IntKind.i64 (6 : Int)) ([[(2, false, Blk.cols ml [Col.int IntKind.i64 tl]),
 (1, false, Blk.cols mo [Col.bool to]),
 (0, false,
 Blk.cols mr
 [Col.int IntKind.i64 tr, Col.int IntKind.i64 vr, Col.int IntKind.i64 gr])]]) (3)))
 (False))
 (False))
 (Kret (PV.int IntKind.i64 (0 : Int)) ([[(2, false, Blk.cols ml [Col.int IntKind.i64 tl]),
 (1, false, Blk.cols mo [Col.bool to]),
 (0, false,
 Blk.cols mr
 [Col.int IntKind.i64 tr, Col.int IntKind.i64 vr, Col.int IntKind.i64 gr])]]) (3))
theorem t42_0 (test : Bool → Prop → Prop → Prop) (Kst : KS) (Kret : KR) (ar nr mr : Nat) (tr : Nat → Int) (vr : Nat → Int) (gr : Nat → Int) (ao no mo : Nat) (to : Nat → Bool) (al nl ml : Nat) (tl : Nat → Int) (x0 : Int) : run test Try.env true (xA test) true 400 ⟨28, hd Try.f28 0, zipT [16, 17, 18] [PV.loose (PA.mk (2) (1) al (0)) nl, PV.int IntKind.i64 (↑nl : Int),
 PV.int IntKind.i64 x0], [[], [(0, (false, .cols mr [.int .i64 tr, .int .i64 vr, .int .i64 gr])), (1, (false, .cols mo [.bool to])), (2, (false, .cols ml [.int .i64 tl]))]], 3⟩ (proj 3 [16, 17, 18] Kst Kret) =
  T42_0 test Kst Kret ar nr mr tr vr gr ao no mo to al nl ml tl x0 := by kernel_rfl
theorem be42 (ar nr mr : Nat) (tr : Nat → Int) (vr : Nat → Int) (gr : Nat → Int) (ao no mo : Nat) (to : Nat → Bool) (al nl ml : Nat) (tl : Nat → Int) (Kst : KS) (Kret : KR) (x : St42 ⊕ Rt42) (hS : HS 3 400 ((I42 ar nr mr tr vr gr ao no mo to al nl ml tl)) Kst x) (hR : HR 3 400 ((V42 ar nr mr tr vr gr ao no mo to al nl ml tl)) (fun r => [newL (3 + 1) ((N42 ar nr mr tr vr gr ao no mo to al nl ml tl) r) ++ [(0, (false, .cols mr [.int .i64 tr, .int .i64 vr, .int .i64 gr])), (1, (false, .cols mo [.bool to])), (2, (false, .cols ml [.int .i64 tl]))]]) Kret x) (h : (bif (decide (ar + nr ≤ mr ∧ nr ≤ 1000000))
 then (bif (S.magE nr (fun j => tr (j + ar)) (fun j => vr (j + ar)) (fun j => gr (j + ar)) no !=
 (0 : Int))
 then (some (.inr (S.magE nr (fun j => tr (j + ar)) (fun j => vr (j + ar)) (fun j => gr (j + ar)) no)))
 else (bif (decide ((↑nl : Int) > (1000 : Int)))
 then (some (.inr ((3 : Int))))
 else (some (.inl (.h0 ((0 : Int)))))))
 else (none) : Option (St42 ⊕ Rt42)) = some x) : Te42 cond Kst Kret ar nr mr tr vr gr ao no mo to al nl ml tl := by
  unfold Te42
  exact bif_split h
   (fun c0 h => bif_split h
   (fun c1 h => ret_at hR _ h (fun n => n) rfl rfl rfl (rn_int rfl) rfl (entl_bor (use_lo rfl) rfl rfl (entl_bor (use_lo rfl) rfl rfl (entl_bor (use_lo rfl) rfl rfl entl_nil))))
   (fun c1 h => bif_split h
   (fun c2 h => ret_at hR _ h (fun n => n) rfl rfl rfl (rn_int rfl) rfl (entl_bor (use_lo rfl) rfl rfl (entl_bor (use_lo rfl) rfl rfl (entl_bor (use_lo rfl) rfl rfl entl_nil))))
   (fun c2 h => stop_at hS _ h (fun n => n) rfl rfl rfl ⟨(rn_loose (use_lo rfl) rfl rfl rfl), ⟨(rn_int rfl), ⟨(rn_int rfl), trivial⟩⟩⟩ rfl (entl_bor (use_lo rfl) rfl rfl (entl_bor (use_lo rfl) rfl rfl (entl_bor (use_lo rfl) rfl rfl entl_nil))))))
   (fun c0 h => no_some h)
theorem b42_0 (ar nr mr : Nat) (tr : Nat → Int) (vr : Nat → Int) (gr : Nat → Int) (ao no mo : Nat) (to : Nat → Bool) (al nl ml : Nat) (tl : Nat → Int) (Kst : KS) (Kret : KR) (x : St42 ⊕ Rt42) (hS : HS 3 400 ((I42 ar nr mr tr vr gr ao no mo to al nl ml tl)) Kst x) (hR : HR 3 400 ((V42 ar nr mr tr vr gr ao no mo to al nl ml tl)) (fun r => [newL (3 + 1) ((N42 ar nr mr tr vr gr ao no mo to al nl ml tl) r) ++ [(0, (false, .cols mr [.int .i64 tr, .int .i64 vr, .int .i64 gr])), (1, (false, .cols mo [.bool to])), (2, (false, .cols ml [.int .i64 tl]))]]) Kret x) (x0 : Int) (h : (bif (decide (x0 < (↑nl : Int)))
 then (bif (decide ((0 : Int) ≤ x0 ∧ x0 < (↑nl : Int)))
 then (bif (decide (Int.toNat x0 + al < ml))
 then (bif (decide (tl (Int.toNat x0 + al) ≥ (-1099511627776 : Int)))
 then (bif (decide (tl (Int.toNat x0 + al) ≤ (1099511627776 : Int)))
 then (bif (lim IntKind.i64 (x0 + (1 : Int)))
 then (some (.inl (.h0 (x0 + (1 : Int)))))
 else (none))
 else (some (.inr ((6 : Int)))))
 else (some (.inr ((6 : Int)))))
 else (none))
 else (none))
 else (some (.inr ((0 : Int)))) : Option (St42 ⊕ Rt42)) = some x) : T42_0 cond Kst Kret ar nr mr tr vr gr ao no mo to al nl ml tl x0 := by
  unfold T42_0
  exact bif_split h
   (fun c0 h => bif_split h
   (fun c1 h => bif_split h
   (fun c2 h => bif_split h
   (fun c3 h => bif_split h
   (fun c4 h => bif_split h
   (fun c5 h => stop_at hS _ h (fun n => n) rfl rfl rfl ⟨(rn_loose (use_lo rfl) rfl rfl rfl), ⟨(rn_int rfl), ⟨(rn_int rfl), trivial⟩⟩⟩ rfl (entl_bor (use_lo rfl) rfl rfl (entl_bor (use_lo rfl) rfl rfl (entl_bor (use_lo rfl) rfl rfl entl_nil))))
   (fun c5 h => no_some h))
   (fun c4 h => ret_at hR _ h (fun n => n) rfl rfl rfl (rn_int rfl) rfl (entl_bor (use_lo rfl) rfl rfl (entl_bor (use_lo rfl) rfl rfl (entl_bor (use_lo rfl) rfl rfl entl_nil)))))
   (fun c3 h => ret_at hR _ h (fun n => n) rfl rfl rfl (rn_int rfl) rfl (entl_bor (use_lo rfl) rfl rfl (entl_bor (use_lo rfl) rfl rfl (entl_bor (use_lo rfl) rfl rfl entl_nil)))))
   (fun c2 h => no_some h))
   (fun c1 h => no_some h))
   (fun c0 h => ret_at hR _ h (fun n => n) rfl rfl rfl (rn_int rfl) rfl (entl_bor (use_lo rfl) rfl rfl (entl_bor (use_lo rfl) rfl rfl (entl_bor (use_lo rfl) rfl rfl entl_nil))))
theorem a42 (ar nr mr : Nat) (tr : Nat → Int) (vr : Nat → Int) (gr : Nat → Int) (ao no mo : Nat) (to : Nat → Bool) (al nl ml : Nat) (tl : Nat → Int) {r : Rt42} (h : Goes ((q42 ar nr mr tr vr gr ao no mo to al nl ml tl)) ((p42 ar nr mr tr vr gr ao no mo to al nl ml tl)) r) : CallR Try.prog 28 [.agg [.loose ⟨0, 3, ar, 0⟩ nr, .loose ⟨1, 1, ao, 0⟩ no], .loose ⟨2, 1, al, 0⟩ nl] [[(0, (false, .cols mr [.int .i64 tr, .int .i64 vr, .int .i64 gr])), (1, (false, .cols mo [.bool to])), (2, (false, .cols ml [.int .i64 tl]))]] 3 ((V42 ar nr mr tr vr gr ao no mo to al nl ml tl) r) ((fun r => [newL (3 + 1) ((N42 ar nr mr tr vr gr ao no mo to al nl ml tl) r) ++ [(0, (false, .cols mr [.int .i64 tr, .int .i64 vr, .int .i64 gr])), (1, (false, .cols mo [.bool to])), (2, (false, .cols ml [.int .i64 tl]))]]) r) 400 ∧ ∃ F, Try.prog.funcs[28]? = some F ∧ F.body.isSome = true ∧ (F.name == "runtime.NumGoroutine") = false := by
  refine dec_calls (f := 28) (lo := 3) (hi := 400) (H := [[(0, (false, .cols mr [.int .i64 tr, .int .i64 vr, .int .i64 gr])), (1, (false, .cols mo [.bool to])), (2, (false, .cols ml [.int .i64 tl]))]]) (args := [.agg [.loose ⟨0, 3, ar, 0⟩ nr, .loose ⟨1, 1, ao, 0⟩ no], .loose ⟨2, 1, al, 0⟩ nl]) Try.envOk Try.mixed xA_ok ((I42 ar nr mr tr vr gr ao no mo to al nl ml tl)) ((V42 ar nr mr tr vr gr ao no mo to al nl ml tl)) (fun r => [newL (3 + 1) ((N42 ar nr mr tr vr gr ao no mo to al nl ml tl) r) ++ [(0, (false, .cols mr [.int .i64 tr, .int .i64 vr, .int .i64 gr])), (1, (false, .cols mo [.bool to])), (2, (false, .cols ml [.int .i64 tl]))]]) (fn := mkFn Try.f28) (ts := [16, 17, 18]) (n := 400) rfl (by decide) (by simp) (names_of rfl) ?_ ?_ ?_ h
  · intro s; cases s <;> exact ⟨hd_ok _ _, by simp [I42], names_of rfl, Nat.le_of_ble_eq_true rfl⟩
  · intro Kst Kret x hS hR h
    exact Holds.eq (te42 cond Kst Kret ar nr mr tr vr gr ao no mo to al nl ml tl) (be42 ar nr mr tr vr gr ao no mo to al nl ml tl Kst Kret x hS hR h)
  · intro Kst Kret x hS hR s h
    cases s with
    | h0 x0 => exact Holds.eq (t42_0 cond Kst Kret ar nr mr tr vr gr ao no mo to al nl ml tl x0) (b42_0 ar nr mr tr vr gr ao no mo to al nl ml tl Kst Kret x hS hR x0 h)
noncomputable def k42 : Con := ⟨28, [.agg [.list [.int .i64, .int .i64, .int .i64], .list [.bool]], .one (.list [.int .i64])], fun (x : ((Nat × Nat × Nat × (Nat → Int) × (Nat → Int) × (Nat → Int) × Unit) × (Nat × Nat × Nat × (Nat → Bool) × Unit) × Unit) × (Nat × Nat × Nat × (Nat → Int) × Unit) × Unit) => (fun (ar nr mr : Nat) (tr : Nat → Int) (vr : Nat → Int) (gr : Nat → Int) (ao no mo : Nat) (to : Nat → Bool) (al nl ml : Nat) (tl : Nat → Int) => decide (ar + nr ≤ mr ∧ nr ≤ 1000000 ∧ al + nl ≤ ml ∧ nl ≤ 1000000)) x.1.1.1 x.1.1.2.1 x.1.1.2.2.1 x.1.1.2.2.2.1 x.1.1.2.2.2.2.1 x.1.1.2.2.2.2.2.1 x.1.2.1.1 x.1.2.1.2.1 x.1.2.1.2.2.1 x.1.2.1.2.2.2.1 x.2.1.1 x.2.1.2.1 x.2.1.2.2.1 x.2.1.2.2.2.1, fun (x : ((Nat × Nat × Nat × (Nat → Int) × (Nat → Int) × (Nat → Int) × Unit) × (Nat × Nat × Nat × (Nat → Bool) × Unit) × Unit) × (Nat × Nat × Nat × (Nat → Int) × Unit) × Unit) => (fun (ar nr mr : Nat) (tr : Nat → Int) (vr : Nat → Int) (gr : Nat → Int) (ao no mo : Nat) (to : Nat → Bool) (al nl ml : Nat) (tl : Nat → Int) => (V42 ar nr mr tr vr gr ao no mo to al nl ml tl) (S.histE nr (fun j => tr (j + ar)) (fun j => vr (j + ar)) (fun j => gr (j + ar)) no nl (fun j => tl (j + al)))) x.1.1.1 x.1.1.2.1 x.1.1.2.2.1 x.1.1.2.2.2.1 x.1.1.2.2.2.2.1 x.1.1.2.2.2.2.2.1 x.1.2.1.1 x.1.2.1.2.1 x.1.2.1.2.2.1 x.1.2.1.2.2.2.1 x.2.1.1 x.2.1.2.1 x.2.1.2.2.1 x.2.1.2.2.2.1, fun (x : ((Nat × Nat × Nat × (Nat → Int) × (Nat → Int) × (Nat → Int) × Unit) × (Nat × Nat × Nat × (Nat → Bool) × Unit) × Unit) × (Nat × Nat × Nat × (Nat → Int) × Unit) × Unit) => (fun (ar nr mr : Nat) (tr : Nat → Int) (vr : Nat → Int) (gr : Nat → Int) (ao no mo : Nat) (to : Nat → Bool) (al nl ml : Nat) (tl : Nat → Int) => (N42 ar nr mr tr vr gr ao no mo to al nl ml tl) (S.histE nr (fun j => tr (j + ar)) (fun j => vr (j + ar)) (fun j => gr (j + ar)) no nl (fun j => tl (j + al)))) x.1.1.1 x.1.1.2.1 x.1.1.2.2.1 x.1.1.2.2.2.1 x.1.1.2.2.2.2.1 x.1.1.2.2.2.2.2.1 x.1.2.1.1 x.1.2.1.2.1 x.1.2.1.2.2.1 x.1.2.1.2.2.2.1 x.2.1.1 x.2.1.2.1 x.2.1.2.2.1 x.2.1.2.2.2.1, fun _ _ => .dead⟩
theorem s42' (ar nr mr : Nat) (tr : Nat → Int) (vr : Nat → Int) (gr : Nat → Int) (ao no mo : Nat) (to : Nat → Bool) (al nl ml : Nat) (tl : Nat → Int) (hp : ar + nr ≤ mr ∧ nr ≤ 1000000 ∧ al + nl ≤ ml ∧ nl ≤ 1000000) : ∀ k i : Nat, i + k = nl → Comes (q42 ar nr mr tr vr gr ao no mo to al nl ml tl) (.h0 (i : Int)) (S.inE (fun j => tl (j + al)) i k) := by
  obtain ⟨hp1, hp2, hp3, hp4⟩ := hp
  intro k
  induction k with
  | zero =>
    intro i hi
    apply Comes.of
    show Goes _ _ _
    (first | rw [q42] | unfold q42)
    repeat' first
      | with_reducible refine goes_if (fun h => ?_) (fun h => ?_) <;> (try simp only [lim64, imp_false, decide_eq_true_eq, decide_eq_false_iff_not, Int.toNat_natCast, toNat_pred, toNat_succ, Option.getD_some, Option.getD_none, Bool.not_eq_true', Bool.not_eq_false', Bool.and_eq_true, Bool.or_eq_true, Bool.and_eq_false_iff, Bool.or_eq_false_iff, bne_iff_ne, beq_iff_eq, bne_eq_false_iff_eq, beq_eq_false_iff_ne, ne_eq, not_and, Int.not_le, Int.not_lt, ge_iff_le, gt_iff_lt, Nat.not_lt, Nat.not_le, Bool.not_eq_true, Bool.not_eq_false, Bool.true_eq_false, Bool.false_eq_true, not_false_eq_true, not_true_eq_false] at h)
      | exact goes_none.mpr (by omega)
    all_goals first | (exfalso; omega) | rfl | (refine Eq.mpr (congrArg (Comes _ _) ?_) True; simp only [S.inE]; (repeat' split) <;> first | rfl | omega | (exfalso; omega) | (exfalso; simp_all; done) | (exfalso; simp_all; omega) | simp_all) | (refine goes_inr.mpr ?_; simp only [S.inE]; (repeat' split) <;> first | rfl | omega | (exfalso; omega) | (exfalso; simp_all; done) | (exfalso; simp_all; omega) | simp_all)
  | succ k ih =>
    intro i hi
    have ih := ih (i + 1) (by omega)
    apply Comes.of
    show Goes _ _ _
    (first | rw [q42] | unfold q42)
    repeat' first
      | with_reducible refine goes_if (fun h => ?_) (fun h => ?_) <;> (try simp only [lim64, imp_false, decide_eq_true_eq, decide_eq_false_iff_not, Int.toNat_natCast, toNat_pred, toNat_succ, Option.getD_some, Option.getD_none, Bool.not_eq_true', Bool.not_eq_false', Bool.and_eq_true, Bool.or_eq_true, Bool.and_eq_false_iff, Bool.or_eq_false_iff, bne_iff_ne, beq_iff_eq, bne_eq_false_iff_eq, beq_eq_false_iff_ne, ne_eq, not_and, Int.not_le, Int.not_lt, ge_iff_le, gt_iff_lt, Nat.not_lt, Nat.not_le, Bool.not_eq_true, Bool.not_eq_false, Bool.true_eq_false, Bool.false_eq_true, not_false_eq_true, not_true_eq_false] at h)
      | exact goes_none.mpr (by omega)
    all_goals first | (exfalso; omega) | rfl | (refine Eq.mpr (congrArg (Comes _ _) ?_) ih; simp only [S.inE]; (repeat' split) <;> first | rfl | omega | (exfalso; omega) | (exfalso; simp_all; done) | (exfalso; simp_all; omega) | simp_all) | (refine goes_inr.mpr ?_; simp only [S.inE]; (repeat' split) <;> first | rfl | omega | (exfalso; omega) | (exfalso; simp_all; done) | (exfalso; simp_all; omega) | simp_all)
theorem s42 (ar nr mr : Nat) (tr : Nat → Int) (vr : Nat → Int) (gr : Nat → Int) (ao no mo : Nat) (to : Nat → Bool) (al nl ml : Nat) (tl : Nat → Int) (hp : ar + nr ≤ mr ∧ nr ≤ 1000000 ∧ al + nl ≤ ml ∧ nl ≤ 1000000) : Goes ((q42 ar nr mr tr vr gr ao no mo to al nl ml tl)) ((p42 ar nr mr tr vr gr ao no mo to al nl ml tl)) (S.histE nr (fun j => tr (j + ar)) (fun j => vr (j + ar)) (fun j => gr (j + ar)) no nl (fun j => tl (j + al))) := by
  have hm := s42' ar nr mr tr vr gr ao no mo to al nl ml tl hp nl 0 (by omega)
  obtain ⟨hp1, hp2, hp3, hp4⟩ := hp
  unfold S.histE
  show Goes _ _ _
  unfold p42
  generalize S.magE nr (fun j => tr (j + ar)) (fun j => vr (j + ar)) (fun j => gr (j + ar)) no = e
  repeat' first
    | with_reducible refine goes_if (fun h => ?_) (fun h => ?_) <;> (try simp only [lim64, imp_false, decide_eq_true_eq, decide_eq_false_iff_not, Int.toNat_natCast, toNat_pred, toNat_succ, Option.getD_some, Option.getD_none, Bool.not_eq_true', Bool.not_eq_false', Bool.and_eq_true, Bool.or_eq_true, Bool.and_eq_false_iff, Bool.or_eq_false_iff, bne_iff_ne, beq_iff_eq, bne_eq_false_iff_eq, beq_eq_false_iff_ne, ne_eq, not_and, Int.not_le, Int.not_lt, ge_iff_le, gt_iff_lt, Nat.not_lt, Nat.not_le, Bool.not_eq_true, Bool.not_eq_false, Bool.true_eq_false, Bool.false_eq_true, not_false_eq_true, not_true_eq_false] at h)
    | exact goes_none.mpr (by omega)
  all_goals first | (exfalso; omega) | (refine goes_inr.mpr ?_; (repeat' split) <;> first | rfl | omega) | (rw [if_pos (by omega), if_neg (by omega)]; exact hm)
theorem k42_ok : k42.ok Try.prog := by
  intro x hx
  obtain ⟨⟨⟨ar, nr, mr, tr, vr, gr, _⟩, ⟨ao, no, mo, to, _⟩, _⟩, ⟨al, nl, ml, tl, _⟩, _⟩ := x
  obtain ⟨h1, h2⟩ := a42 ar nr mr tr vr gr ao no mo to al nl ml tl (s42 ar nr mr tr vr gr ao no mo to al nl ml tl (of_dec hx rfl))
  exact ⟨⟨400, (by decide : 3 + 1 + 0 ≤ 400), h1⟩, h2⟩
inductive St53 where
  | h0 (x0 : Int)
abbrev Rt53 := Int
noncomputable def V53 (al nl ml : Nat) (tl : Nat → Int) (tr : Int) (vr : Int) (gr : Int) (r : Rt53) : PV := PV.int IntKind.i64 r
noncomputable def N53 (al nl ml : Nat) (tl : Nat → Int) (tr : Int) (vr : Int) (gr : Int) (r : Rt53) : List Blk := []
noncomputable def I53 (al nl ml : Nat) (tl : Nat → Int) (tr : Int) (vr : Int) (gr : Int) : St53 → Hd
  | .h0 x0 => ⟨hd Try.f40 0, [PV.loose (PA.mk (0) (1) al (0)) nl,
 PV.fn (Go.Fn.func (30)) [] [PV.ptr (PA.mk (1) (0) (0) (0))],
 PV.int IntKind.i64 (↑nl : Int), PV.int IntKind.i64 x0], [[], [(0, (false, .cols ml [.int .i64 tl])), (1, (false, .cells [.int .i64 tr, .int .i64 vr, .int .i64 gr]))]], 2⟩
noncomputable def q53 (al nl ml : Nat) (tl : Nat → Int) (tr : Int) (vr : Int) (gr : Int) : St53 → Option (St53 ⊕ Rt53)
  | .h0 x0 => bif (decide (x0 < (↑nl : Int)))
 then (bif (decide ((0 : Int) ≤ x0 ∧ x0 < (↑nl : Int)))
 then (bif (decide (Int.toNat x0 + al < ml))
 then (bif (decide (tl (Int.toNat x0 + al) ≥ tr))
 then (some (.inr (x0)))
 else (bif (decide (tl (Int.toNat x0 + al) ≤ vr))
 then (some (.inr (x0)))
 else (bif (lim IntKind.i64 (x0 + (1 : Int)))
 then (some (.inl (.h0 (x0 + (1 : Int)))))
 else (none))))
 else (none))
 else (none))
 else (some (.inr ((-1 : Int))))
noncomputable def p53 (al nl ml : Nat) (tl : Nat → Int) (tr : Int) (vr : Int) (gr : Int) : Option (St53 ⊕ Rt53) := some (.inl (.h0 ((0 : Int))))
noncomputable def Te53 (test : Bool → Prop → Prop → Prop) (Kst : KS) (Kret : KR) (al nl ml : Nat) (tl : Nat → Int) (tr : Int) (vr : Int) (gr : Int) : Prop :=
  Kst (hd Try.f40 0) ([PV.loose (PA.mk (0) (1) al (0)) nl,
 PV.fn (Go.Fn.func (30)) [] [PV.ptr (PA.mk (1) (0) (0) (0))],
 PV.int IntKind.i64 (↑nl : Int), PV.int IntKind.i64 (0 : Int)]) ([[(1, false,
 Blk.cells [PV.int IntKind.i64 tr, PV.int IntKind.i64 vr, PV.int IntKind.i64 gr]),
 (0, false, Blk.cols ml [Col.int IntKind.i64 tl])]]) (2)
theorem te53 (test : Bool → Prop → Prop → Prop) (Kst : KS) (Kret : KR) (al nl ml : Nat) (tl : Nat → Int) (tr : Int) (vr : Int) (gr : Int) : run test Try.env true noX true 400 ⟨40, [.cd (mkFn Try.f40).body], argT 0 [.loose ⟨0, 1, al, 0⟩ nl, .fn (.func 30) [] [.ptr ⟨1, 0, 0, 0⟩]], [[], [(0, (false, .cols ml [.int .i64 tl])), (1, (false, .cells [.int .i64 tr, .int .i64 vr, .int .i64 gr]))]], 2⟩ (proj 2 [0, 1, 7, 8] Kst Kret) =
  Te53 test Kst Kret al nl ml tl tr vr gr := by kernel_rfl
noncomputable def T53_0 (test : Bool → Prop → Prop → Prop) (Kst : KS) (Kret : KR) (al nl ml : Nat) (tl : Nat → Int) (tr : Int) (vr : Int) (gr : Int) (x0 : Int) : Prop :=
  test (decide (x0 < (↑nl : Int)))
 (test (decide ((0 : Int) ≤ x0 ∧ x0 < (↑nl : Int)))
 (test (decide (Int.toNat x0 + al < ml))
 (test (decide (tl (Int.toNat x0 + al) ≥ tr))
 (Kret (PV.int IntKind.i64 x0) ([[(1, false,
 Blk.cells [PV.int IntKind.i64 tr, PV.int IntKind.i64 vr, PV.int IntKind.i64 gr]),
 (0, false, Blk.cols ml [Col.int IntKind.i64 tl])]]) (3))
 (test (decide (tl (Int.toNat x0 + al) ≤ vr))
 (Kret (PV.int IntKind.i64 x0) ([[(1, false,
 Blk.cells [PV.int IntKind.i64 tr, PV.int IntKind.i64 vr, PV.int IntKind.i64 gr]),
 (0, false, Blk.cols ml [Col.int IntKind.i64 tl])]]) (3))
 (test (lim IntKind.i64 (x0 + (1 : Int)))
 (Kst (hd Try.f40 0) ([PV.loose (PA.mk (0) (1) al (0)) nl,
 PV.fn (Go.Fn.func (30)) [] [PV.ptr (PA.mk (1) (0) (0) (0))],
 PV.int IntKind.i64 (↑nl : Int), PV.int IntKind.i64 (x0 + (1 : Int))]) ([[(1, false,
 Blk.cells [PV.int IntKind.i64 tr, PV.int IntKind.i64 vr, PV.int IntKind.i64 gr]),
 (0, false, Blk.cols ml [Col.int IntKind.i64 tl])]]) (3))
 (False))))
 (False))
 (False))
 (Kret (PV.int IntKind.i64 (-1 : Int)) ([[(1, false,
 Blk.cells [PV.int IntKind.i64 tr, PV.int IntKind.i64 vr, PV.int IntKind.i64 gr]),
 (0, false, Blk.cols ml [Col.int IntKind.i64 tl])]]) (2))
theorem t53_0 (test : Bool → Prop → Prop → Prop) (Kst : KS) (Kret : KR) (al nl ml : Nat) (tl : Nat → Int) (tr : Int) (vr : Int) (gr : Int) (x0 : Int) : run test Try.env true noX true 400 ⟨40, hd Try.f40 0, zipT [0, 1, 7, 8] [PV.loose (PA.mk (0) (1) al (0)) nl,
 PV.fn (Go.Fn.func (30)) [] [PV.ptr (PA.mk (1) (0) (0) (0))],
 PV.int IntKind.i64 (↑nl : Int), PV.int IntKind.i64 x0], [[], [(0, (false, .cols ml [.int .i64 tl])), (1, (false, .cells [.int .i64 tr, .int .i64 vr, .int .i64 gr]))]], 2⟩ (proj 2 [0, 1, 7, 8] Kst Kret) =
  T53_0 test Kst Kret al nl ml tl tr vr gr x0 := by kernel_rfl
theorem be53 (al nl ml : Nat) (tl : Nat → Int) (tr : Int) (vr : Int) (gr : Int) (Kst : KS) (Kret : KR) (x : St53 ⊕ Rt53) (hS : HS 2 400 ((I53 al nl ml tl tr vr gr)) Kst x) (hR : HR 2 400 ((V53 al nl ml tl tr vr gr)) (fun r => [newL (2 + 1) ((N53 al nl ml tl tr vr gr) r) ++ [(0, (false, .cols ml [.int .i64 tl])), (1, (false, .cells [.int .i64 tr, .int .i64 vr, .int .i64 gr]))]]) Kret x) (h : (some (.inl (.h0 ((0 : Int)))) : Option (St53 ⊕ Rt53)) = some x) : Te53 cond Kst Kret al nl ml tl tr vr gr := by
  unfold Te53
  exact stop_at hS _ h (fun n => n) rfl rfl rfl ⟨(rn_loose (use_lo rfl) rfl rfl rfl), ⟨(rn_fn trivial ⟨(rn_ptr (use_lo rfl) rfl rfl), trivial⟩), ⟨(rn_int rfl), ⟨(rn_int rfl), trivial⟩⟩⟩⟩ rfl (entl_bor (use_lo rfl) rfl rfl (entl_borc (use_lo rfl) rfl rfl entl_nil))
theorem b53_0 (al nl ml : Nat) (tl : Nat → Int) (tr : Int) (vr : Int) (gr : Int) (Kst : KS) (Kret : KR) (x : St53 ⊕ Rt53) (hS : HS 2 400 ((I53 al nl ml tl tr vr gr)) Kst x) (hR : HR 2 400 ((V53 al nl ml tl tr vr gr)) (fun r => [newL (2 + 1) ((N53 al nl ml tl tr vr gr) r) ++ [(0, (false, .cols ml [.int .i64 tl])), (1, (false, .cells [.int .i64 tr, .int .i64 vr, .int .i64 gr]))]]) Kret x) (x0 : Int) (h : (bif (decide (x0 < (↑nl : Int)))
 then (bif (decide ((0 : Int) ≤ x0 ∧ x0 < (↑nl : Int)))
 then (bif (decide (Int.toNat x0 + al < ml))
 then (bif (decide (tl (Int.toNat x0 + al) ≥ tr))
 then (some (.inr (x0)))
 else (bif (decide (tl (Int.toNat x0 + al) ≤ vr))
 then (some (.inr (x0)))
 else (bif (lim IntKind.i64 (x0 + (1 : Int)))
 then (some (.inl (.h0 (x0 + (1 : Int)))))
 else (none))))
 else (none))
 else (none))
 else (some (.inr ((-1 : Int)))) : Option (St53 ⊕ Rt53)) = some x) : T53_0 cond Kst Kret al nl ml tl tr vr gr x0 := by
  unfold T53_0
  exact bif_split h
   (fun c0 h => bif_split h
   (fun c1 h => bif_split h
   (fun c2 h => bif_split h
   (fun c3 h => ret_at hR _ h (fun n => n) rfl rfl rfl (rn_int rfl) rfl (entl_bor (use_lo rfl) rfl rfl (entl_borc (use_lo rfl) rfl rfl entl_nil)))
   (fun c3 h => bif_split h
   (fun c4 h => ret_at hR _ h (fun n => n) rfl rfl rfl (rn_int rfl) rfl (entl_bor (use_lo rfl) rfl rfl (entl_borc (use_lo rfl) rfl rfl entl_nil)))
   (fun c4 h => bif_split h
   (fun c5 h => stop_at hS _ h (fun n => n) rfl rfl rfl ⟨(rn_loose (use_lo rfl) rfl rfl rfl), ⟨(rn_fn trivial ⟨(rn_ptr (use_lo rfl) rfl rfl), trivial⟩), ⟨(rn_int rfl), ⟨(rn_int rfl), trivial⟩⟩⟩⟩ rfl (entl_bor (use_lo rfl) rfl rfl (entl_borc (use_lo rfl) rfl rfl entl_nil)))
   (fun c5 h => no_some h))))
   (fun c2 h => no_some h))
   (fun c1 h => no_some h))
   (fun c0 h => ret_at hR _ h (fun n => n) rfl rfl rfl (rn_int rfl) rfl (entl_bor (use_lo rfl) rfl rfl (entl_borc (use_lo rfl) rfl rfl entl_nil)))
theorem a53 (al nl ml : Nat) (tl : Nat → Int) (tr : Int) (vr : Int) (gr : Int) {r : Rt53} (h : Goes ((q53 al nl ml tl tr vr gr)) ((p53 al nl ml tl tr vr gr)) r) : CallR Try.prog 40 [.loose ⟨0, 1, al, 0⟩ nl, .fn (.func 30) [] [.ptr ⟨1, 0, 0, 0⟩]] [[(0, (false, .cols ml [.int .i64 tl])), (1, (false, .cells [.int .i64 tr, .int .i64 vr, .int .i64 gr]))]] 2 ((V53 al nl ml tl tr vr gr) r) ((fun r => [newL (2 + 1) ((N53 al nl ml tl tr vr gr) r) ++ [(0, (false, .cols ml [.int .i64 tl])), (1, (false, .cells [.int .i64 tr, .int .i64 vr, .int .i64 gr]))]]) r) 400 ∧ ∃ F, Try.prog.funcs[40]? = some F ∧ F.body.isSome = true ∧ (F.name == "runtime.NumGoroutine") = false := by
  refine dec_calls (f := 40) (lo := 2) (hi := 400) (H := [[(0, (false, .cols ml [.int .i64 tl])), (1, (false, .cells [.int .i64 tr, .int .i64 vr, .int .i64 gr]))]]) (args := [.loose ⟨0, 1, al, 0⟩ nl, .fn (.func 30) [] [.ptr ⟨1, 0, 0, 0⟩]]) Try.envOk Try.mixed noX_ok ((I53 al nl ml tl tr vr gr)) ((V53 al nl ml tl tr vr gr)) (fun r => [newL (2 + 1) ((N53 al nl ml tl tr vr gr) r) ++ [(0, (false, .cols ml [.int .i64 tl])), (1, (false, .cells [.int .i64 tr, .int .i64 vr, .int .i64 gr]))]]) (fn := mkFn Try.f40) (ts := [0, 1, 7, 8]) (n := 400) rfl (by decide) (by simp) (names_of rfl) ?_ ?_ ?_ h
  · intro s; cases s <;> exact ⟨hd_ok _ _, by simp [I53], names_of rfl, Nat.le_of_ble_eq_true rfl⟩
  · intro Kst Kret x hS hR h
    exact Holds.eq (te53 cond Kst Kret al nl ml tl tr vr gr) (be53 al nl ml tl tr vr gr Kst Kret x hS hR h)
  · intro Kst Kret x hS hR s h
    cases s with
    | h0 x0 => exact Holds.eq (t53_0 cond Kst Kret al nl ml tl tr vr gr x0) (b53_0 al nl ml tl tr vr gr Kst Kret x hS hR x0 h)
noncomputable def k53 : Con := ⟨40, [.one (.list [.int .i64]), .fn 30 [.cell [.int .i64, .int .i64, .int .i64]]], fun (x : (Nat × Nat × Nat × (Nat → Int) × Unit) × ((Int × Int × Int × Unit) × Unit) × Unit) => (fun (al nl ml : Nat) (tl : Nat → Int) (tr : Int) (vr : Int) (gr : Int) => decide (al + nl ≤ ml ∧ nl ≤ 1000000)) x.1.1 x.1.2.1 x.1.2.2.1 x.1.2.2.2.1 x.2.1.1.1 x.2.1.1.2.1 x.2.1.1.2.2.1, fun (x : (Nat × Nat × Nat × (Nat → Int) × Unit) × ((Int × Int × Int × Unit) × Unit) × Unit) => (fun (al nl ml : Nat) (tl : Nat → Int) (tr : Int) (vr : Int) (gr : Int) => (V53 al nl ml tl tr vr gr) (S.idx (fun j => decide (tl (j + al) ≥ tr ∨ tl (j + al) ≤ vr)) 0 nl)) x.1.1 x.1.2.1 x.1.2.2.1 x.1.2.2.2.1 x.2.1.1.1 x.2.1.1.2.1 x.2.1.1.2.2.1, fun (x : (Nat × Nat × Nat × (Nat → Int) × Unit) × ((Int × Int × Int × Unit) × Unit) × Unit) => (fun (al nl ml : Nat) (tl : Nat → Int) (tr : Int) (vr : Int) (gr : Int) => (N53 al nl ml tl tr vr gr) (S.idx (fun j => decide (tl (j + al) ≥ tr ∨ tl (j + al) ≤ vr)) 0 nl)) x.1.1 x.1.2.1 x.1.2.2.1 x.1.2.2.2.1 x.2.1.1.1 x.2.1.1.2.1 x.2.1.1.2.2.1, fun _ _ => .dead⟩
theorem s53' (al nl ml : Nat) (tl : Nat → Int) (tr : Int) (vr : Int) (gr : Int) (hp : al + nl ≤ ml ∧ nl ≤ 1000000) : ∀ k i : Nat, i + k = nl → Comes (q53 al nl ml tl tr vr gr) (.h0 (i : Int)) (S.idx (fun j => decide (tl (j + al) ≥ tr ∨ tl (j + al) ≤ vr)) i k) := by
  obtain ⟨hp1, hp2⟩ := hp
  intro k
  induction k with
  | zero =>
    intro i hi
    apply Comes.of
    show Goes _ _ _
    (first | rw [q53] | unfold q53)
    repeat' first
      | with_reducible refine goes_if (fun h => ?_) (fun h => ?_) <;> (try simp only [lim64, imp_false, decide_eq_true_eq, decide_eq_false_iff_not, Int.toNat_natCast, toNat_pred, toNat_succ, Option.getD_some, Option.getD_none, Bool.not_eq_true', Bool.not_eq_false', Bool.and_eq_true, Bool.or_eq_true, Bool.and_eq_false_iff, Bool.or_eq_false_iff, bne_iff_ne, beq_iff_eq, bne_eq_false_iff_eq, beq_eq_false_iff_ne, ne_eq, not_and, Int.not_le, Int.not_lt, ge_iff_le, gt_iff_lt, Nat.not_lt, Nat.not_le, Bool.not_eq_true, Bool.not_eq_false, Bool.true_eq_false, Bool.false_eq_true, not_false_eq_true, not_true_eq_false] at h)
      | exact goes_none.mpr (by omega)
    all_goals first | (exfalso; omega) | rfl | (refine Eq.mpr (congrArg (Comes _ _) ?_) True; simp only [S.idx, Bool.and_eq_true, Bool.or_eq_true, decide_eq_true_eq]; (repeat' split) <;> first | rfl | omega | (exfalso; omega) | (exfalso; simp_all; done) | (exfalso; simp_all; omega) | simp_all) | (refine goes_inr.mpr ?_; simp only [S.idx, Bool.and_eq_true, Bool.or_eq_true, decide_eq_true_eq]; (repeat' split) <;> first | rfl | omega | (exfalso; omega) | (exfalso; simp_all; done) | (exfalso; simp_all; omega) | simp_all)
  | succ k ih =>
    intro i hi
    have ih := ih (i + 1) (by omega)
    apply Comes.of
    show Goes _ _ _
    (first | rw [q53] | unfold q53)
    repeat' first
      | with_reducible refine goes_if (fun h => ?_) (fun h => ?_) <;> (try simp only [lim64, imp_false, decide_eq_true_eq, decide_eq_false_iff_not, Int.toNat_natCast, toNat_pred, toNat_succ, Option.getD_some, Option.getD_none, Bool.not_eq_true', Bool.not_eq_false', Bool.and_eq_true, Bool.or_eq_true, Bool.and_eq_false_iff, Bool.or_eq_false_iff, bne_iff_ne, beq_iff_eq, bne_eq_false_iff_eq, beq_eq_false_iff_ne, ne_eq, not_and, Int.not_le, Int.not_lt, ge_iff_le, gt_iff_lt, Nat.not_lt, Nat.not_le, Bool.not_eq_true, Bool.not_eq_false, Bool.true_eq_false, Bool.false_eq_true, not_false_eq_true, not_true_eq_false] at h)
      | exact goes_none.mpr (by omega)
    all_goals first | (exfalso; omega) | rfl | (refine Eq.mpr (congrArg (Comes _ _) ?_) ih; simp only [S.idx, Bool.and_eq_true, Bool.or_eq_true, decide_eq_true_eq]; (repeat' split) <;> first | rfl | omega | (exfalso; omega) | (exfalso; simp_all; done) | (exfalso; simp_all; omega) | simp_all) | (refine goes_inr.mpr ?_; simp only [S.idx, Bool.and_eq_true, Bool.or_eq_true, decide_eq_true_eq]; (repeat' split) <;> first | rfl | omega | (exfalso; omega) | (exfalso; simp_all; done) | (exfalso; simp_all; omega) | simp_all)
theorem s53 (al nl ml : Nat) (tl : Nat → Int) (tr : Int) (vr : Int) (gr : Int) (hp : al + nl ≤ ml ∧ nl ≤ 1000000) : Goes ((q53 al nl ml tl tr vr gr)) ((p53 al nl ml tl tr vr gr)) (S.idx (fun j => decide (tl (j + al) ≥ tr ∨ tl (j + al) ≤ vr)) 0 nl) := by
  exact s53' al nl ml tl tr vr gr hp nl 0 (by omega)
theorem k53_ok : k53.ok Try.prog := by
  intro x hx
  obtain ⟨⟨al, nl, ml, tl, _⟩, ⟨⟨tr, vr, gr, _⟩, _⟩, _⟩ := x
  obtain ⟨h1, h2⟩ := a53 al nl ml tl tr vr gr (s53 al nl ml tl tr vr gr (of_dec hx rfl))
  exact ⟨⟨400, (by decide : 2 + 1 + 0 ≤ 400), h1⟩, h2⟩
noncomputable def xL (test : Bool → Prop → Prop → Prop) : Ext := consX test [k53]
theorem xL_ok : ExtOk Try.prog (xL cond) := consX_ok ⟨k53_ok, trivial⟩
abbrev St49 := Empty
abbrev Rt49 := Bool
noncomputable def V49 (al nl ml : Nat) (tl : Nat → Int) (tr : Int) (vr : Int) (gr : Int) (r : Rt49) : PV := PV.bool r
noncomputable def N49 (al nl ml : Nat) (tl : Nat → Int) (tr : Int) (vr : Int) (gr : Int) (r : Rt49) : List Blk := []
noncomputable def I49 (al nl ml : Nat) (tl : Nat → Int) (tr : Int) (vr : Int) (gr : Int) : St49 → Hd := fun s => s.elim
noncomputable def q49 (al nl ml : Nat) (tl : Nat → Int) (tr : Int) (vr : Int) (gr : Int) : St49 → Option (St49 ⊕ Rt49) := fun s => s.elim
noncomputable def p49 (al nl ml : Nat) (tl : Nat → Int) (tr : Int) (vr : Int) (gr : Int) : Option (St49 ⊕ Rt49) := bif (decide (al + nl ≤ ml ∧ nl ≤ 1000000))
 then (bif (decide
 (S.idx (fun j => decide (tl (j + al) ≥ tr ∨ tl (j + al) ≤ vr)) (0) nl ≥ (0 : Int)))
 then (some (.inr (true)))
 else (some (.inr (false))))
 else (none)
noncomputable def Te49 (test : Bool → Prop → Prop → Prop) (Kst : KS) (Kret : KR) (al nl ml : Nat) (tl : Nat → Int) (tr : Int) (vr : Int) (gr : Int) : Prop :=
  test (decide (al + nl ≤ ml ∧ nl ≤ 1000000))
 (test (decide
 (S.idx (fun j => decide (tl (j + al) ≥ tr ∨ tl (j + al) ≤ vr)) (0) nl ≥ (0 : Int)))
 (Kret (PV.tf true) ([[(1, false,
 Blk.cells [PV.int IntKind.i64 tr, PV.int IntKind.i64 vr, PV.int IntKind.i64 gr]),
 (0, false, Blk.cols ml [Col.int IntKind.i64 tl])]]) (3))
 (Kret (PV.tf false) ([[(1, false,
 Blk.cells [PV.int IntKind.i64 tr, PV.int IntKind.i64 vr, PV.int IntKind.i64 gr]),
 (0, false, Blk.cols ml [Col.int IntKind.i64 tl])]]) (3)))
 (False)
theorem te49 (test : Bool → Prop → Prop → Prop) (Kst : KS) (Kret : KR) (al nl ml : Nat) (tl : Nat → Int) (tr : Int) (vr : Int) (gr : Int) : run test Try.env true (xL test) true 400 ⟨29, [.cd (mkFn Try.f29).body], argT 0 [.loose ⟨0, 1, al, 0⟩ nl, .fn (.func 30) [] [.ptr ⟨1, 0, 0, 0⟩]], [[], [(0, (false, .cols ml [.int .i64 tl])), (1, (false, .cells [.int .i64 tr, .int .i64 vr, .int .i64 gr]))]], 2⟩ (proj 2 [] Kst Kret) =
  Te49 test Kst Kret al nl ml tl tr vr gr := by kernel_rfl
theorem be49 (al nl ml : Nat) (tl : Nat → Int) (tr : Int) (vr : Int) (gr : Int) (Kst : KS) (Kret : KR) (x : St49 ⊕ Rt49) (hS : HS 2 400 ((I49 al nl ml tl tr vr gr)) Kst x) (hR : HR 2 400 ((V49 al nl ml tl tr vr gr)) (fun r => [newL (2 + 1) ((N49 al nl ml tl tr vr gr) r) ++ [(0, (false, .cols ml [.int .i64 tl])), (1, (false, .cells [.int .i64 tr, .int .i64 vr, .int .i64 gr]))]]) Kret x) (h : (bif (decide (al + nl ≤ ml ∧ nl ≤ 1000000))
 then (bif (decide
 (S.idx (fun j => decide (tl (j + al) ≥ tr ∨ tl (j + al) ≤ vr)) (0) nl ≥ (0 : Int)))
 then (some (.inr (true)))
 else (some (.inr (false))))
 else (none) : Option (St49 ⊕ Rt49)) = some x) : Te49 cond Kst Kret al nl ml tl tr vr gr := by
  unfold Te49
  exact bif_split h
   (fun c0 h => bif_split h
   (fun c1 h => ret_at hR _ h (fun n => n) rfl rfl rfl (rn_bool_tf rfl) rfl (entl_bor (use_lo rfl) rfl rfl (entl_borc (use_lo rfl) rfl rfl entl_nil)))
   (fun c1 h => ret_at hR _ h (fun n => n) rfl rfl rfl (rn_bool_tf rfl) rfl (entl_bor (use_lo rfl) rfl rfl (entl_borc (use_lo rfl) rfl rfl entl_nil))))
   (fun c0 h => no_some h)
theorem a49 (al nl ml : Nat) (tl : Nat → Int) (tr : Int) (vr : Int) (gr : Int) {r : Rt49} (h : Goes ((q49 al nl ml tl tr vr gr)) ((p49 al nl ml tl tr vr gr)) r) : CallR Try.prog 29 [.loose ⟨0, 1, al, 0⟩ nl, .fn (.func 30) [] [.ptr ⟨1, 0, 0, 0⟩]] [[(0, (false, .cols ml [.int .i64 tl])), (1, (false, .cells [.int .i64 tr, .int .i64 vr, .int .i64 gr]))]] 2 ((V49 al nl ml tl tr vr gr) r) ((fun r => [newL (2 + 1) ((N49 al nl ml tl tr vr gr) r) ++ [(0, (false, .cols ml [.int .i64 tl])), (1, (false, .cells [.int .i64 tr, .int .i64 vr, .int .i64 gr]))]]) r) 400 ∧ ∃ F, Try.prog.funcs[29]? = some F ∧ F.body.isSome = true ∧ (F.name == "runtime.NumGoroutine") = false := by
  refine dec_calls (f := 29) (lo := 2) (hi := 400) (H := [[(0, (false, .cols ml [.int .i64 tl])), (1, (false, .cells [.int .i64 tr, .int .i64 vr, .int .i64 gr]))]]) (args := [.loose ⟨0, 1, al, 0⟩ nl, .fn (.func 30) [] [.ptr ⟨1, 0, 0, 0⟩]]) Try.envOk Try.mixed xL_ok ((I49 al nl ml tl tr vr gr)) ((V49 al nl ml tl tr vr gr)) (fun r => [newL (2 + 1) ((N49 al nl ml tl tr vr gr) r) ++ [(0, (false, .cols ml [.int .i64 tl])), (1, (false, .cells [.int .i64 tr, .int .i64 vr, .int .i64 gr]))]]) (fn := mkFn Try.f29) (ts := []) (n := 400) rfl (by decide) (by simp) (names_of rfl) ?_ ?_ ?_ h
  · intro s; exact s.elim
  · intro Kst Kret x hS hR h
    exact Holds.eq (te49 cond Kst Kret al nl ml tl tr vr gr) (be49 al nl ml tl tr vr gr Kst Kret x hS hR h)
  · intro Kst Kret x hS hR s h; exact s.elim
noncomputable def k49 : Con := ⟨29, [.one (.list [.int .i64]), .fn 30 [.cell [.int .i64, .int .i64, .int .i64]]], fun (x : (Nat × Nat × Nat × (Nat → Int) × Unit) × ((Int × Int × Int × Unit) × Unit) × Unit) => (fun (al nl ml : Nat) (tl : Nat → Int) (tr : Int) (vr : Int) (gr : Int) => decide (al + nl ≤ ml ∧ nl ≤ 1000000)) x.1.1 x.1.2.1 x.1.2.2.1 x.1.2.2.2.1 x.2.1.1.1 x.2.1.1.2.1 x.2.1.1.2.2.1, fun (x : (Nat × Nat × Nat × (Nat → Int) × Unit) × ((Int × Int × Int × Unit) × Unit) × Unit) => (fun (al nl ml : Nat) (tl : Nat → Int) (tr : Int) (vr : Int) (gr : Int) => (V49 al nl ml tl tr vr gr) (S.any (fun j => decide (tl (j + al) ≥ tr ∨ tl (j + al) ≤ vr)) nl)) x.1.1 x.1.2.1 x.1.2.2.1 x.1.2.2.2.1 x.2.1.1.1 x.2.1.1.2.1 x.2.1.1.2.2.1, fun (x : (Nat × Nat × Nat × (Nat → Int) × Unit) × ((Int × Int × Int × Unit) × Unit) × Unit) => (fun (al nl ml : Nat) (tl : Nat → Int) (tr : Int) (vr : Int) (gr : Int) => (N49 al nl ml tl tr vr gr) (S.any (fun j => decide (tl (j + al) ≥ tr ∨ tl (j + al) ≤ vr)) nl)) x.1.1 x.1.2.1 x.1.2.2.1 x.1.2.2.2.1 x.2.1.1.1 x.2.1.1.2.1 x.2.1.1.2.2.1, fun _ _ => .dead⟩
theorem s49 (al nl ml : Nat) (tl : Nat → Int) (tr : Int) (vr : Int) (gr : Int) (hp : al + nl ≤ ml ∧ nl ≤ 1000000) : Goes ((q49 al nl ml tl tr vr gr)) ((p49 al nl ml tl tr vr gr)) (S.any (fun j => decide (tl (j + al) ≥ tr ∨ tl (j + al) ≤ vr)) nl) := by
  have hp' := hp
  obtain ⟨hp1, hp2⟩ := hp
  rw [← idx_any (p := (fun j => decide (tl (j + al) ≥ tr ∨ tl (j + al) ≤ vr))) (n := nl)]
  show Goes _ _ _
  unfold p49
  repeat' first
    | with_reducible refine goes_if (fun h => ?_) (fun h => ?_) <;> (try simp only [lim64, imp_false, decide_eq_true_eq, decide_eq_false_iff_not, Int.toNat_natCast, toNat_pred, toNat_succ, Option.getD_some, Option.getD_none, Bool.not_eq_true', Bool.not_eq_false', Bool.and_eq_true, Bool.or_eq_true, Bool.and_eq_false_iff, Bool.or_eq_false_iff, bne_iff_ne, beq_iff_eq, bne_eq_false_iff_eq, beq_eq_false_iff_ne, ne_eq, not_and, Int.not_le, Int.not_lt, ge_iff_le, gt_iff_lt, Nat.not_lt, Nat.not_le, Bool.not_eq_true, Bool.not_eq_false, Bool.true_eq_false, Bool.false_eq_true, not_false_eq_true, not_true_eq_false] at h)
    | exact goes_none.mpr (by omega)
  all_goals first | (exfalso; omega) | (exfalso; simp_all; done) | (refine goes_inr.mpr ?_; first | rfl | (symm; simp_all; done) | (symm; simp_all; omega))
theorem k49_ok : k49.ok Try.prog := by
  intro x hx
  obtain ⟨⟨al, nl, ml, tl, _⟩, ⟨⟨tr, vr, gr, _⟩, _⟩, _⟩ := x
  obtain ⟨h1, h2⟩ := a49 al nl ml tl tr vr gr (s49 al nl ml tl tr vr gr (of_dec hx rfl))
  exact ⟨⟨400, (by decide : 2 + 1 + 0 ≤ 400), h1⟩, h2⟩
theorem rel_ok {e : Int} {u d w : Nat → Int} : ∀ {k i : Nat}, S.relE e u d w i k = 0 → (∀ j, i ≤ j → j < i + k → S.okR (u j) (d j) (w j) = true ∧ d j < u j) ∧ e = 0
  | 0, i, h => ⟨fun j h1 h2 => by omega, h⟩
  | k + 1, i, h => by
    simp only [S.relE] at h
    split at h
    · rename_i h1
      split at h
      · cases h
      · rename_i h2
        obtain ⟨h3, h4⟩ := rel_ok h
        refine ⟨fun j a b => ?_, h4⟩
        by_cases hj : j = i
        · subst hj; exact ⟨h1, by omega⟩
        · exact h3 j (by omega) (by omega)
    · cases h
theorem mag_ok {n no : Nat} {u d w : Nat → Int} (h : S.magE n u d w no = 0) : 0 < n ∧ n ≤ 40 ∧ no = n ∧ ∀ j, j < n → -1099511627776 ≤ u j ∧ u j ≤ 1099511627776 ∧ -1099511627776 ≤ d j ∧ d j ≤ 1099511627776 ∧ 1 ≤ w j ∧ w j ≤ 1073741824 ∧ d j < u j := by
  unfold S.magE at h
  split at h
  · cases h
  split at h
  · cases h
  obtain ⟨h1, h2⟩ := rel_ok h
  refine ⟨by omega, by omega, ?_, fun j hj => ?_⟩
  · split at h2
    · assumption
    · cases h2
  · obtain ⟨h3, h4⟩ := h1 j (Nat.zero_le _) (by omega)
    simp only [S.okR, decide_eq_true_eq] at h3
    omega
theorem rel_congr {e : Int} {u d w u' d' w' : Nat → Int} : ∀ {k i : Nat}, (∀ j, i ≤ j → j < i + k → u j = u' j ∧ d j = d' j ∧ w j = w' j) → S.relE e u d w i k = S.relE e u' d' w' i k
  | 0, i, _ => rfl
  | k + 1, i, h => by
    obtain ⟨h1, h2, h3⟩ := h i (Nat.le_refl _) (by omega)
    simp only [S.relE, h1, h2, h3]
    rw [rel_congr fun j a b => h j (by omega) (by omega)]
theorem mag_congr {n no : Nat} {u d w u' d' w' : Nat → Int} (h : ∀ j, j < n → u j = u' j ∧ d j = d' j ∧ w j = w' j) : S.magE n u d w no = S.magE n u' d' w' no := by
  unfold S.magE
  rw [rel_congr fun j _ b => h j (by omega)]
theorem in_ok {t : Nat → Int} : ∀ {k i : Nat}, S.inE t i k = 0 → ∀ j, i ≤ j → j < i + k → -1099511627776 ≤ t j ∧ t j ≤ 1099511627776
  | 0, i, _, j, h1, h2 => by omega
  | k + 1, i, h, j, h1, h2 => by
    simp only [S.inE] at h
    split at h
    · by_cases hj : j = i
      · subst hj; assumption
      · exact in_ok h j (by omega) (by omega)
    · cases h
theorem hist_ok {n no nl : Nat} {u d w t : Nat → Int} (h : S.histE n u d w no nl t = 0) : S.magE n u d w no = 0 ∧ nl ≤ 1000 ∧ ∀ j, j < nl → -1099511627776 ≤ t j ∧ t j ≤ 1099511627776 := by
  unfold S.histE at h
  split at h
  · split at h
    · cases h
    · exact ⟨by assumption, by omega, fun j hj => in_ok h j (Nat.zero_le _) (by omega)⟩
  · contradiction
namespace S
def fldN (w : Nat → Int) (o : Nat → Bool) : Nat → Int
  | 0 => 0
  | i + 1 => bif o i then fldN w o i + w i else fldN w o i
def fieldS (n : Nat) (u d w : Nat → Int) (no : Nat) (o : Nat → Bool) : Int × Int := if magE n u d w no = 0 then (fldN w o n, 0) else (0, magE n u d w no)
def aftN (u d : Int) (t : Nat → Int) (o : Bool) : Nat → Bool
  | 0 => o
  | k + 1 => aft u d (aftN u d t o k) (t k)
def histS (n : Nat) (u d w : Nat → Int) (no : Nat) (o : Nat → Bool) (nl : Nat) (t : Nat → Int) : Int × List (Int × Int × Int) × List Bool :=
  if histE n u d w no nl t = 0 then (0, mkl n fun j => (u j, d j, w j), mkl no fun j => aftN (u j) (d j) t (o j) nl) else (histE n u d w no nl t, [], [])
def erB (u d : Nat → Int) (nl : Nat) (t : Nat → Int) : Nat → Nat → Bool
  | _, 0 => true
  | i, k + 1 => if any (fun j => decide (t j ≥ u i ∨ t j ≤ d i)) nl = true then erB u d nl t (i + 1) k else false
def erS (n : Nat) (u d w : Nat → Int) (no : Nat) (nl : Nat) (t : Nat → Int) : Bool × Int := if histE n u d w no nl t = 0 then (erB u d nl t 0 n, 0) else (false, histE n u d w no nl t)
end S
theorem fld_ge {w : Nat → Int} {o : Nat → Bool} {n : Nat} (h : ∀ j, j < n → 1 ≤ w j ∧ w j ≤ 1073741824) : ∀ k, k ≤ n → 0 ≤ S.fldN w o k ∧ S.fldN w o k ≤ k * 1073741824
  | 0, _ => ⟨Int.le_refl _, Int.le_refl _⟩
  | k + 1, hk => by
    have ih := fld_ge h (o := o) k (by omega)
    have := h k (by omega)
    simp only [S.fldN]
    cases o k <;> simp only [cond_true, cond_false] <;> omega
namespace S
def curE (e : Int) (t : Nat → Int) : Nat → Nat → Int
  | _, 0 => e
  | i, k + 1 => if -1099511627776 ≤ t i ∧ t i ≤ 1099511627776 then (if 0 < i ∧ t i = t (i - 1) then 12 else curE e t (i + 1) k) else 6
def cyE (cn : ByteArray) (n : Nat) (t : Nat → Int) (rp fl : Int) : Int := if isNam cn = true then (if n < 2 then 7 else if 20 < n then 3 else curE (if (1 ≤ rp ∧ rp ≤ 9) ∧ -1099511627776 ≤ fl ∧ fl ≤ 1099511627776 then (if fl = t (n - 1) then 12 else 0) else 6) t 0 n) else 2
def stpL (n : Nat) (t : Nat → Int) (rp fl : Int) : List Int := snoc (mkl (n * rp.toNat) fun j => t (j % n)) fl
def stpS (e : Int) (n : Nat) (t : Nat → Int) (rp fl : Int) : Int × List Int := if e = 0 then (0, stpL n t rp fl) else (e, [])
def setE (n : Nat) (t : Nat → Int) : Int := if 500 < n then 3 else if all (fun j => decide (-1099511627776 ≤ t j ∧ t j ≤ 1099511627776)) n = true then 0 else 6
end S
theorem curE_ok {e : Int} {t : Nat → Int} : ∀ {k i : Nat}, S.curE e t i k = 0 → e = 0 ∧ ∀ j, i ≤ j → j < i + k → (-1099511627776 ≤ t j ∧ t j ≤ 1099511627776) ∧ (0 < j → t j ≠ t (j - 1))
  | 0, i, h => ⟨h, fun j h1 h2 => by omega⟩
  | k + 1, i, h => by
    simp only [S.curE] at h
    split at h
    · split at h
      · cases h
      · rename_i h1 h3
        obtain ⟨q1, q2⟩ := curE_ok h
        refine ⟨q1, fun j h2 h4 => ?_⟩
        rcases Nat.lt_or_ge i j with h5 | h5
        · exact q2 j h5 (by omega)
        · obtain rfl : j = i := by omega
          exact ⟨h1, fun h6 h7 => h3 ⟨h6, h7⟩⟩
    · cases h
theorem cy_ok {cn : ByteArray} {n : Nat} {t : Nat → Int} {rp fl : Int} (h : S.cyE cn n t rp fl = 0) : (2 ≤ n ∧ n ≤ 20) ∧ (1 ≤ rp ∧ rp ≤ 9) ∧ (-1099511627776 ≤ fl ∧ fl ≤ 1099511627776) ∧ fl ≠ t (n - 1) ∧ ∀ j, j < n → (-1099511627776 ≤ t j ∧ t j ≤ 1099511627776) ∧ (0 < j → t j ≠ t (j - 1)) := by
  unfold S.cyE at h
  split at h
  · split at h
    · cases h
    · split at h
      · cases h
      · obtain ⟨q1, q2⟩ := curE_ok h
        split at q1
        · rename_i q3
          split at q1
          · cases q1
          · rename_i q4
            exact ⟨by omega, q3.1, q3.2, q4, fun j hj => q2 j (Nat.zero_le _) (by omega)⟩
        · cases q1
  · cases h
theorem stp_len {n : Nat} {t : Nat → Int} {rp fl : Int} : (S.stpL n t rp fl).length = n * rp.toNat + 1 := by unfold S.stpL; rw [snoc_len, mkl_len]
theorem mul_bd {n : Nat} {rp : Int} (h1 : n ≤ 20) (h2 : rp ≤ 9) : n * rp.toNat ≤ 180 := by
  have : n * rp.toNat ≤ 20 * 9 := Nat.mul_le_mul h1 (by omega)
  omega
theorem limu64 {n : Int} : lim .u64 n = decide (0 ≤ n ∧ n ≤ 18446744073709551615) := rfl
theorem shr32 {x : Int} (h : 0 ≤ x ∧ x < 4294967296) : S.shrB .u64 x 32 = 0 := by
  show Int.fdiv x (2 ^ (min (32 : Int).toNat 64)) = 0
  have e : (2 : Int) ^ (min (32 : Int).toNat 64) = 4294967296 := by decide
  rw [e, Int.fdiv_eq_ediv_of_nonneg _ (by decide)]
  omega
theorem and32 {x : Int} (h : 0 ≤ x ∧ x < 4294967296) : S.andB .u64 x 4294967295 = x := by
  obtain ⟨n, rfl⟩ := Int.eq_ofNat_of_zero_le h.1
  show IntKind.wrap .u64 (((BitVec.ofInt 64 (n : Int) &&& BitVec.ofInt 64 4294967295).toNat : Nat) : Int) = n
  have e1 : (BitVec.ofInt 64 (n : Int)).toNat = n := by
    rw [BitVec.toNat_ofInt]; omega
  have e2 : (BitVec.ofInt 64 4294967295).toNat = 2 ^ 32 - 1 := by decide
  rw [BitVec.toNat_and, e1, e2, Nat.and_two_pow_sub_one_eq_mod]
  have e3 : n % 2 ^ 32 = n := Nat.mod_eq_of_lt (by omega)
  rw [e3]
  exact u64_in n (by omega)
inductive St155 where
  | h0 (x0 : Int) (x1 : List Int)
abbrev Rt155 := List Int
noncomputable def V155 (al nl ml : Nat) (tl : Nat → Int) (ct : Int) (r : Rt155) : PV := PV.own (2) (1) (List.length r)
noncomputable def N155 (al nl ml : Nat) (tl : Nat → Int) (ct : Int) (r : Rt155) : List Blk := [Blk.cols (List.length r) [Col.int IntKind.i64 fun j => S.at' r j]]
noncomputable def I155 (al nl ml : Nat) (tl : Nat → Int) (ct : Int) : St155 → Hd
  | .h0 x0 x1 => ⟨hd Try.f32 0, [PV.own (1) (1) (List.length x1), PV.int IntKind.i64 x0], [[(1, (true, Blk.cols (List.length x1) [Col.int IntKind.i64 fun j => S.at' x1 j]))], [(0, (false, .cols ml [.int .i64 tl]))]], 2⟩
noncomputable def q155 (al nl ml : Nat) (tl : Nat → Int) (ct : Int) : St155 → Option (St155 ⊕ Rt155)
  | .h0 x0 x1 => bif (decide (x0 < (↑(List.length x1) : Int)))
 then (bif (decide
 ((0 : Int) ≤ x0 ∧ x0 ≤ (↑(List.length x1) : Int) ∧ (↑(List.length x1) : Int) ≤ (↑(List.length x1) : Int)))
 then (bif (decide ((0 : Int) ≤ x0 ∧ x0 ≤ (↑(List.length x1) : Int)))
 then (bif (decide (Int.toNat x0 + Min.min (List.length x1 - Int.toNat x0) (Int.toNat x0) ≤ List.length x1))
 then (bif (decide (0 + Int.toNat x0 ≤ List.length x1))
 then (bif (lim IntKind.i64 (x0 + (↑(Min.min (List.length x1 - Int.toNat x0) (Int.toNat x0)) : Int)))
 then (some (.inl (.h0 (x0 + (↑(Min.min (List.length x1 - Int.toNat x0) (Int.toNat x0)) : Int)) (S.mkl (List.length x1) fun j =>
 bif Nat.ble (Int.toNat x0) j then
 bif Nat.blt j (Int.toNat x0 + Min.min (List.length x1 - Int.toNat x0) (Int.toNat x0)) then
 S.at' x1 (j - Int.toNat x0)
 else S.at' x1 j
 else S.at' x1 j))))
 else (none))
 else (none))
 else (none))
 else (none))
 else (none))
 else (some (.inr (x1)))
noncomputable def p155 (al nl ml : Nat) (tl : Nat → Int) (ct : Int) : Option (St155 ⊕ Rt155) := bif (decide (ct < (0 : Int)))
 then (none)
 else (bif (lim IntKind.u64
 (S.andB IntKind.u64 (IntKind.wrap IntKind.u64 (↑nl : Int)) (4294967295 : Int) *
 S.andB IntKind.u64 (IntKind.wrap IntKind.u64 ct) (4294967295 : Int)))
 then (bif (lim IntKind.u64
 (S.shrB IntKind.u64 (IntKind.wrap IntKind.u64 (↑nl : Int)) (32 : Int) *
 S.andB IntKind.u64 (IntKind.wrap IntKind.u64 ct) (4294967295 : Int)))
 then (bif (lim IntKind.u64
 (S.shrB IntKind.u64 (IntKind.wrap IntKind.u64 (↑nl : Int)) (32 : Int) *
 S.andB IntKind.u64 (IntKind.wrap IntKind.u64 ct) (4294967295 : Int) +
 S.shrB IntKind.u64
 (S.andB IntKind.u64 (IntKind.wrap IntKind.u64 (↑nl : Int)) (4294967295 : Int) *
 S.andB IntKind.u64 (IntKind.wrap IntKind.u64 ct) (4294967295 : Int))
 (32 : Int)))
 then (bif (lim IntKind.u64
 (S.andB IntKind.u64 (IntKind.wrap IntKind.u64 (↑nl : Int)) (4294967295 : Int) *
 S.shrB IntKind.u64 (IntKind.wrap IntKind.u64 ct) (32 : Int)))
 then (bif (lim IntKind.u64
 (S.andB IntKind.u64
 (S.shrB IntKind.u64 (IntKind.wrap IntKind.u64 (↑nl : Int)) (32 : Int) *
 S.andB IntKind.u64 (IntKind.wrap IntKind.u64 ct) (4294967295 : Int) +
 S.shrB IntKind.u64
 (S.andB IntKind.u64 (IntKind.wrap IntKind.u64 (↑nl : Int)) (4294967295 : Int) *
 S.andB IntKind.u64 (IntKind.wrap IntKind.u64 ct) (4294967295 : Int))
 (32 : Int))
 (4294967295 : Int) +
 S.andB IntKind.u64 (IntKind.wrap IntKind.u64 (↑nl : Int)) (4294967295 : Int) *
 S.shrB IntKind.u64 (IntKind.wrap IntKind.u64 ct) (32 : Int)))
 then (bif (lim IntKind.u64
 (S.shrB IntKind.u64 (IntKind.wrap IntKind.u64 (↑nl : Int)) (32 : Int) *
 S.shrB IntKind.u64 (IntKind.wrap IntKind.u64 ct) (32 : Int)))
 then (bif (lim IntKind.u64
 (S.shrB IntKind.u64 (IntKind.wrap IntKind.u64 (↑nl : Int)) (32 : Int) *
 S.shrB IntKind.u64 (IntKind.wrap IntKind.u64 ct) (32 : Int) +
 S.shrB IntKind.u64
 (S.shrB IntKind.u64 (IntKind.wrap IntKind.u64 (↑nl : Int)) (32 : Int) *
 S.andB IntKind.u64 (IntKind.wrap IntKind.u64 ct) (4294967295 : Int) +
 S.shrB IntKind.u64
 (S.andB IntKind.u64 (IntKind.wrap IntKind.u64 (↑nl : Int)) (4294967295 : Int) *
 S.andB IntKind.u64 (IntKind.wrap IntKind.u64 ct) (4294967295 : Int))
 (32 : Int))
 (32 : Int)))
 then (bif (lim IntKind.u64
 (S.shrB IntKind.u64 (IntKind.wrap IntKind.u64 (↑nl : Int)) (32 : Int) *
 S.shrB IntKind.u64 (IntKind.wrap IntKind.u64 ct) (32 : Int) +
 S.shrB IntKind.u64
 (S.shrB IntKind.u64 (IntKind.wrap IntKind.u64 (↑nl : Int)) (32 : Int) *
 S.andB IntKind.u64 (IntKind.wrap IntKind.u64 ct) (4294967295 : Int) +
 S.shrB IntKind.u64
 (S.andB IntKind.u64 (IntKind.wrap IntKind.u64 (↑nl : Int)) (4294967295 : Int) *
 S.andB IntKind.u64 (IntKind.wrap IntKind.u64 ct) (4294967295 : Int))
 (32 : Int))
 (32 : Int) +
 S.shrB IntKind.u64
 (S.andB IntKind.u64
 (S.shrB IntKind.u64 (IntKind.wrap IntKind.u64 (↑nl : Int)) (32 : Int) *
 S.andB IntKind.u64 (IntKind.wrap IntKind.u64 ct) (4294967295 : Int) +
 S.shrB IntKind.u64
 (S.andB IntKind.u64 (IntKind.wrap IntKind.u64 (↑nl : Int)) (4294967295 : Int) *
 S.andB IntKind.u64 (IntKind.wrap IntKind.u64 ct) (4294967295 : Int))
 (32 : Int))
 (4294967295 : Int) +
 S.andB IntKind.u64 (IntKind.wrap IntKind.u64 (↑nl : Int)) (4294967295 : Int) *
 S.shrB IntKind.u64 (IntKind.wrap IntKind.u64 ct) (32 : Int))
 (32 : Int)))
 then (bif (lim IntKind.u64 (IntKind.wrap IntKind.u64 (↑nl : Int) * IntKind.wrap IntKind.u64 ct))
 then (bif (decide
 (S.shrB IntKind.u64 (IntKind.wrap IntKind.u64 (↑nl : Int)) (32 : Int) *
 S.shrB IntKind.u64 (IntKind.wrap IntKind.u64 ct) (32 : Int) +
 S.shrB IntKind.u64
 (S.shrB IntKind.u64 (IntKind.wrap IntKind.u64 (↑nl : Int)) (32 : Int) *
 S.andB IntKind.u64 (IntKind.wrap IntKind.u64 ct) (4294967295 : Int) +
 S.shrB IntKind.u64
 (S.andB IntKind.u64 (IntKind.wrap IntKind.u64 (↑nl : Int)) (4294967295 : Int) *
 S.andB IntKind.u64 (IntKind.wrap IntKind.u64 ct) (4294967295 : Int))
 (32 : Int))
 (32 : Int) +
 S.shrB IntKind.u64
 (S.andB IntKind.u64
 (S.shrB IntKind.u64 (IntKind.wrap IntKind.u64 (↑nl : Int)) (32 : Int) *
 S.andB IntKind.u64 (IntKind.wrap IntKind.u64 ct) (4294967295 : Int) +
 S.shrB IntKind.u64
 (S.andB IntKind.u64 (IntKind.wrap IntKind.u64 (↑nl : Int)) (4294967295 : Int) *
 S.andB IntKind.u64 (IntKind.wrap IntKind.u64 ct) (4294967295 : Int))
 (32 : Int))
 (4294967295 : Int) +
 S.andB IntKind.u64 (IntKind.wrap IntKind.u64 (↑nl : Int)) (4294967295 : Int) *
 S.shrB IntKind.u64 (IntKind.wrap IntKind.u64 ct) (32 : Int))
 (32 : Int) >
 (0 : Int)))
 then (none)
 else (bif (decide
 (IntKind.wrap IntKind.u64 (↑nl : Int) * IntKind.wrap IntKind.u64 ct > (9223372036854775807 : Int)))
 then (none)
 else (bif (decide
 ((0 : Int) ≤
 IntKind.wrap IntKind.i64 (IntKind.wrap IntKind.u64 (↑nl : Int) * IntKind.wrap IntKind.u64 ct) ∧
 IntKind.wrap IntKind.i64 (IntKind.wrap IntKind.u64 (↑nl : Int) * IntKind.wrap IntKind.u64 ct) ≤
 IntKind.wrap IntKind.i64
 (IntKind.wrap IntKind.u64 (↑nl : Int) * IntKind.wrap IntKind.u64 ct) ∧
 IntKind.wrap IntKind.i64 (IntKind.wrap IntKind.u64 (↑nl : Int) * IntKind.wrap IntKind.u64 ct) ≤
 (1000000 : Int)))
 then (bif (decide
 (0 +
 Min.min
 (Int.toNat
 (IntKind.wrap IntKind.i64
 (IntKind.wrap IntKind.u64 (↑nl : Int) * IntKind.wrap IntKind.u64 ct)))
 nl ≤
 Int.toNat
 (IntKind.wrap IntKind.i64 (IntKind.wrap IntKind.u64 (↑nl : Int) * IntKind.wrap IntKind.u64 ct))))
 then (bif (decide (al + nl ≤ ml))
 then (some (.inl (.h0 ((↑(Min.min
 (Int.toNat
 (IntKind.wrap IntKind.i64
 (IntKind.wrap IntKind.u64 (↑nl : Int) * IntKind.wrap IntKind.u64 ct)))
 nl) :
 Int)) (S.mkl
 (Int.toNat
 (IntKind.wrap IntKind.i64 (IntKind.wrap IntKind.u64 (↑nl : Int) * IntKind.wrap IntKind.u64 ct)))
 fun j =>
 bif Nat.ble (0) j then
 bif
 Nat.blt j
 (0 +
 Min.min
 (Int.toNat
 (IntKind.wrap IntKind.i64
 (IntKind.wrap IntKind.u64 (↑nl : Int) * IntKind.wrap IntKind.u64 ct)))
 nl) then
 tl (j + al)
 else (0 : Int)
 else (0 : Int)))))
 else (none))
 else (none))
 else (none))))
 else (none))
 else (none))
 else (none))
 else (none))
 else (none))
 else (none))
 else (none))
 else (none))
 else (none))
noncomputable def Te155 (test : Bool → Prop → Prop → Prop) (Kst : KS) (Kret : KR) (al nl ml : Nat) (tl : Nat → Int) (ct : Int) : Prop :=
  test (decide (ct < (0 : Int)))
 (False)
 (test (false)
 (False)
 (test (false)
 (False)
 (test (lim IntKind.u64
 (S.andB IntKind.u64 (IntKind.wrap IntKind.u64 (↑nl : Int)) (4294967295 : Int) *
 S.andB IntKind.u64 (IntKind.wrap IntKind.u64 ct) (4294967295 : Int)))
 (test (lim IntKind.u64
 (S.shrB IntKind.u64 (IntKind.wrap IntKind.u64 (↑nl : Int)) (32 : Int) *
 S.andB IntKind.u64 (IntKind.wrap IntKind.u64 ct) (4294967295 : Int)))
 (test (false)
 (False)
 (test (lim IntKind.u64
 (S.shrB IntKind.u64 (IntKind.wrap IntKind.u64 (↑nl : Int)) (32 : Int) *
 S.andB IntKind.u64 (IntKind.wrap IntKind.u64 ct) (4294967295 : Int) +
 S.shrB IntKind.u64
 (S.andB IntKind.u64 (IntKind.wrap IntKind.u64 (↑nl : Int)) (4294967295 : Int) *
 S.andB IntKind.u64 (IntKind.wrap IntKind.u64 ct) (4294967295 : Int))
 (32 : Int)))
 (test (false)
 (False)
 (test (lim IntKind.u64
 (S.andB IntKind.u64 (IntKind.wrap IntKind.u64 (↑nl : Int)) (4294967295 : Int) *
 S.shrB IntKind.u64 (IntKind.wrap IntKind.u64 ct) (32 : Int)))
 (test (lim IntKind.u64
 (S.andB IntKind.u64
 (S.shrB IntKind.u64 (IntKind.wrap IntKind.u64 (↑nl : Int)) (32 : Int) *
 S.andB IntKind.u64 (IntKind.wrap IntKind.u64 ct) (4294967295 : Int) +
 S.shrB IntKind.u64
 (S.andB IntKind.u64 (IntKind.wrap IntKind.u64 (↑nl : Int)) (4294967295 : Int) *
 S.andB IntKind.u64 (IntKind.wrap IntKind.u64 ct) (4294967295 : Int))
 (32 : Int))
 (4294967295 : Int) +
 S.andB IntKind.u64 (IntKind.wrap IntKind.u64 (↑nl : Int)) (4294967295 : Int) *
 S.shrB IntKind.u64 (IntKind.wrap IntKind.u64 ct) (32 : Int)))
 (test (lim IntKind.u64
 (S.shrB IntKind.u64 (IntKind.wrap IntKind.u64 (↑nl : Int)) (32 : Int) *
 S.shrB IntKind.u64 (IntKind.wrap IntKind.u64 ct) (32 : Int)))
 (test (lim IntKind.u64
 (S.shrB IntKind.u64 (IntKind.wrap IntKind.u64 (↑nl : Int)) (32 : Int) *
 S.shrB IntKind.u64 (IntKind.wrap IntKind.u64 ct) (32 : Int) +
 S.shrB IntKind.u64
 (S.shrB IntKind.u64 (IntKind.wrap IntKind.u64 (↑nl : Int)) (32 : Int) *
 S.andB IntKind.u64 (IntKind.wrap IntKind.u64 ct) (4294967295 : Int) +
 S.shrB IntKind.u64
 (S.andB IntKind.u64 (IntKind.wrap IntKind.u64 (↑nl : Int)) (4294967295 : Int) *
 S.andB IntKind.u64 (IntKind.wrap IntKind.u64 ct) (4294967295 : Int))
 (32 : Int))
 (32 : Int)))
 (test (false)
 (False)
 (test (lim IntKind.u64
 (S.shrB IntKind.u64 (IntKind.wrap IntKind.u64 (↑nl : Int)) (32 : Int) *
 S.shrB IntKind.u64 (IntKind.wrap IntKind.u64 ct) (32 : Int) +
 S.shrB IntKind.u64
 (S.shrB IntKind.u64 (IntKind.wrap IntKind.u64 (↑nl : Int)) (32 : Int) *
 S.andB IntKind.u64 (IntKind.wrap IntKind.u64 ct) (4294967295 : Int) +
 S.shrB IntKind.u64
 (S.andB IntKind.u64 (IntKind.wrap IntKind.u64 (↑nl : Int)) (4294967295 : Int) *
 S.andB IntKind.u64 (IntKind.wrap IntKind.u64 ct) (4294967295 : Int))
 (32 : Int))
 (32 : Int) +
 S.shrB IntKind.u64
 (S.andB IntKind.u64
 (S.shrB IntKind.u64 (IntKind.wrap IntKind.u64 (↑nl : Int)) (32 : Int) *
 S.andB IntKind.u64 (IntKind.wrap IntKind.u64 ct) (4294967295 : Int) +
 S.shrB IntKind.u64
 (S.andB IntKind.u64 (IntKind.wrap IntKind.u64 (↑nl : Int)) (4294967295 : Int) *
 S.andB IntKind.u64 (IntKind.wrap IntKind.u64 ct) (4294967295 : Int))
 (32 : Int))
 (4294967295 : Int) +
 S.andB IntKind.u64 (IntKind.wrap IntKind.u64 (↑nl : Int)) (4294967295 : Int) *
 S.shrB IntKind.u64 (IntKind.wrap IntKind.u64 ct) (32 : Int))
 (32 : Int)))
 (test (lim IntKind.u64 (IntKind.wrap IntKind.u64 (↑nl : Int) * IntKind.wrap IntKind.u64 ct))
 (test (decide
 (S.shrB IntKind.u64 (IntKind.wrap IntKind.u64 (↑nl : Int)) (32 : Int) *
 S.shrB IntKind.u64 (IntKind.wrap IntKind.u64 ct) (32 : Int) +
 S.shrB IntKind.u64
 (S.shrB IntKind.u64 (IntKind.wrap IntKind.u64 (↑nl : Int)) (32 : Int) *
 S.andB IntKind.u64 (IntKind.wrap IntKind.u64 ct) (4294967295 : Int) +
 S.shrB IntKind.u64
 (S.andB IntKind.u64 (IntKind.wrap IntKind.u64 (↑nl : Int)) (4294967295 : Int) *
 S.andB IntKind.u64 (IntKind.wrap IntKind.u64 ct) (4294967295 : Int))
 (32 : Int))
 (32 : Int) +
 S.shrB IntKind.u64
 (S.andB IntKind.u64
 (S.shrB IntKind.u64 (IntKind.wrap IntKind.u64 (↑nl : Int)) (32 : Int) *
 S.andB IntKind.u64 (IntKind.wrap IntKind.u64 ct) (4294967295 : Int) +
 S.shrB IntKind.u64
 (S.andB IntKind.u64 (IntKind.wrap IntKind.u64 (↑nl : Int)) (4294967295 : Int) *
 S.andB IntKind.u64 (IntKind.wrap IntKind.u64 ct) (4294967295 : Int))
 (32 : Int))
 (4294967295 : Int) +
 S.andB IntKind.u64 (IntKind.wrap IntKind.u64 (↑nl : Int)) (4294967295 : Int) *
 S.shrB IntKind.u64 (IntKind.wrap IntKind.u64 ct) (32 : Int))
 (32 : Int) >
 (0 : Int)))
 (False)
 (test (decide
 (IntKind.wrap IntKind.u64 (↑nl : Int) * IntKind.wrap IntKind.u64 ct > (9223372036854775807 : Int)))
 (False)
 (test (decide
 ((0 : Int) ≤
 IntKind.wrap IntKind.i64 (IntKind.wrap IntKind.u64 (↑nl : Int) * IntKind.wrap IntKind.u64 ct) ∧
 IntKind.wrap IntKind.i64 (IntKind.wrap IntKind.u64 (↑nl : Int) * IntKind.wrap IntKind.u64 ct) ≤
 IntKind.wrap IntKind.i64
 (IntKind.wrap IntKind.u64 (↑nl : Int) * IntKind.wrap IntKind.u64 ct) ∧
 IntKind.wrap IntKind.i64 (IntKind.wrap IntKind.u64 (↑nl : Int) * IntKind.wrap IntKind.u64 ct) ≤
 (1000000 : Int)))
 (test (decide
 (0 +
 Min.min
 (Int.toNat
 (IntKind.wrap IntKind.i64
 (IntKind.wrap IntKind.u64 (↑nl : Int) * IntKind.wrap IntKind.u64 ct)))
 nl ≤
 Int.toNat
 (IntKind.wrap IntKind.i64 (IntKind.wrap IntKind.u64 (↑nl : Int) * IntKind.wrap IntKind.u64 ct))))
 (test (decide (al + nl ≤ ml))
 (Kst (hd Try.f32 0) ([PV.own (1) (1)
 (Int.toNat
 (IntKind.wrap IntKind.i64
 (IntKind.wrap IntKind.u64 (↑nl : Int) * IntKind.wrap IntKind.u64 ct))),
 PV.int IntKind.i64
 (↑(Min.min
 (Int.toNat
 (IntKind.wrap IntKind.i64
 (IntKind.wrap IntKind.u64 (↑nl : Int) * IntKind.wrap IntKind.u64 ct)))
 nl) :
 Int)]) ([[(0, false, Blk.cols ml [Col.int IntKind.i64 tl]),
 (1, true,
 Blk.cols
 (Int.toNat
 (IntKind.wrap IntKind.i64
 (IntKind.wrap IntKind.u64 (↑nl : Int) * IntKind.wrap IntKind.u64 ct)))
 [Col.int IntKind.i64 fun j =>
 bif Nat.ble (0) j then
 bif
 Nat.blt j
 (0 +
 Min.min
 (Int.toNat
 (IntKind.wrap IntKind.i64
 (IntKind.wrap IntKind.u64 (↑nl : Int) * IntKind.wrap IntKind.u64 ct)))
 nl) then
 tl (j + al)
 else (0 : Int)
 else (0 : Int)])]]) (2))
 (False))
 (False))
 (False))))
 (False))
 (False)))
 (False))
 (False))
 (False))
 (False)))
 (False)))
 (False))
 (False))))
theorem te155 (test : Bool → Prop → Prop → Prop) (Kst : KS) (Kret : KR) (al nl ml : Nat) (tl : Nat → Int) (ct : Int) : run test Try.env true noX true 400 ⟨32, [.cd (mkFn Try.f32).body], argT 0 [.loose ⟨0, 1, al, 0⟩ nl, .int .i64 ct], [[], [(0, (false, .cols ml [.int .i64 tl]))]], 1⟩ (proj 1 [7, 8] Kst Kret) =
  Te155 test Kst Kret al nl ml tl ct := by kernel_rfl
noncomputable def T155_0 (test : Bool → Prop → Prop → Prop) (Kst : KS) (Kret : KR) (al nl ml : Nat) (tl : Nat → Int) (ct : Int) (x0 : Int) (x1 : List Int) : Prop :=
  test (decide (x0 < (↑(List.length x1) : Int)))
 (test (decide
 ((0 : Int) ≤ x0 ∧ x0 ≤ (↑(List.length x1) : Int) ∧ (↑(List.length x1) : Int) ≤ (↑(List.length x1) : Int)))
 (test (decide ((0 : Int) ≤ x0 ∧ x0 ≤ (↑(List.length x1) : Int)))
 (test (decide (Int.toNat x0 + Min.min (List.length x1 - Int.toNat x0) (Int.toNat x0) ≤ List.length x1))
 (test (decide (0 + Int.toNat x0 ≤ List.length x1))
 (test (lim IntKind.i64 (x0 + (↑(Min.min (List.length x1 - Int.toNat x0) (Int.toNat x0)) : Int)))
 (Kst (hd Try.f32 0) ([PV.own (1) (1) (List.length x1),
 PV.int IntKind.i64 (x0 + (↑(Min.min (List.length x1 - Int.toNat x0) (Int.toNat x0)) : Int))]) ([[(0, false, Blk.cols ml [Col.int IntKind.i64 tl]),
 (1, true,
 Blk.cols (List.length x1)
 [Col.int IntKind.i64 fun j =>
 bif Nat.ble (Int.toNat x0) j then
 bif Nat.blt j (Int.toNat x0 + Min.min (List.length x1 - Int.toNat x0) (Int.toNat x0)) then
 S.at' x1 (j - Int.toNat x0)
 else S.at' x1 j
 else S.at' x1 j])]]) (2))
 (False))
 (False))
 (False))
 (False))
 (False))
 (Kret (PV.own (1) (1) (List.length x1)) ([[(0, false, Blk.cols ml [Col.int IntKind.i64 tl]),
 (1, true,
 Blk.cols (List.length x1) [Col.int IntKind.i64 fun j => S.at' x1 j])]]) (2))
theorem t155_0 (test : Bool → Prop → Prop → Prop) (Kst : KS) (Kret : KR) (al nl ml : Nat) (tl : Nat → Int) (ct : Int) (x0 : Int) (x1 : List Int) : run test Try.env true noX true 400 ⟨32, hd Try.f32 0, zipT [7, 8] [PV.own (1) (1) (List.length x1), PV.int IntKind.i64 x0], [[(1, (true, Blk.cols (List.length x1) [Col.int IntKind.i64 fun j => S.at' x1 j]))], [(0, (false, .cols ml [.int .i64 tl]))]], 2⟩ (proj 1 [7, 8] Kst Kret) =
  T155_0 test Kst Kret al nl ml tl ct x0 x1 := by kernel_rfl
theorem be155 (al nl ml : Nat) (tl : Nat → Int) (ct : Int) (Kst : KS) (Kret : KR) (x : St155 ⊕ Rt155) (hS : HS 1 400 ((I155 al nl ml tl ct)) Kst x) (hR : HR 1 400 ((V155 al nl ml tl ct)) (fun r => [newL (1 + 1) ((N155 al nl ml tl ct) r) ++ [(0, (false, .cols ml [.int .i64 tl]))]]) Kret x) (h : (bif (decide (ct < (0 : Int)))
 then (none)
 else (bif (lim IntKind.u64
 (S.andB IntKind.u64 (IntKind.wrap IntKind.u64 (↑nl : Int)) (4294967295 : Int) *
 S.andB IntKind.u64 (IntKind.wrap IntKind.u64 ct) (4294967295 : Int)))
 then (bif (lim IntKind.u64
 (S.shrB IntKind.u64 (IntKind.wrap IntKind.u64 (↑nl : Int)) (32 : Int) *
 S.andB IntKind.u64 (IntKind.wrap IntKind.u64 ct) (4294967295 : Int)))
 then (bif (lim IntKind.u64
 (S.shrB IntKind.u64 (IntKind.wrap IntKind.u64 (↑nl : Int)) (32 : Int) *
 S.andB IntKind.u64 (IntKind.wrap IntKind.u64 ct) (4294967295 : Int) +
 S.shrB IntKind.u64
 (S.andB IntKind.u64 (IntKind.wrap IntKind.u64 (↑nl : Int)) (4294967295 : Int) *
 S.andB IntKind.u64 (IntKind.wrap IntKind.u64 ct) (4294967295 : Int))
 (32 : Int)))
 then (bif (lim IntKind.u64
 (S.andB IntKind.u64 (IntKind.wrap IntKind.u64 (↑nl : Int)) (4294967295 : Int) *
 S.shrB IntKind.u64 (IntKind.wrap IntKind.u64 ct) (32 : Int)))
 then (bif (lim IntKind.u64
 (S.andB IntKind.u64
 (S.shrB IntKind.u64 (IntKind.wrap IntKind.u64 (↑nl : Int)) (32 : Int) *
 S.andB IntKind.u64 (IntKind.wrap IntKind.u64 ct) (4294967295 : Int) +
 S.shrB IntKind.u64
 (S.andB IntKind.u64 (IntKind.wrap IntKind.u64 (↑nl : Int)) (4294967295 : Int) *
 S.andB IntKind.u64 (IntKind.wrap IntKind.u64 ct) (4294967295 : Int))
 (32 : Int))
 (4294967295 : Int) +
 S.andB IntKind.u64 (IntKind.wrap IntKind.u64 (↑nl : Int)) (4294967295 : Int) *
 S.shrB IntKind.u64 (IntKind.wrap IntKind.u64 ct) (32 : Int)))
 then (bif (lim IntKind.u64
 (S.shrB IntKind.u64 (IntKind.wrap IntKind.u64 (↑nl : Int)) (32 : Int) *
 S.shrB IntKind.u64 (IntKind.wrap IntKind.u64 ct) (32 : Int)))
 then (bif (lim IntKind.u64
 (S.shrB IntKind.u64 (IntKind.wrap IntKind.u64 (↑nl : Int)) (32 : Int) *
 S.shrB IntKind.u64 (IntKind.wrap IntKind.u64 ct) (32 : Int) +
 S.shrB IntKind.u64
 (S.shrB IntKind.u64 (IntKind.wrap IntKind.u64 (↑nl : Int)) (32 : Int) *
 S.andB IntKind.u64 (IntKind.wrap IntKind.u64 ct) (4294967295 : Int) +
 S.shrB IntKind.u64
 (S.andB IntKind.u64 (IntKind.wrap IntKind.u64 (↑nl : Int)) (4294967295 : Int) *
 S.andB IntKind.u64 (IntKind.wrap IntKind.u64 ct) (4294967295 : Int))
 (32 : Int))
 (32 : Int)))
 then (bif (lim IntKind.u64
 (S.shrB IntKind.u64 (IntKind.wrap IntKind.u64 (↑nl : Int)) (32 : Int) *
 S.shrB IntKind.u64 (IntKind.wrap IntKind.u64 ct) (32 : Int) +
 S.shrB IntKind.u64
 (S.shrB IntKind.u64 (IntKind.wrap IntKind.u64 (↑nl : Int)) (32 : Int) *
 S.andB IntKind.u64 (IntKind.wrap IntKind.u64 ct) (4294967295 : Int) +
 S.shrB IntKind.u64
 (S.andB IntKind.u64 (IntKind.wrap IntKind.u64 (↑nl : Int)) (4294967295 : Int) *
 S.andB IntKind.u64 (IntKind.wrap IntKind.u64 ct) (4294967295 : Int))
 (32 : Int))
 (32 : Int) +
 S.shrB IntKind.u64
 (S.andB IntKind.u64
 (S.shrB IntKind.u64 (IntKind.wrap IntKind.u64 (↑nl : Int)) (32 : Int) *
 S.andB IntKind.u64 (IntKind.wrap IntKind.u64 ct) (4294967295 : Int) +
 S.shrB IntKind.u64
 (S.andB IntKind.u64 (IntKind.wrap IntKind.u64 (↑nl : Int)) (4294967295 : Int) *
 S.andB IntKind.u64 (IntKind.wrap IntKind.u64 ct) (4294967295 : Int))
 (32 : Int))
 (4294967295 : Int) +
 S.andB IntKind.u64 (IntKind.wrap IntKind.u64 (↑nl : Int)) (4294967295 : Int) *
 S.shrB IntKind.u64 (IntKind.wrap IntKind.u64 ct) (32 : Int))
 (32 : Int)))
 then (bif (lim IntKind.u64 (IntKind.wrap IntKind.u64 (↑nl : Int) * IntKind.wrap IntKind.u64 ct))
 then (bif (decide
 (S.shrB IntKind.u64 (IntKind.wrap IntKind.u64 (↑nl : Int)) (32 : Int) *
 S.shrB IntKind.u64 (IntKind.wrap IntKind.u64 ct) (32 : Int) +
 S.shrB IntKind.u64
 (S.shrB IntKind.u64 (IntKind.wrap IntKind.u64 (↑nl : Int)) (32 : Int) *
 S.andB IntKind.u64 (IntKind.wrap IntKind.u64 ct) (4294967295 : Int) +
 S.shrB IntKind.u64
 (S.andB IntKind.u64 (IntKind.wrap IntKind.u64 (↑nl : Int)) (4294967295 : Int) *
 S.andB IntKind.u64 (IntKind.wrap IntKind.u64 ct) (4294967295 : Int))
 (32 : Int))
 (32 : Int) +
 S.shrB IntKind.u64
 (S.andB IntKind.u64
 (S.shrB IntKind.u64 (IntKind.wrap IntKind.u64 (↑nl : Int)) (32 : Int) *
 S.andB IntKind.u64 (IntKind.wrap IntKind.u64 ct) (4294967295 : Int) +
 S.shrB IntKind.u64
 (S.andB IntKind.u64 (IntKind.wrap IntKind.u64 (↑nl : Int)) (4294967295 : Int) *
 S.andB IntKind.u64 (IntKind.wrap IntKind.u64 ct) (4294967295 : Int))
 (32 : Int))
 (4294967295 : Int) +
 S.andB IntKind.u64 (IntKind.wrap IntKind.u64 (↑nl : Int)) (4294967295 : Int) *
 S.shrB IntKind.u64 (IntKind.wrap IntKind.u64 ct) (32 : Int))
 (32 : Int) >
 (0 : Int)))
 then (none)
 else (bif (decide
 (IntKind.wrap IntKind.u64 (↑nl : Int) * IntKind.wrap IntKind.u64 ct > (9223372036854775807 : Int)))
 then (none)
 else (bif (decide
 ((0 : Int) ≤
 IntKind.wrap IntKind.i64 (IntKind.wrap IntKind.u64 (↑nl : Int) * IntKind.wrap IntKind.u64 ct) ∧
 IntKind.wrap IntKind.i64 (IntKind.wrap IntKind.u64 (↑nl : Int) * IntKind.wrap IntKind.u64 ct) ≤
 IntKind.wrap IntKind.i64
 (IntKind.wrap IntKind.u64 (↑nl : Int) * IntKind.wrap IntKind.u64 ct) ∧
 IntKind.wrap IntKind.i64 (IntKind.wrap IntKind.u64 (↑nl : Int) * IntKind.wrap IntKind.u64 ct) ≤
 (1000000 : Int)))
 then (bif (decide
 (0 +
 Min.min
 (Int.toNat
 (IntKind.wrap IntKind.i64
 (IntKind.wrap IntKind.u64 (↑nl : Int) * IntKind.wrap IntKind.u64 ct)))
 nl ≤
 Int.toNat
 (IntKind.wrap IntKind.i64 (IntKind.wrap IntKind.u64 (↑nl : Int) * IntKind.wrap IntKind.u64 ct))))
 then (bif (decide (al + nl ≤ ml))
 then (some (.inl (.h0 ((↑(Min.min
 (Int.toNat
 (IntKind.wrap IntKind.i64
 (IntKind.wrap IntKind.u64 (↑nl : Int) * IntKind.wrap IntKind.u64 ct)))
 nl) :
 Int)) (S.mkl
 (Int.toNat
 (IntKind.wrap IntKind.i64 (IntKind.wrap IntKind.u64 (↑nl : Int) * IntKind.wrap IntKind.u64 ct)))
 fun j =>
 bif Nat.ble (0) j then
 bif
 Nat.blt j
 (0 +
 Min.min
 (Int.toNat
 (IntKind.wrap IntKind.i64
 (IntKind.wrap IntKind.u64 (↑nl : Int) * IntKind.wrap IntKind.u64 ct)))
 nl) then
 tl (j + al)
 else (0 : Int)
 else (0 : Int)))))
 else (none))
 else (none))
 else (none))))
 else (none))
 else (none))
 else (none))
 else (none))
 else (none))
 else (none))
 else (none))
 else (none))
 else (none)) : Option (St155 ⊕ Rt155)) = some x) : Te155 cond Kst Kret al nl ml tl ct := by
  unfold Te155
  exact bif_split h
   (fun c0 h => no_some h)
   (fun c0 h => cond_no rfl (cond_no rfl (bif_split h
   (fun c1 h => bif_split h
   (fun c2 h => cond_no rfl (bif_split h
   (fun c3 h => cond_no rfl (bif_split h
   (fun c4 h => bif_split h
   (fun c5 h => bif_split h
   (fun c6 h => bif_split h
   (fun c7 h => cond_no rfl (bif_split h
   (fun c8 h => bif_split h
   (fun c9 h => bif_split h
   (fun c10 h => no_some h)
   (fun c10 h => bif_split h
   (fun c11 h => no_some h)
   (fun c11 h => bif_split h
   (fun c12 h => bif_split h
   (fun c13 h => bif_split h
   (fun c14 h => stop_at hS _ h (fun n => bif Nat.beq n 1 then 1 else n) rfl rfl rfl ⟨(rn_own (use_own rfl) rfl mkl_len), ⟨(rn_int rfl), trivial⟩⟩ rfl (entl_new (use_own rfl) rfl (Nat.le_of_eq mkl_len) (rcs_int (fun _ hj => col_mkl (fun (t : Int) => t) hj) rcs_nil) (entl_bor (use_lo rfl) rfl rfl entl_nil)))
   (fun c14 h => no_some h))
   (fun c13 h => no_some h))
   (fun c12 h => no_some h))))
   (fun c9 h => no_some h))
   (fun c8 h => no_some h)))
   (fun c7 h => no_some h))
   (fun c6 h => no_some h))
   (fun c5 h => no_some h))
   (fun c4 h => no_some h)))
   (fun c3 h => no_some h)))
   (fun c2 h => no_some h))
   (fun c1 h => no_some h))))
theorem b155_0 (al nl ml : Nat) (tl : Nat → Int) (ct : Int) (Kst : KS) (Kret : KR) (x : St155 ⊕ Rt155) (hS : HS 1 400 ((I155 al nl ml tl ct)) Kst x) (hR : HR 1 400 ((V155 al nl ml tl ct)) (fun r => [newL (1 + 1) ((N155 al nl ml tl ct) r) ++ [(0, (false, .cols ml [.int .i64 tl]))]]) Kret x) (x0 : Int) (x1 : List Int) (h : (bif (decide (x0 < (↑(List.length x1) : Int)))
 then (bif (decide
 ((0 : Int) ≤ x0 ∧ x0 ≤ (↑(List.length x1) : Int) ∧ (↑(List.length x1) : Int) ≤ (↑(List.length x1) : Int)))
 then (bif (decide ((0 : Int) ≤ x0 ∧ x0 ≤ (↑(List.length x1) : Int)))
 then (bif (decide (Int.toNat x0 + Min.min (List.length x1 - Int.toNat x0) (Int.toNat x0) ≤ List.length x1))
 then (bif (decide (0 + Int.toNat x0 ≤ List.length x1))
 then (bif (lim IntKind.i64 (x0 + (↑(Min.min (List.length x1 - Int.toNat x0) (Int.toNat x0)) : Int)))
 then (some (.inl (.h0 (x0 + (↑(Min.min (List.length x1 - Int.toNat x0) (Int.toNat x0)) : Int)) (S.mkl (List.length x1) fun j =>
 bif Nat.ble (Int.toNat x0) j then
 bif Nat.blt j (Int.toNat x0 + Min.min (List.length x1 - Int.toNat x0) (Int.toNat x0)) then
 S.at' x1 (j - Int.toNat x0)
 else S.at' x1 j
 else S.at' x1 j))))
 else (none))
 else (none))
 else (none))
 else (none))
 else (none))
 else (some (.inr (x1))) : Option (St155 ⊕ Rt155)) = some x) : T155_0 cond Kst Kret al nl ml tl ct x0 x1 := by
  unfold T155_0
  exact bif_split h
   (fun c0 h => bif_split h
   (fun c1 h => bif_split h
   (fun c2 h => bif_split h
   (fun c3 h => bif_split h
   (fun c4 h => bif_split h
   (fun c5 h => stop_at hS _ h (fun n => bif Nat.beq n 1 then 1 else n) rfl rfl rfl ⟨(rn_own (use_own rfl) rfl mkl_len), ⟨(rn_int rfl), trivial⟩⟩ rfl (entl_new (use_own rfl) rfl (Nat.le_of_eq mkl_len) (rcs_int (fun _ hj => col_mkl (fun (t : Int) => t) hj) rcs_nil) (entl_bor (use_lo rfl) rfl rfl entl_nil)))
   (fun c5 h => no_some h))
   (fun c4 h => no_some h))
   (fun c3 h => no_some h))
   (fun c2 h => no_some h))
   (fun c1 h => no_some h))
   (fun c0 h => ret_at hR _ h (fun n => bif Nat.beq n 2 then 1 else n) rfl rfl rfl (rn_own (use_own rfl) rfl rfl) rfl (entl_new (use_own rfl) rfl (Nat.le_of_eq rfl) (rcs_int (fun _ _ => rfl) rcs_nil) (entl_bor (use_lo rfl) rfl rfl entl_nil)))
theorem a155 (al nl ml : Nat) (tl : Nat → Int) (ct : Int) {r : Rt155} (h : Goes ((q155 al nl ml tl ct)) ((p155 al nl ml tl ct)) r) : CallR Try.prog 32 [.loose ⟨0, 1, al, 0⟩ nl, .int .i64 ct] [[(0, (false, .cols ml [.int .i64 tl]))]] 1 ((V155 al nl ml tl ct) r) ((fun r => [newL (1 + 1) ((N155 al nl ml tl ct) r) ++ [(0, (false, .cols ml [.int .i64 tl]))]]) r) 400 ∧ ∃ F, Try.prog.funcs[32]? = some F ∧ F.body.isSome = true ∧ (F.name == "runtime.NumGoroutine") = false := by
  refine dec_calls (f := 32) (lo := 1) (hi := 400) (H := [[(0, (false, .cols ml [.int .i64 tl]))]]) (args := [.loose ⟨0, 1, al, 0⟩ nl, .int .i64 ct]) Try.envOk Try.mixed noX_ok ((I155 al nl ml tl ct)) ((V155 al nl ml tl ct)) (fun r => [newL (1 + 1) ((N155 al nl ml tl ct) r) ++ [(0, (false, .cols ml [.int .i64 tl]))]]) (fn := mkFn Try.f32) (ts := [7, 8]) (n := 400) rfl (by decide) (by simp) (names_of rfl) ?_ ?_ ?_ h
  · intro s; cases s <;> exact ⟨hd_ok _ _, by simp [I155], names_of rfl, Nat.le_of_ble_eq_true rfl⟩
  · intro Kst Kret x hS hR h
    exact Holds.eq (te155 cond Kst Kret al nl ml tl ct) (be155 al nl ml tl ct Kst Kret x hS hR h)
  · intro Kst Kret x hS hR s h
    cases s with
    | h0 x0 x1 => exact Holds.eq (t155_0 cond Kst Kret al nl ml tl ct x0 x1) (b155_0 al nl ml tl ct Kst Kret x hS hR x0 x1 h)
noncomputable def k155 : Con := ⟨32, [.one (.list [.int .i64]), .one (.plain (.int .i64))], fun (x : (Nat × Nat × Nat × (Nat → Int) × Unit) × Int × Unit) => (fun (al nl ml : Nat) (tl : Nat → Int) (ct : Int) => decide ((al + nl ≤ ml ∧ nl ≤ 1000) ∧ 0 ≤ ct ∧ ct ≤ 1000)) x.1.1 x.1.2.1 x.1.2.2.1 x.1.2.2.2.1 x.2.1, fun (x : (Nat × Nat × Nat × (Nat → Int) × Unit) × Int × Unit) => (fun (al nl ml : Nat) (tl : Nat → Int) (ct : Int) => (V155 al nl ml tl ct) (S.mkl (nl * ct.toNat) fun j => tl ((j % nl) + al))) x.1.1 x.1.2.1 x.1.2.2.1 x.1.2.2.2.1 x.2.1, fun (x : (Nat × Nat × Nat × (Nat → Int) × Unit) × Int × Unit) => (fun (al nl ml : Nat) (tl : Nat → Int) (ct : Int) => (N155 al nl ml tl ct) (S.mkl (nl * ct.toNat) fun j => tl ((j % nl) + al))) x.1.1 x.1.2.1 x.1.2.2.1 x.1.2.2.2.1 x.2.1, fun _ _ => .dead⟩
theorem s155' (al nl ml : Nat) (tl : Nat → Int) (ct : Int) (c : Nat) (hT : nl * c ≤ 1000000) (h0 : 0 < nl) : ∀ (k d : Nat) (L : List Int), d + k = nl * c → 0 < d → (d % nl = 0 ∨ d = nl * c) → Holds (L = S.mkl (nl * c) (fun j => if j < d then tl ((j % nl) + al) else 0)) → Comes (q155 al nl ml tl ct) (.h0 (d : Int) L) (S.mkl (nl * c) fun j => tl ((j % nl) + al)) := by
  intro k
  induction k using Nat.strongRecOn with
  | ind k ih =>
    intro d L hk hd hm eL
    have hL : L.length = nl * c := by rw [eL.get, mkl_len]
    by_cases hz : k = 0
    · subst hz
      have e : L = S.mkl (nl * c) fun j => tl ((j % nl) + al) := by
        rw [eL.get]; exact mkl_congr fun j hj => if_pos (by omega)
      apply Comes.of
      show Goes _ _ _
      (first | rw [q155] | unfold q155)
      repeat' first
        | with_reducible refine goes_if (fun h => ?_) (fun h => ?_) <;> (try simp only [lim64, imp_false, decide_eq_true_eq, decide_eq_false_iff_not, Int.toNat_natCast, toNat_pred, toNat_succ, Option.getD_some, Option.getD_none, Bool.not_eq_true', Bool.not_eq_false', Bool.and_eq_true, Bool.or_eq_true, Bool.and_eq_false_iff, Bool.or_eq_false_iff, bne_iff_ne, beq_iff_eq, bne_eq_false_iff_eq, beq_eq_false_iff_ne, ne_eq, not_and, Int.not_le, Int.not_lt, ge_iff_le, gt_iff_lt, Nat.not_lt, Nat.not_le, Bool.not_eq_true, Bool.not_eq_false, Bool.true_eq_false, Bool.false_eq_true, not_false_eq_true, not_true_eq_false] at h)
        | exact goes_none.mpr (by omega)
      all_goals first | (exfalso; omega) | exact goes_inr.mpr e
    · have hm : d % nl = 0 := by omega
      have hn : min (L.length - d) d ≤ L.length - d ∧ min (L.length - d) d ≤ d ∧ 0 < min (L.length - d) d := by omega
      have ih := ih (k - min (L.length - d) d) (by omega) (d + min (L.length - d) d) (S.mkl L.length fun j => bif Nat.ble d j then bif Nat.blt j (d + min (L.length - d) d) then S.at' L (j - d) else S.at' L j else S.at' L j) (by omega) (by omega) (by
          rcases Nat.le_total (L.length - d) d with h1 | h1
          · right; omega
          · left; rw [Nat.min_eq_right h1, Nat.add_mod, hm]; simp) ⟨by
          rw [hL]
          refine mkl_congr fun j hj => ?_
          have ea : ∀ j, j < nl * c → S.at' L j = if j < d then tl ((j % nl) + al) else 0 := fun j hj => by rw [eL.get, at_mkl hj]
          by_cases h1 : d ≤ j
          · rw [show Nat.ble d j = true by rw [Nat.ble_eq]; exact h1, cond_true]
            by_cases h2 : j < d + min (nl * c - d) d
            · rw [show Nat.blt j (d + min (nl * c - d) d) = true by rw [Nat.blt_eq]; exact h2, cond_true, if_pos h2, ea (j - d) (by omega), if_pos (by omega)]
              have e : (j - d) % nl = j % nl := by
                obtain ⟨w, hw⟩ := Nat.dvd_of_mod_eq_zero hm
                have : j = (j - d) + nl * w := by omega
                rw [this, Nat.add_mul_mod_self_left]
                congr 1; omega
              rw [e]
            · rw [show Nat.blt j (d + min (nl * c - d) d) = false by cases hb : Nat.blt j (d + min (nl * c - d) d); rfl; exact absurd (lt_ok hb) h2, cond_false, if_neg h2, ea j hj, if_neg (by omega)]
          · rw [show Nat.ble d j = false by cases hb : Nat.ble d j; rfl; exact absurd (le_ok hb) h1, cond_false, ea j hj, if_pos (by omega), if_pos (by omega)]⟩
      have e1 : ((d : Int) + ((min (L.length - d) d : Nat) : Int)) = ((d + min (L.length - d) d : Nat) : Int) := by omega
      apply Comes.of
      show Goes _ _ _
      (first | rw [q155] | unfold q155)
      try simp only [Int.toNat_natCast, e1]
      try show Goes _ _ _
      repeat' first
        | with_reducible refine goes_if (fun h => ?_) (fun h => ?_) <;> (try simp only [lim64, imp_false, decide_eq_true_eq, decide_eq_false_iff_not, Int.toNat_natCast, toNat_pred, toNat_succ, Option.getD_some, Option.getD_none, Bool.not_eq_true', Bool.not_eq_false', Bool.and_eq_true, Bool.or_eq_true, Bool.and_eq_false_iff, Bool.or_eq_false_iff, bne_iff_ne, beq_iff_eq, bne_eq_false_iff_eq, beq_eq_false_iff_ne, ne_eq, not_and, Int.not_le, Int.not_lt, ge_iff_le, gt_iff_lt, Nat.not_lt, Nat.not_le, Bool.not_eq_true, Bool.not_eq_false, Bool.true_eq_false, Bool.false_eq_true, not_false_eq_true, not_true_eq_false] at h)
        | exact goes_none.mpr (by omega)
      all_goals first | (exfalso; omega) | exact ih
theorem s155 (al nl ml : Nat) (tl : Nat → Int) (ct : Int) (hp : (al + nl ≤ ml ∧ nl ≤ 1000) ∧ 0 ≤ ct ∧ ct ≤ 1000) : Goes ((q155 al nl ml tl ct)) ((p155 al nl ml tl ct)) (S.mkl (nl * ct.toNat) fun j => tl ((j % nl) + al)) := by
  obtain ⟨⟨hp1, hp2⟩, hp3, hp4⟩ := hp
  obtain ⟨c, rfl⟩ := Int.eq_ofNat_of_zero_le hp3
  have hc : c ≤ 1000 := by omega
  have hT0 : nl * c ≤ 1000 * 1000 := Nat.mul_le_mul hp2 hc
  have hT : nl * c ≤ 1000000 := hT0
  have hmul : (nl : Int) * (c : Int) = ((nl * c : Nat) : Int) := (Int.natCast_mul nl c).symm
  have w1 : IntKind.wrap .u64 (nl : Int) = nl := u64_in _ (by omega)
  have w2 : IntKind.wrap .u64 (c : Int) = c := u64_in _ (by omega)
  have w3 : IntKind.wrap .i64 ((nl * c : Nat) : Int) = ((nl * c : Nat) : Int) := i64_in _ (by omega)
  have a1 : S.andB .u64 (nl : Int) 4294967295 = nl := and32 (by omega)
  have a2 : S.andB .u64 (c : Int) 4294967295 = c := and32 (by omega)
  have a0 : S.andB .u64 0 4294967295 = 0 := and32 (by decide)
  have h1 : S.shrB .u64 (nl : Int) 32 = 0 := shr32 (by omega)
  have h2 : S.shrB .u64 (c : Int) 32 = 0 := shr32 (by omega)
  have h3 : S.shrB .u64 ((nl * c : Nat) : Int) 32 = 0 := shr32 (by omega)
  have h0 : S.shrB .u64 0 32 = 0 := shr32 (by decide)
  have hl0 : lim .u64 0 = true := rfl
  have hl1 : lim .u64 ((nl * c : Nat) : Int) = true := by rw [limu64]; exact decide_eq_true (by omega)
  rw [Int.toNat_natCast]
  unfold p155
  simp only [w1, w2, a1, a2, h1, h2, hmul, w3, h3, a0, h0, Int.zero_mul, Int.mul_zero, Int.add_zero, Int.zero_add, hl0, hl1, cond_true, Int.toNat_natCast]
  have hm : 0 < nl → 0 < c → Comes (q155 al nl ml tl (c : Int)) (.h0 (((min (nl * c) nl : Nat)) : Int) (S.mkl (nl * c) fun j => bif Nat.ble 0 j then bif Nat.blt j (0 + min (nl * c) nl) then tl (j + al) else 0 else 0)) (S.mkl (nl * c) fun j => tl ((j % nl) + al)) := fun q1 q2 => by
    have e : min (nl * c) nl = nl := Nat.min_eq_right (Nat.le_mul_of_pos_right nl q2)
    rw [e]
    refine s155' al nl ml tl (c : Int) c hT q1 (nl * c - nl) nl _ (by have := Nat.le_mul_of_pos_right nl q2; omega) q1 (.inl (Nat.mod_self nl)) ⟨mkl_congr fun j hj => ?_⟩
    rw [show Nat.ble 0 j = true by rw [Nat.ble_eq]; omega, cond_true, Nat.zero_add]
    by_cases h : j < nl
    · rw [show Nat.blt j nl = true by rw [Nat.blt_eq]; exact h, cond_true, if_pos h, Nat.mod_eq_of_lt h]
    · rw [show Nat.blt j nl = false by cases hb : Nat.blt j nl; rfl; exact absurd (lt_ok hb) h, cond_false, if_neg h]
  have hz : nl = 0 ∨ c = 0 → nl * c = 0 := fun h => by rcases h with h | h <;> rw [h] <;> simp
  have hz2 : ∀ (f g : Nat → Int), nl * c = 0 → S.mkl (nl * c) f = S.mkl (nl * c) g := fun f g h => by rw [h]; rfl
  show Goes _ _ _
  by_cases hn : nl = 0 ∨ c = 0
  · have hz := hz hn
    repeat' first
      | with_reducible refine goes_if (fun h => ?_) (fun h => ?_) <;> (try simp only [lim64, imp_false, decide_eq_true_eq, decide_eq_false_iff_not, Int.toNat_natCast, toNat_pred, toNat_succ, Option.getD_some, Option.getD_none, Bool.not_eq_true', Bool.not_eq_false', Bool.and_eq_true, Bool.or_eq_true, Bool.and_eq_false_iff, Bool.or_eq_false_iff, bne_iff_ne, beq_iff_eq, bne_eq_false_iff_eq, beq_eq_false_iff_ne, ne_eq, not_and, Int.not_le, Int.not_lt, ge_iff_le, gt_iff_lt, Nat.not_lt, Nat.not_le, Bool.not_eq_true, Bool.not_eq_false, Bool.true_eq_false, Bool.false_eq_true, not_false_eq_true, not_true_eq_false] at h)
      | exact goes_none.mpr (by omega)
    all_goals first
      | (exfalso; omega)
      | (apply Comes.of
         show Goes _ _ _
         (first | rw [q155] | unfold q155)
         repeat' first
           | with_reducible refine goes_if (fun h => ?_) (fun h => ?_) <;> (try simp only [lim64, imp_false, decide_eq_true_eq, decide_eq_false_iff_not, Int.toNat_natCast, toNat_pred, toNat_succ, Option.getD_some, Option.getD_none, Bool.not_eq_true', Bool.not_eq_false', Bool.and_eq_true, Bool.or_eq_true, Bool.and_eq_false_iff, Bool.or_eq_false_iff, bne_iff_ne, beq_iff_eq, bne_eq_false_iff_eq, beq_eq_false_iff_ne, ne_eq, not_and, Int.not_le, Int.not_lt, ge_iff_le, gt_iff_lt, Nat.not_lt, Nat.not_le, Bool.not_eq_true, Bool.not_eq_false, Bool.true_eq_false, Bool.false_eq_true, not_false_eq_true, not_true_eq_false, mkl_len] at h)
           | exact goes_none.mpr (by omega)
         all_goals first | (exfalso; omega) | (exfalso; simp_all; done) | exact goes_inr.mpr (hz2 _ _ hz))
  · have hm := hm (by omega) (by omega)
    repeat' first
      | with_reducible refine goes_if (fun h => ?_) (fun h => ?_) <;> (try simp only [lim64, imp_false, decide_eq_true_eq, decide_eq_false_iff_not, Int.toNat_natCast, toNat_pred, toNat_succ, Option.getD_some, Option.getD_none, Bool.not_eq_true', Bool.not_eq_false', Bool.and_eq_true, Bool.or_eq_true, Bool.and_eq_false_iff, Bool.or_eq_false_iff, bne_iff_ne, beq_iff_eq, bne_eq_false_iff_eq, beq_eq_false_iff_ne, ne_eq, not_and, Int.not_le, Int.not_lt, ge_iff_le, gt_iff_lt, Nat.not_lt, Nat.not_le, Bool.not_eq_true, Bool.not_eq_false, Bool.true_eq_false, Bool.false_eq_true, not_false_eq_true, not_true_eq_false] at h)
      | exact goes_none.mpr (by omega)
    all_goals first | (exfalso; omega) | exact hm
theorem k155_ok : k155.ok Try.prog := by
  intro x hx
  obtain ⟨⟨al, nl, ml, tl, _⟩, ct, _⟩ := x
  obtain ⟨h1, h2⟩ := a155 al nl ml tl ct (s155 al nl ml tl ct (of_dec hx rfl))
  exact ⟨⟨400, (by decide : 1 + 1 + 1 ≤ 400), h1⟩, h2⟩
noncomputable def xR (test : Bool → Prop → Prop → Prop) : Ext := consX test [k155]
theorem xR_ok : ExtOk Try.prog (xR cond) := consX_ok ⟨k155_ok, trivial⟩
inductive St116 where
  | h0 (x0 : Int)
abbrev Rt116 := Int
noncomputable def V116 (cn : ByteArray) (aq nq mq : Nat) (tq : Nat → Int) (rp : Int) (fl : Int) (r : Rt116) : PV := PV.int IntKind.i64 r
noncomputable def N116 (cn : ByteArray) (aq nq mq : Nat) (tq : Nat → Int) (rp : Int) (fl : Int) (r : Rt116) : List Blk := []
noncomputable def I116 (cn : ByteArray) (aq nq mq : Nat) (tq : Nat → Int) (rp : Int) (fl : Int) : St116 → Hd
  | .h0 x0 => ⟨hd Try.f22 0, [PV.ptr (PA.mk (1) (0) (0) (0)),
 PV.loose (PA.mk (0) (1) aq (0)) nq, PV.int IntKind.i64 (↑nq : Int),
 PV.int IntKind.i64 x0], [[(1, (true, Blk.cells
 [PV.str cn, PV.loose (PA.mk (0) (1) aq (0)) nq,
 PV.int IntKind.i64 rp, PV.int IntKind.i64 fl]))], [(0, (false, .cols mq [.int .i64 tq]))]], 2⟩
noncomputable def q116 (cn : ByteArray) (aq nq mq : Nat) (tq : Nat → Int) (rp : Int) (fl : Int) : St116 → Option (St116 ⊕ Rt116)
  | .h0 x0 => bif (decide (x0 < (↑nq : Int)))
 then (bif (decide ((0 : Int) ≤ x0 ∧ x0 < (↑nq : Int)))
 then (bif (decide (Int.toNat x0 + aq < mq))
 then (bif (decide (tq (Int.toNat x0 + aq) ≥ (-1099511627776 : Int)))
 then (bif (decide (tq (Int.toNat x0 + aq) ≤ (1099511627776 : Int)))
 then (bif (decide (x0 > (0 : Int)))
 then (bif (lim IntKind.i64 (x0 - (1 : Int)))
 then (bif (decide ((0 : Int) ≤ x0 - (1 : Int) ∧ x0 - (1 : Int) < (↑nq : Int)))
 then (bif (decide (Int.toNat (x0 - (1 : Int)) + aq < mq))
 then (bif (tq (Int.toNat x0 + aq) == tq (Int.toNat (x0 - (1 : Int)) + aq))
 then (some (.inr ((12 : Int))))
 else (bif (lim IntKind.i64 (x0 + (1 : Int)))
 then (some (.inl (.h0 (x0 + (1 : Int)))))
 else (none)))
 else (none))
 else (none))
 else (none))
 else (bif (lim IntKind.i64 (x0 + (1 : Int)))
 then (some (.inl (.h0 (x0 + (1 : Int)))))
 else (none)))
 else (some (.inr ((6 : Int)))))
 else (some (.inr ((6 : Int)))))
 else (none))
 else (none))
 else (bif (decide (rp < (1 : Int)))
 then (some (.inr ((6 : Int))))
 else (bif (decide (rp > (9 : Int)))
 then (some (.inr ((6 : Int))))
 else (bif (decide (fl ≥ (-1099511627776 : Int)))
 then (bif (decide (fl ≤ (1099511627776 : Int)))
 then (bif (lim IntKind.i64 ((↑nq : Int) - (1 : Int)))
 then (bif (decide ((0 : Int) ≤ (↑nq : Int) - (1 : Int) ∧ (↑nq : Int) - (1 : Int) < (↑nq : Int)))
 then (bif (decide (Int.toNat ((↑nq : Int) - (1 : Int)) + aq < mq))
 then (bif (fl == tq (Int.toNat ((↑nq : Int) - (1 : Int)) + aq))
 then (some (.inr ((12 : Int))))
 else (some (.inr ((0 : Int)))))
 else (none))
 else (none))
 else (none))
 else (some (.inr ((6 : Int)))))
 else (some (.inr ((6 : Int)))))))
noncomputable def p116 (cn : ByteArray) (aq nq mq : Nat) (tq : Nat → Int) (rp : Int) (fl : Int) : Option (St116 ⊕ Rt116) := bif (S.isNam cn)
 then (bif (decide ((↑nq : Int) < (2 : Int)))
 then (some (.inr ((7 : Int))))
 else (bif (decide ((↑nq : Int) > (20 : Int)))
 then (some (.inr ((3 : Int))))
 else (some (.inl (.h0 ((0 : Int)))))))
 else (some (.inr ((2 : Int))))
noncomputable def Te116 (test : Bool → Prop → Prop → Prop) (Kst : KS) (Kret : KR) (cn : ByteArray) (aq nq mq : Nat) (tq : Nat → Int) (rp : Int) (fl : Int) : Prop :=
  test (true)
 (test (S.isNam cn)
 (test (decide ((↑nq : Int) < (2 : Int)))
 (Kret (PV.int IntKind.i64 (7 : Int)) ([[(0, false, Blk.cols mq [Col.int IntKind.i64 tq])]]) (3))
 (test (decide ((↑nq : Int) > (20 : Int)))
 (Kret (PV.int IntKind.i64 (3 : Int)) ([[(0, false, Blk.cols mq [Col.int IntKind.i64 tq])]]) (3))
 (Kst (hd Try.f22 0) ([PV.ptr (PA.mk (1) (0) (0) (0)),
 PV.loose (PA.mk (0) (1) aq (0)) nq, PV.int IntKind.i64 (↑nq : Int),
 PV.int IntKind.i64 (0 : Int)]) ([[(0, false, Blk.cols mq [Col.int IntKind.i64 tq]),
 (1, true,
 Blk.cells
 [PV.str cn, PV.loose (PA.mk (0) (1) aq (0)) nq,
 PV.int IntKind.i64 rp, PV.int IntKind.i64 fl])]]) (3))))
 (Kret (PV.int IntKind.i64 (2 : Int)) ([[(0, false, Blk.cols mq [Col.int IntKind.i64 tq])]]) (3)))
 (False)
theorem te116 (test : Bool → Prop → Prop → Prop) (Kst : KS) (Kret : KR) (cn : ByteArray) (aq nq mq : Nat) (tq : Nat → Int) (rp : Int) (fl : Int) : run test Try.env true (xN test) true 400 ⟨22, [.cd (mkFn Try.f22).body], argT 0 [.agg [.str cn, .loose ⟨0, 1, aq, 0⟩ nq, .int .i64 rp, .int .i64 fl]], [[], [(0, (false, .cols mq [.int .i64 tq]))]], 1⟩ (proj 1 [1, 18, 19, 20] Kst Kret) =
  Te116 test Kst Kret cn aq nq mq tq rp fl := by kernel_rfl
noncomputable def T116_0 (test : Bool → Prop → Prop → Prop) (Kst : KS) (Kret : KR) (cn : ByteArray) (aq nq mq : Nat) (tq : Nat → Int) (rp : Int) (fl : Int) (x0 : Int) : Prop :=
  test (decide (x0 < (↑nq : Int)))
 (test (decide ((0 : Int) ≤ x0 ∧ x0 < (↑nq : Int)))
 (test (decide (Int.toNat x0 + aq < mq))
 (test (decide (tq (Int.toNat x0 + aq) ≥ (-1099511627776 : Int)))
 (test (decide (tq (Int.toNat x0 + aq) ≤ (1099511627776 : Int)))
 (test (decide (x0 > (0 : Int)))
 (test (lim IntKind.i64 (x0 - (1 : Int)))
 (test (decide ((0 : Int) ≤ x0 - (1 : Int) ∧ x0 - (1 : Int) < (↑nq : Int)))
 (test (decide (Int.toNat (x0 - (1 : Int)) + aq < mq))
 (test (tq (Int.toNat x0 + aq) == tq (Int.toNat (x0 - (1 : Int)) + aq))
 (Kret (PV.int IntKind.i64 (12 : Int)) ([[(0, false, Blk.cols mq [Col.int IntKind.i64 tq])]]) (2))
 (test (lim IntKind.i64 (x0 + (1 : Int)))
 (Kst (hd Try.f22 0) ([PV.ptr (PA.mk (1) (0) (0) (0)),
 PV.loose (PA.mk (0) (1) aq (0)) nq, PV.int IntKind.i64 (↑nq : Int),
 PV.int IntKind.i64 (x0 + (1 : Int))]) ([[(0, false, Blk.cols mq [Col.int IntKind.i64 tq]),
 (1, true,
 Blk.cells
 [PV.str cn, PV.loose (PA.mk (0) (1) aq (0)) nq,
 PV.int IntKind.i64 rp, PV.int IntKind.i64 fl])]]) (2))
 (False)))
 (False))
 (False))
 (False))
 (test (lim IntKind.i64 (x0 + (1 : Int)))
 (Kst (hd Try.f22 0) ([PV.ptr (PA.mk (1) (0) (0) (0)),
 PV.loose (PA.mk (0) (1) aq (0)) nq, PV.int IntKind.i64 (↑nq : Int),
 PV.int IntKind.i64 (x0 + (1 : Int))]) ([[(0, false, Blk.cols mq [Col.int IntKind.i64 tq]),
 (1, true,
 Blk.cells
 [PV.str cn, PV.loose (PA.mk (0) (1) aq (0)) nq,
 PV.int IntKind.i64 rp, PV.int IntKind.i64 fl])]]) (2))
 (False)))
 (Kret (PV.int IntKind.i64 (6 : Int)) ([[(0, false, Blk.cols mq [Col.int IntKind.i64 tq])]]) (2)))
 (Kret (PV.int IntKind.i64 (6 : Int)) ([[(0, false, Blk.cols mq [Col.int IntKind.i64 tq])]]) (2)))
 (False))
 (False))
 (test (decide (rp < (1 : Int)))
 (Kret (PV.int IntKind.i64 (6 : Int)) ([[(0, false, Blk.cols mq [Col.int IntKind.i64 tq])]]) (2))
 (test (decide (rp > (9 : Int)))
 (Kret (PV.int IntKind.i64 (6 : Int)) ([[(0, false, Blk.cols mq [Col.int IntKind.i64 tq])]]) (2))
 (test (decide (fl ≥ (-1099511627776 : Int)))
 (test (decide (fl ≤ (1099511627776 : Int)))
 (test (lim IntKind.i64 ((↑nq : Int) - (1 : Int)))
 (test (decide ((0 : Int) ≤ (↑nq : Int) - (1 : Int) ∧ (↑nq : Int) - (1 : Int) < (↑nq : Int)))
 (test (decide (Int.toNat ((↑nq : Int) - (1 : Int)) + aq < mq))
 (test (fl == tq (Int.toNat ((↑nq : Int) - (1 : Int)) + aq))
 (Kret (PV.int IntKind.i64 (12 : Int)) ([[(0, false, Blk.cols mq [Col.int IntKind.i64 tq])]]) (3))
 (Kret (PV.int IntKind.i64 (0 : Int)) ([[(0, false, Blk.cols mq [Col.int IntKind.i64 tq])]]) (3)))
 (False))
 (False))
 (False))
 (Kret (PV.int IntKind.i64 (6 : Int)) ([[(0, false, Blk.cols mq [Col.int IntKind.i64 tq])]]) (2)))
 (Kret (PV.int IntKind.i64 (6 : Int)) ([[(0, false, Blk.cols mq [Col.int IntKind.i64 tq])]]) (2)))))
theorem t116_0 (test : Bool → Prop → Prop → Prop) (Kst : KS) (Kret : KR) (cn : ByteArray) (aq nq mq : Nat) (tq : Nat → Int) (rp : Int) (fl : Int) (x0 : Int) : run test Try.env true (xN test) true 400 ⟨22, hd Try.f22 0, zipT [1, 18, 19, 20] [PV.ptr (PA.mk (1) (0) (0) (0)),
 PV.loose (PA.mk (0) (1) aq (0)) nq, PV.int IntKind.i64 (↑nq : Int),
 PV.int IntKind.i64 x0], [[(1, (true, Blk.cells
 [PV.str cn, PV.loose (PA.mk (0) (1) aq (0)) nq,
 PV.int IntKind.i64 rp, PV.int IntKind.i64 fl]))], [(0, (false, .cols mq [.int .i64 tq]))]], 2⟩ (proj 1 [1, 18, 19, 20] Kst Kret) =
  T116_0 test Kst Kret cn aq nq mq tq rp fl x0 := by kernel_rfl
theorem be116 (cn : ByteArray) (aq nq mq : Nat) (tq : Nat → Int) (rp : Int) (fl : Int) (Kst : KS) (Kret : KR) (x : St116 ⊕ Rt116) (hS : HS 1 400 ((I116 cn aq nq mq tq rp fl)) Kst x) (hR : HR 1 400 ((V116 cn aq nq mq tq rp fl)) (fun r => [newL (1 + 1) ((N116 cn aq nq mq tq rp fl) r) ++ [(0, (false, .cols mq [.int .i64 tq]))]]) Kret x) (h : (bif (S.isNam cn)
 then (bif (decide ((↑nq : Int) < (2 : Int)))
 then (some (.inr ((7 : Int))))
 else (bif (decide ((↑nq : Int) > (20 : Int)))
 then (some (.inr ((3 : Int))))
 else (some (.inl (.h0 ((0 : Int)))))))
 else (some (.inr ((2 : Int)))) : Option (St116 ⊕ Rt116)) = some x) : Te116 cond Kst Kret cn aq nq mq tq rp fl := by
  unfold Te116
  exact cond_yes rfl (bif_split h
   (fun c0 h => bif_split h
   (fun c1 h => ret_at hR _ h (fun n => n) rfl rfl rfl (rn_int rfl) rfl (entl_bor (use_lo rfl) rfl rfl entl_nil))
   (fun c1 h => bif_split h
   (fun c2 h => ret_at hR _ h (fun n => n) rfl rfl rfl (rn_int rfl) rfl (entl_bor (use_lo rfl) rfl rfl entl_nil))
   (fun c2 h => stop_at hS _ h (fun n => bif Nat.beq n 1 then 1 else n) rfl rfl rfl ⟨(rn_ptr (use_own rfl) rfl rfl), ⟨(rn_loose (use_lo rfl) rfl rfl rfl), ⟨(rn_int rfl), ⟨(rn_int rfl), trivial⟩⟩⟩⟩ rfl (entl_b (use_own rfl) rfl (by simp) (rb_cells ⟨(rn_str rfl), (rn_loose (use_lo rfl) rfl rfl rfl), (rn_int rfl), (rn_int rfl), trivial⟩) (entl_bor (use_lo rfl) rfl rfl entl_nil)))))
   (fun c0 h => ret_at hR _ h (fun n => n) rfl rfl rfl (rn_int rfl) rfl (entl_bor (use_lo rfl) rfl rfl entl_nil)))
theorem b116_0 (cn : ByteArray) (aq nq mq : Nat) (tq : Nat → Int) (rp : Int) (fl : Int) (Kst : KS) (Kret : KR) (x : St116 ⊕ Rt116) (hS : HS 1 400 ((I116 cn aq nq mq tq rp fl)) Kst x) (hR : HR 1 400 ((V116 cn aq nq mq tq rp fl)) (fun r => [newL (1 + 1) ((N116 cn aq nq mq tq rp fl) r) ++ [(0, (false, .cols mq [.int .i64 tq]))]]) Kret x) (x0 : Int) (h : (bif (decide (x0 < (↑nq : Int)))
 then (bif (decide ((0 : Int) ≤ x0 ∧ x0 < (↑nq : Int)))
 then (bif (decide (Int.toNat x0 + aq < mq))
 then (bif (decide (tq (Int.toNat x0 + aq) ≥ (-1099511627776 : Int)))
 then (bif (decide (tq (Int.toNat x0 + aq) ≤ (1099511627776 : Int)))
 then (bif (decide (x0 > (0 : Int)))
 then (bif (lim IntKind.i64 (x0 - (1 : Int)))
 then (bif (decide ((0 : Int) ≤ x0 - (1 : Int) ∧ x0 - (1 : Int) < (↑nq : Int)))
 then (bif (decide (Int.toNat (x0 - (1 : Int)) + aq < mq))
 then (bif (tq (Int.toNat x0 + aq) == tq (Int.toNat (x0 - (1 : Int)) + aq))
 then (some (.inr ((12 : Int))))
 else (bif (lim IntKind.i64 (x0 + (1 : Int)))
 then (some (.inl (.h0 (x0 + (1 : Int)))))
 else (none)))
 else (none))
 else (none))
 else (none))
 else (bif (lim IntKind.i64 (x0 + (1 : Int)))
 then (some (.inl (.h0 (x0 + (1 : Int)))))
 else (none)))
 else (some (.inr ((6 : Int)))))
 else (some (.inr ((6 : Int)))))
 else (none))
 else (none))
 else (bif (decide (rp < (1 : Int)))
 then (some (.inr ((6 : Int))))
 else (bif (decide (rp > (9 : Int)))
 then (some (.inr ((6 : Int))))
 else (bif (decide (fl ≥ (-1099511627776 : Int)))
 then (bif (decide (fl ≤ (1099511627776 : Int)))
 then (bif (lim IntKind.i64 ((↑nq : Int) - (1 : Int)))
 then (bif (decide ((0 : Int) ≤ (↑nq : Int) - (1 : Int) ∧ (↑nq : Int) - (1 : Int) < (↑nq : Int)))
 then (bif (decide (Int.toNat ((↑nq : Int) - (1 : Int)) + aq < mq))
 then (bif (fl == tq (Int.toNat ((↑nq : Int) - (1 : Int)) + aq))
 then (some (.inr ((12 : Int))))
 else (some (.inr ((0 : Int)))))
 else (none))
 else (none))
 else (none))
 else (some (.inr ((6 : Int)))))
 else (some (.inr ((6 : Int))))))) : Option (St116 ⊕ Rt116)) = some x) : T116_0 cond Kst Kret cn aq nq mq tq rp fl x0 := by
  unfold T116_0
  exact bif_split h
   (fun c0 h => bif_split h
   (fun c1 h => bif_split h
   (fun c2 h => bif_split h
   (fun c3 h => bif_split h
   (fun c4 h => bif_split h
   (fun c5 h => bif_split h
   (fun c6 h => bif_split h
   (fun c7 h => bif_split h
   (fun c8 h => bif_split h
   (fun c9 h => ret_at hR _ h (fun n => n) rfl rfl rfl (rn_int rfl) rfl (entl_bor (use_lo rfl) rfl rfl entl_nil))
   (fun c9 h => bif_split h
   (fun c10 h => stop_at hS _ h (fun n => bif Nat.beq n 1 then 1 else n) rfl rfl rfl ⟨(rn_ptr (use_own rfl) rfl rfl), ⟨(rn_loose (use_lo rfl) rfl rfl rfl), ⟨(rn_int rfl), ⟨(rn_int rfl), trivial⟩⟩⟩⟩ rfl (entl_b (use_own rfl) rfl (by simp) (rb_cells ⟨(rn_str rfl), (rn_loose (use_lo rfl) rfl rfl rfl), (rn_int rfl), (rn_int rfl), trivial⟩) (entl_bor (use_lo rfl) rfl rfl entl_nil)))
   (fun c10 h => no_some h)))
   (fun c8 h => no_some h))
   (fun c7 h => no_some h))
   (fun c6 h => no_some h))
   (fun c5 h => bif_split h
   (fun c6 h => stop_at hS _ h (fun n => bif Nat.beq n 1 then 1 else n) rfl rfl rfl ⟨(rn_ptr (use_own rfl) rfl rfl), ⟨(rn_loose (use_lo rfl) rfl rfl rfl), ⟨(rn_int rfl), ⟨(rn_int rfl), trivial⟩⟩⟩⟩ rfl (entl_b (use_own rfl) rfl (by simp) (rb_cells ⟨(rn_str rfl), (rn_loose (use_lo rfl) rfl rfl rfl), (rn_int rfl), (rn_int rfl), trivial⟩) (entl_bor (use_lo rfl) rfl rfl entl_nil)))
   (fun c6 h => no_some h)))
   (fun c4 h => ret_at hR _ h (fun n => n) rfl rfl rfl (rn_int rfl) rfl (entl_bor (use_lo rfl) rfl rfl entl_nil)))
   (fun c3 h => ret_at hR _ h (fun n => n) rfl rfl rfl (rn_int rfl) rfl (entl_bor (use_lo rfl) rfl rfl entl_nil)))
   (fun c2 h => no_some h))
   (fun c1 h => no_some h))
   (fun c0 h => bif_split h
   (fun c1 h => ret_at hR _ h (fun n => n) rfl rfl rfl (rn_int rfl) rfl (entl_bor (use_lo rfl) rfl rfl entl_nil))
   (fun c1 h => bif_split h
   (fun c2 h => ret_at hR _ h (fun n => n) rfl rfl rfl (rn_int rfl) rfl (entl_bor (use_lo rfl) rfl rfl entl_nil))
   (fun c2 h => bif_split h
   (fun c3 h => bif_split h
   (fun c4 h => bif_split h
   (fun c5 h => bif_split h
   (fun c6 h => bif_split h
   (fun c7 h => bif_split h
   (fun c8 h => ret_at hR _ h (fun n => n) rfl rfl rfl (rn_int rfl) rfl (entl_bor (use_lo rfl) rfl rfl entl_nil))
   (fun c8 h => ret_at hR _ h (fun n => n) rfl rfl rfl (rn_int rfl) rfl (entl_bor (use_lo rfl) rfl rfl entl_nil)))
   (fun c7 h => no_some h))
   (fun c6 h => no_some h))
   (fun c5 h => no_some h))
   (fun c4 h => ret_at hR _ h (fun n => n) rfl rfl rfl (rn_int rfl) rfl (entl_bor (use_lo rfl) rfl rfl entl_nil)))
   (fun c3 h => ret_at hR _ h (fun n => n) rfl rfl rfl (rn_int rfl) rfl (entl_bor (use_lo rfl) rfl rfl entl_nil)))))
theorem a116 (cn : ByteArray) (aq nq mq : Nat) (tq : Nat → Int) (rp : Int) (fl : Int) {r : Rt116} (h : Goes ((q116 cn aq nq mq tq rp fl)) ((p116 cn aq nq mq tq rp fl)) r) : CallR Try.prog 22 [.agg [.str cn, .loose ⟨0, 1, aq, 0⟩ nq, .int .i64 rp, .int .i64 fl]] [[(0, (false, .cols mq [.int .i64 tq]))]] 1 ((V116 cn aq nq mq tq rp fl) r) ((fun r => [newL (1 + 1) ((N116 cn aq nq mq tq rp fl) r) ++ [(0, (false, .cols mq [.int .i64 tq]))]]) r) 400 ∧ ∃ F, Try.prog.funcs[22]? = some F ∧ F.body.isSome = true ∧ (F.name == "runtime.NumGoroutine") = false := by
  refine dec_calls (f := 22) (lo := 1) (hi := 400) (H := [[(0, (false, .cols mq [.int .i64 tq]))]]) (args := [.agg [.str cn, .loose ⟨0, 1, aq, 0⟩ nq, .int .i64 rp, .int .i64 fl]]) Try.envOk Try.mixed xN_ok ((I116 cn aq nq mq tq rp fl)) ((V116 cn aq nq mq tq rp fl)) (fun r => [newL (1 + 1) ((N116 cn aq nq mq tq rp fl) r) ++ [(0, (false, .cols mq [.int .i64 tq]))]]) (fn := mkFn Try.f22) (ts := [1, 18, 19, 20]) (n := 400) rfl (by decide) (by simp) (names_of rfl) ?_ ?_ ?_ h
  · intro s; cases s <;> exact ⟨hd_ok _ _, by simp [I116], names_of rfl, Nat.le_of_ble_eq_true rfl⟩
  · intro Kst Kret x hS hR h
    exact Holds.eq (te116 cond Kst Kret cn aq nq mq tq rp fl) (be116 cn aq nq mq tq rp fl Kst Kret x hS hR h)
  · intro Kst Kret x hS hR s h
    cases s with
    | h0 x0 => exact Holds.eq (t116_0 cond Kst Kret cn aq nq mq tq rp fl x0) (b116_0 cn aq nq mq tq rp fl Kst Kret x hS hR x0 h)
noncomputable def k116 : Con := ⟨22, [.agg [.plain (.str), .list [.int .i64], .plain (.int .i64), .plain (.int .i64)]], fun (x : (ByteArray × (Nat × Nat × Nat × (Nat → Int) × Unit) × Int × Int × Unit) × Unit) => (fun (cn : ByteArray) (aq nq mq : Nat) (tq : Nat → Int) (rp : Int) (fl : Int) => decide (aq + nq ≤ mq ∧ nq ≤ 1000000)) x.1.1 x.1.2.1.1 x.1.2.1.2.1 x.1.2.1.2.2.1 x.1.2.1.2.2.2.1 x.1.2.2.1 x.1.2.2.2.1, fun (x : (ByteArray × (Nat × Nat × Nat × (Nat → Int) × Unit) × Int × Int × Unit) × Unit) => (fun (cn : ByteArray) (aq nq mq : Nat) (tq : Nat → Int) (rp : Int) (fl : Int) => (V116 cn aq nq mq tq rp fl) ((S.cyE cn nq (fun j => tq (j + aq)) rp fl))) x.1.1 x.1.2.1.1 x.1.2.1.2.1 x.1.2.1.2.2.1 x.1.2.1.2.2.2.1 x.1.2.2.1 x.1.2.2.2.1, fun (x : (ByteArray × (Nat × Nat × Nat × (Nat → Int) × Unit) × Int × Int × Unit) × Unit) => (fun (cn : ByteArray) (aq nq mq : Nat) (tq : Nat → Int) (rp : Int) (fl : Int) => (N116 cn aq nq mq tq rp fl) ((S.cyE cn nq (fun j => tq (j + aq)) rp fl))) x.1.1 x.1.2.1.1 x.1.2.1.2.1 x.1.2.1.2.2.1 x.1.2.1.2.2.2.1 x.1.2.2.1 x.1.2.2.2.1, fun _ _ => .dead⟩
theorem s116' (cn : ByteArray) (aq nq mq : Nat) (tq : Nat → Int) (rp : Int) (fl : Int) (hp1 : aq + nq ≤ mq) (hn : 2 ≤ nq ∧ nq ≤ 20) : ∀ k i : Nat, i + k = nq → Comes (q116 cn aq nq mq tq rp fl) (.h0 (i : Int)) (S.curE (if (1 ≤ rp ∧ rp ≤ 9) ∧ -1099511627776 ≤ fl ∧ fl ≤ 1099511627776 then (if fl = tq (nq - 1 + aq) then 12 else 0) else 6) (fun j => tq (j + aq)) i k) := by
  intro k
  induction k with
  | zero =>
    intro i hi
    obtain rfl : nq = i := by omega
    simp only [S.curE]
    have e1 : ((nq : Int) - 1).toNat = nq - 1 := by omega
    apply Comes.of
    show Goes _ _ _
    (first | rw [q116] | unfold q116)
    try simp only [e1]
    try show Goes _ _ _
    repeat' first
      | with_reducible refine goes_if (fun h => ?_) (fun h => ?_) <;> (try simp only [lim64, imp_false, decide_eq_true_eq, decide_eq_false_iff_not, Int.toNat_natCast, toNat_pred, toNat_succ, Option.getD_some, Option.getD_none, Bool.not_eq_true', Bool.not_eq_false', Bool.and_eq_true, Bool.or_eq_true, Bool.and_eq_false_iff, Bool.or_eq_false_iff, bne_iff_ne, beq_iff_eq, bne_eq_false_iff_eq, beq_eq_false_iff_ne, ne_eq, not_and, Int.not_le, Int.not_lt, ge_iff_le, gt_iff_lt, Nat.not_lt, Nat.not_le, Bool.not_eq_true, Bool.not_eq_false, Bool.true_eq_false, Bool.false_eq_true, not_false_eq_true, not_true_eq_false] at h)
      | exact goes_none.mpr (by omega)
    all_goals first
      | (exfalso; omega)
      | (refine goes_inr.mpr ?_; first | (rw [if_neg (by omega)]; done) | (rw [if_pos (by omega), if_pos (by omega)]; done) | (rw [if_pos (by omega), if_neg (by omega)]; done))
  | succ k ih =>
    intro i hi
    have ih := ih (i + 1) (by omega)
    simp only [S.curE]
    have e1 : 0 < i → ((i : Int) - 1).toNat = i - 1 := fun _ => by omega
    by_cases h0 : 0 < i
    · have e1 := e1 h0
      apply Comes.of
      show Goes _ _ _
      (first | rw [q116] | unfold q116)
      try simp only [e1, Int.toNat_natCast]
      try show Goes _ _ _
      repeat' first
        | with_reducible refine goes_if (fun h => ?_) (fun h => ?_) <;> (try simp only [lim64, imp_false, decide_eq_true_eq, decide_eq_false_iff_not, Int.toNat_natCast, toNat_pred, toNat_succ, Option.getD_some, Option.getD_none, Bool.not_eq_true', Bool.not_eq_false', Bool.and_eq_true, Bool.or_eq_true, Bool.and_eq_false_iff, Bool.or_eq_false_iff, bne_iff_ne, beq_iff_eq, bne_eq_false_iff_eq, beq_eq_false_iff_ne, ne_eq, not_and, Int.not_le, Int.not_lt, ge_iff_le, gt_iff_lt, Nat.not_lt, Nat.not_le, Bool.not_eq_true, Bool.not_eq_false, Bool.true_eq_false, Bool.false_eq_true, not_false_eq_true, not_true_eq_false] at h)
        | exact goes_none.mpr (by omega)
      all_goals first
        | (exfalso; omega)
        | (rw [if_pos (by omega), if_neg (by omega)]; exact ih)
        | (refine goes_inr.mpr ?_; first | (rw [if_neg (by omega)]; done) | (rw [if_pos (by omega), if_pos (by omega)]; done))
    · apply Comes.of
      show Goes _ _ _
      (first | rw [q116] | unfold q116)
      try simp only [Int.toNat_natCast]
      try show Goes _ _ _
      repeat' first
        | with_reducible refine goes_if (fun h => ?_) (fun h => ?_) <;> (try simp only [lim64, imp_false, decide_eq_true_eq, decide_eq_false_iff_not, Int.toNat_natCast, toNat_pred, toNat_succ, Option.getD_some, Option.getD_none, Bool.not_eq_true', Bool.not_eq_false', Bool.and_eq_true, Bool.or_eq_true, Bool.and_eq_false_iff, Bool.or_eq_false_iff, bne_iff_ne, beq_iff_eq, bne_eq_false_iff_eq, beq_eq_false_iff_ne, ne_eq, not_and, Int.not_le, Int.not_lt, ge_iff_le, gt_iff_lt, Nat.not_lt, Nat.not_le, Bool.not_eq_true, Bool.not_eq_false, Bool.true_eq_false, Bool.false_eq_true, not_false_eq_true, not_true_eq_false] at h)
        | exact goes_none.mpr (by omega)
      all_goals first
        | (exfalso; omega)
        | (rw [if_pos (by omega), if_neg (by omega)]; exact ih)
        | (refine goes_inr.mpr ?_; first | (rw [if_neg (by omega)]; done) | (rw [if_pos (by omega), if_pos (by omega)]; done))
theorem s116 (cn : ByteArray) (aq nq mq : Nat) (tq : Nat → Int) (rp : Int) (fl : Int) (hp : aq + nq ≤ mq ∧ nq ≤ 1000000) : Goes ((q116 cn aq nq mq tq rp fl)) ((p116 cn aq nq mq tq rp fl)) ((S.cyE cn nq (fun j => tq (j + aq)) rp fl)) := by
  obtain ⟨hp1, hp2⟩ := hp
  unfold S.cyE
  have hm := fun (h : 2 ≤ nq ∧ nq ≤ 20) => s116' cn aq nq mq tq rp fl hp1 h nq 0 (Nat.zero_add _)
  unfold p116
  generalize S.isNam cn = A
  show Goes _ _ _
  cases A
  · exact goes_inr.mpr rfl
  · rw [if_pos rfl]
    repeat' first
      | with_reducible refine goes_if (fun h => ?_) (fun h => ?_) <;> (try simp only [lim64, imp_false, decide_eq_true_eq, decide_eq_false_iff_not, Int.toNat_natCast, toNat_pred, toNat_succ, Option.getD_some, Option.getD_none, Bool.not_eq_true', Bool.not_eq_false', Bool.and_eq_true, Bool.or_eq_true, Bool.and_eq_false_iff, Bool.or_eq_false_iff, bne_iff_ne, beq_iff_eq, bne_eq_false_iff_eq, beq_eq_false_iff_ne, ne_eq, not_and, Int.not_le, Int.not_lt, ge_iff_le, gt_iff_lt, Nat.not_lt, Nat.not_le, Bool.not_eq_true, Bool.not_eq_false, Bool.true_eq_false, Bool.false_eq_true, not_false_eq_true, not_true_eq_false] at h)
      | exact goes_none.mpr (by omega)
    all_goals first | (exfalso; omega) | (rw [if_neg (by omega), if_neg (by omega)]; exact hm (by omega)) | (refine goes_inr.mpr ?_; first | (rw [if_pos (by omega)]; done) | (rw [if_neg (by omega), if_pos (by omega)]; done)) | (exfalso; simp_all; done)
theorem k116_ok : k116.ok Try.prog := by
  intro x hx
  obtain ⟨⟨cn, ⟨aq, nq, mq, tq, _⟩, rp, fl, _⟩, _⟩ := x
  obtain ⟨h1, h2⟩ := a116 cn aq nq mq tq rp fl (s116 cn aq nq mq tq rp fl (of_dec hx rfl))
  exact ⟨⟨400, (by decide : 1 + 1 + 0 ≤ 400), h1⟩, h2⟩
abbrev St135 := Empty
abbrev Rt135 := List Int
noncomputable def V135 (cn : ByteArray) (aq nq mq : Nat) (tq : Nat → Int) (rp : Int) (fl : Int) (r : Rt135) : PV := PV.own (2) (1) (List.length r)
noncomputable def N135 (cn : ByteArray) (aq nq mq : Nat) (tq : Nat → Int) (rp : Int) (fl : Int) (r : Rt135) : List Blk := [Blk.cols (List.length r) [Col.int IntKind.i64 fun j => S.at' r j]]
noncomputable def I135 (cn : ByteArray) (aq nq mq : Nat) (tq : Nat → Int) (rp : Int) (fl : Int) : St135 → Hd := fun s => s.elim
noncomputable def q135 (cn : ByteArray) (aq nq mq : Nat) (tq : Nat → Int) (rp : Int) (fl : Int) : St135 → Option (St135 ⊕ Rt135) := fun s => s.elim
noncomputable def p135 (cn : ByteArray) (aq nq mq : Nat) (tq : Nat → Int) (rp : Int) (fl : Int) : Option (St135 ⊕ Rt135) := bif (decide ((aq + nq ≤ mq ∧ nq ≤ 1000) ∧ (0 : Int) ≤ rp ∧ rp ≤ (1000 : Int)))
 then (bif (decide
 (List.length (S.mkl (nq * Int.toNat rp) fun j => tq (j % nq + aq)) + 1 ≤ 1000000))
 then (bif (decide
 (List.length (S.mkl (nq * Int.toNat rp) fun j => tq (j % nq + aq)) ≤
 List.length (S.mkl (nq * Int.toNat rp) fun j => tq (j % nq + aq))))
 then (some (.inr (S.snoc (S.mkl (nq * Int.toNat rp) fun j => tq (j % nq + aq)) fl)))
 else (none))
 else (none))
 else (none)
noncomputable def Te135 (test : Bool → Prop → Prop → Prop) (Kst : KS) (Kret : KR) (cn : ByteArray) (aq nq mq : Nat) (tq : Nat → Int) (rp : Int) (fl : Int) : Prop :=
  test (decide ((aq + nq ≤ mq ∧ nq ≤ 1000) ∧ (0 : Int) ≤ rp ∧ rp ≤ (1000 : Int)))
 (test (decide
 (List.length (S.mkl (nq * Int.toNat rp) fun j => tq (j % nq + aq)) + 1 ≤ 1000000))
 (test (decide
 (List.length (S.mkl (nq * Int.toNat rp) fun j => tq (j % nq + aq)) ≤
 List.length (S.mkl (nq * Int.toNat rp) fun j => tq (j % nq + aq))))
 (test (true)
 (Kret (PV.own (5) (1)
 (List.length (S.mkl (nq * Int.toNat rp) fun j => tq (j % nq + aq)) + 1)) ([[(0, false, Blk.cols mq [Col.int IntKind.i64 tq]),
 (5, true,
 Blk.cols (List.length (S.mkl (nq * Int.toNat rp) fun j => tq (j % nq + aq)) + 1)
 [Col.int IntKind.i64 fun j =>
 bif Nat.blt j (List.length (S.mkl (nq * Int.toNat rp) fun j => tq (j % nq + aq))) then
 S.at' (S.mkl (nq * Int.toNat rp) fun j => tq (j % nq + aq)) j
 else fl])]]) (6))
 (False))
 (False))
 (False))
 (False)
theorem te135 (test : Bool → Prop → Prop → Prop) (Kst : KS) (Kret : KR) (cn : ByteArray) (aq nq mq : Nat) (tq : Nat → Int) (rp : Int) (fl : Int) : run test Try.env true (xR test) true 400 ⟨21, [.cd (mkFn Try.f21).body], argT 0 [.agg [.str cn, .loose ⟨0, 1, aq, 0⟩ nq, .int .i64 rp, .int .i64 fl]], [[], [(0, (false, .cols mq [.int .i64 tq]))]], 1⟩ (proj 1 [] Kst Kret) =
  Te135 test Kst Kret cn aq nq mq tq rp fl := by kernel_rfl
theorem be135 (cn : ByteArray) (aq nq mq : Nat) (tq : Nat → Int) (rp : Int) (fl : Int) (Kst : KS) (Kret : KR) (x : St135 ⊕ Rt135) (hS : HS 1 400 ((I135 cn aq nq mq tq rp fl)) Kst x) (hR : HR 1 400 ((V135 cn aq nq mq tq rp fl)) (fun r => [newL (1 + 1) ((N135 cn aq nq mq tq rp fl) r) ++ [(0, (false, .cols mq [.int .i64 tq]))]]) Kret x) (h : (bif (decide ((aq + nq ≤ mq ∧ nq ≤ 1000) ∧ (0 : Int) ≤ rp ∧ rp ≤ (1000 : Int)))
 then (bif (decide
 (List.length (S.mkl (nq * Int.toNat rp) fun j => tq (j % nq + aq)) + 1 ≤ 1000000))
 then (bif (decide
 (List.length (S.mkl (nq * Int.toNat rp) fun j => tq (j % nq + aq)) ≤
 List.length (S.mkl (nq * Int.toNat rp) fun j => tq (j % nq + aq))))
 then (some (.inr (S.snoc (S.mkl (nq * Int.toNat rp) fun j => tq (j % nq + aq)) fl)))
 else (none))
 else (none))
 else (none) : Option (St135 ⊕ Rt135)) = some x) : Te135 cond Kst Kret cn aq nq mq tq rp fl := by
  unfold Te135
  exact bif_split h
   (fun c0 h => bif_split h
   (fun c1 h => bif_split h
   (fun c2 h => cond_yes rfl (ret_at hR _ h (fun n => bif Nat.beq n 2 then 5 else n) rfl rfl rfl (rn_own (use_own rfl) rfl (snoc_len' rfl)) rfl (entl_new (use_own rfl) rfl (Nat.le_of_eq (snoc_len' rfl)) (rcs_int (col_snoc' (fun (t : Int) => t) rfl (fun _ _ => rfl)) rcs_nil) (entl_bor (use_lo rfl) rfl rfl entl_nil))))
   (fun c2 h => no_some h))
   (fun c1 h => no_some h))
   (fun c0 h => no_some h)
theorem a135 (cn : ByteArray) (aq nq mq : Nat) (tq : Nat → Int) (rp : Int) (fl : Int) {r : Rt135} (h : Goes ((q135 cn aq nq mq tq rp fl)) ((p135 cn aq nq mq tq rp fl)) r) : CallR Try.prog 21 [.agg [.str cn, .loose ⟨0, 1, aq, 0⟩ nq, .int .i64 rp, .int .i64 fl]] [[(0, (false, .cols mq [.int .i64 tq]))]] 1 ((V135 cn aq nq mq tq rp fl) r) ((fun r => [newL (1 + 1) ((N135 cn aq nq mq tq rp fl) r) ++ [(0, (false, .cols mq [.int .i64 tq]))]]) r) 400 ∧ ∃ F, Try.prog.funcs[21]? = some F ∧ F.body.isSome = true ∧ (F.name == "runtime.NumGoroutine") = false := by
  refine dec_calls (f := 21) (lo := 1) (hi := 400) (H := [[(0, (false, .cols mq [.int .i64 tq]))]]) (args := [.agg [.str cn, .loose ⟨0, 1, aq, 0⟩ nq, .int .i64 rp, .int .i64 fl]]) Try.envOk Try.mixed xR_ok ((I135 cn aq nq mq tq rp fl)) ((V135 cn aq nq mq tq rp fl)) (fun r => [newL (1 + 1) ((N135 cn aq nq mq tq rp fl) r) ++ [(0, (false, .cols mq [.int .i64 tq]))]]) (fn := mkFn Try.f21) (ts := []) (n := 400) rfl (by decide) (by simp) (names_of rfl) ?_ ?_ ?_ h
  · intro s; exact s.elim
  · intro Kst Kret x hS hR h
    exact Holds.eq (te135 cond Kst Kret cn aq nq mq tq rp fl) (be135 cn aq nq mq tq rp fl Kst Kret x hS hR h)
  · intro Kst Kret x hS hR s h; exact s.elim
noncomputable def k135 : Con := ⟨21, [.agg [.plain (.str), .list [.int .i64], .plain (.int .i64), .plain (.int .i64)]], fun (x : (ByteArray × (Nat × Nat × Nat × (Nat → Int) × Unit) × Int × Int × Unit) × Unit) => (fun (cn : ByteArray) (aq nq mq : Nat) (tq : Nat → Int) (rp : Int) (fl : Int) => decide (aq + nq ≤ mq ∧ nq ≤ 20 ∧ 0 ≤ rp ∧ rp ≤ 9)) x.1.1 x.1.2.1.1 x.1.2.1.2.1 x.1.2.1.2.2.1 x.1.2.1.2.2.2.1 x.1.2.2.1 x.1.2.2.2.1, fun (x : (ByteArray × (Nat × Nat × Nat × (Nat → Int) × Unit) × Int × Int × Unit) × Unit) => (fun (cn : ByteArray) (aq nq mq : Nat) (tq : Nat → Int) (rp : Int) (fl : Int) => (V135 cn aq nq mq tq rp fl) ((S.stpL nq (fun j => tq (j + aq)) rp fl))) x.1.1 x.1.2.1.1 x.1.2.1.2.1 x.1.2.1.2.2.1 x.1.2.1.2.2.2.1 x.1.2.2.1 x.1.2.2.2.1, fun (x : (ByteArray × (Nat × Nat × Nat × (Nat → Int) × Unit) × Int × Int × Unit) × Unit) => (fun (cn : ByteArray) (aq nq mq : Nat) (tq : Nat → Int) (rp : Int) (fl : Int) => (N135 cn aq nq mq tq rp fl) ((S.stpL nq (fun j => tq (j + aq)) rp fl))) x.1.1 x.1.2.1.1 x.1.2.1.2.1 x.1.2.1.2.2.1 x.1.2.1.2.2.2.1 x.1.2.2.1 x.1.2.2.2.1, fun _ _ => .dead⟩
theorem s135 (cn : ByteArray) (aq nq mq : Nat) (tq : Nat → Int) (rp : Int) (fl : Int) (hp : aq + nq ≤ mq ∧ nq ≤ 20 ∧ 0 ≤ rp ∧ rp ≤ 9) : Goes ((q135 cn aq nq mq tq rp fl)) ((p135 cn aq nq mq tq rp fl)) ((S.stpL nq (fun j => tq (j + aq)) rp fl)) := by
  obtain ⟨hp1, hp2, hp3, hp4⟩ := hp
  have hb := mul_bd hp2 hp4
  unfold p135
  simp only [mkl_len]
  show Goes _ _ _
  repeat' first
    | with_reducible refine goes_if (fun h => ?_) (fun h => ?_) <;> (try simp only [lim64, imp_false, decide_eq_true_eq, decide_eq_false_iff_not, Int.toNat_natCast, toNat_pred, toNat_succ, Option.getD_some, Option.getD_none, Bool.not_eq_true', Bool.not_eq_false', Bool.and_eq_true, Bool.or_eq_true, Bool.and_eq_false_iff, Bool.or_eq_false_iff, bne_iff_ne, beq_iff_eq, bne_eq_false_iff_eq, beq_eq_false_iff_ne, ne_eq, not_and, Int.not_le, Int.not_lt, ge_iff_le, gt_iff_lt, Nat.not_lt, Nat.not_le, Bool.not_eq_true, Bool.not_eq_false, Bool.true_eq_false, Bool.false_eq_true, not_false_eq_true, not_true_eq_false] at h)
    | exact goes_none.mpr (by omega)
  all_goals first | (exfalso; omega) | exact goes_inr.mpr rfl
theorem k135_ok : k135.ok Try.prog := by
  intro x hx
  obtain ⟨⟨cn, ⟨aq, nq, mq, tq, _⟩, rp, fl, _⟩, _⟩ := x
  obtain ⟨h1, h2⟩ := a135 cn aq nq mq tq rp fl (s135 cn aq nq mq tq rp fl (of_dec hx rfl))
  exact ⟨⟨400, (by decide : 1 + 1 + 1 ≤ 400), h1⟩, h2⟩
noncomputable def xA1 (test : Bool → Prop → Prop → Prop) : Ext := consX test [k116, k135]
theorem xA1_ok : ExtOk Try.prog (xA1 cond) := consX_ok ⟨k116_ok, k135_ok, trivial⟩
abbrev St113 := Empty
abbrev Rt113 := Int × List Int
noncomputable def V113 (cn : ByteArray) (aq nq mq : Nat) (tq : Nat → Int) (rp : Int) (fl : Int) (r : Rt113) : PV := PV.tup [PV.own (2) (1) (List.length r.2), PV.int IntKind.i64 r.1]
noncomputable def N113 (cn : ByteArray) (aq nq mq : Nat) (tq : Nat → Int) (rp : Int) (fl : Int) (r : Rt113) : List Blk := [Blk.cols (List.length r.2) [Col.int IntKind.i64 fun j => S.at' r.2 j]]
noncomputable def I113 (cn : ByteArray) (aq nq mq : Nat) (tq : Nat → Int) (rp : Int) (fl : Int) : St113 → Hd := fun s => s.elim
noncomputable def q113 (cn : ByteArray) (aq nq mq : Nat) (tq : Nat → Int) (rp : Int) (fl : Int) : St113 → Option (St113 ⊕ Rt113) := fun s => s.elim
noncomputable def p113 (cn : ByteArray) (aq nq mq : Nat) (tq : Nat → Int) (rp : Int) (fl : Int) : Option (St113 ⊕ Rt113) := bif (decide (aq + nq ≤ mq ∧ nq ≤ 1000000))
 then (bif (S.cyE cn nq (fun j => tq (j + aq)) rp fl != (0 : Int))
 then (some (.inr (S.cyE cn nq (fun j => tq (j + aq)) rp fl, [])))
 else (bif (decide (aq + nq ≤ mq ∧ nq ≤ 20 ∧ (0 : Int) ≤ rp ∧ rp ≤ (9 : Int)))
 then (some (.inr ((0 : Int), S.stpL nq (fun j => tq (j + aq)) rp fl)))
 else (none)))
 else (none)
noncomputable def Te113 (test : Bool → Prop → Prop → Prop) (Kst : KS) (Kret : KR) (cn : ByteArray) (aq nq mq : Nat) (tq : Nat → Int) (rp : Int) (fl : Int) : Prop :=
  test (decide (aq + nq ≤ mq ∧ nq ≤ 1000000))
 (test (S.cyE cn nq (fun j => tq (j + aq)) rp fl != (0 : Int))
 (Kret (PV.tup [PV.nils, PV.int IntKind.i64 (S.cyE cn nq (fun j => tq (j + aq)) rp fl)]) ([[(0, false, Blk.cols mq [Col.int IntKind.i64 tq])]]) (3))
 (test (decide (aq + nq ≤ mq ∧ nq ≤ 20 ∧ (0 : Int) ≤ rp ∧ rp ≤ (9 : Int)))
 (Kret (PV.tup
 [PV.own (4) (1) (List.length (S.stpL nq (fun j => tq (j + aq)) rp fl)),
 PV.int IntKind.i64 (0 : Int)]) ([[(0, false, Blk.cols mq [Col.int IntKind.i64 tq]),
 (4, true,
 Blk.cols (List.length (S.stpL nq (fun j => tq (j + aq)) rp fl))
 [Col.int IntKind.i64 fun j =>
 S.at' (S.stpL nq (fun j => tq (j + aq)) rp fl) j])]]) (5))
 (False)))
 (False)
theorem te113 (test : Bool → Prop → Prop → Prop) (Kst : KS) (Kret : KR) (cn : ByteArray) (aq nq mq : Nat) (tq : Nat → Int) (rp : Int) (fl : Int) : run test Try.env true (xA1 test) true 400 ⟨12, [.cd (mkFn Try.f12).body], argT 0 [.agg [.str cn, .loose ⟨0, 1, aq, 0⟩ nq, .int .i64 rp, .int .i64 fl]], [[], [(0, (false, .cols mq [.int .i64 tq]))]], 1⟩ (proj 1 [] Kst Kret) =
  Te113 test Kst Kret cn aq nq mq tq rp fl := by kernel_rfl
theorem be113 (cn : ByteArray) (aq nq mq : Nat) (tq : Nat → Int) (rp : Int) (fl : Int) (Kst : KS) (Kret : KR) (x : St113 ⊕ Rt113) (hS : HS 1 400 ((I113 cn aq nq mq tq rp fl)) Kst x) (hR : HR 1 400 ((V113 cn aq nq mq tq rp fl)) (fun r => [newL (1 + 1) ((N113 cn aq nq mq tq rp fl) r) ++ [(0, (false, .cols mq [.int .i64 tq]))]]) Kret x) (h : (bif (decide (aq + nq ≤ mq ∧ nq ≤ 1000000))
 then (bif (S.cyE cn nq (fun j => tq (j + aq)) rp fl != (0 : Int))
 then (some (.inr (S.cyE cn nq (fun j => tq (j + aq)) rp fl, [])))
 else (bif (decide (aq + nq ≤ mq ∧ nq ≤ 20 ∧ (0 : Int) ≤ rp ∧ rp ≤ (9 : Int)))
 then (some (.inr ((0 : Int), S.stpL nq (fun j => tq (j + aq)) rp fl)))
 else (none)))
 else (none) : Option (St113 ⊕ Rt113)) = some x) : Te113 cond Kst Kret cn aq nq mq tq rp fl := by
  unfold Te113
  exact bif_split h
   (fun c0 h => bif_split h
   (fun c1 h => ret_at hR _ h (fun n => bif Nat.beq n 2 then 399 else n) rfl rfl rfl (rn_tup ⟨(rn_own_nils rfl), (rn_int rfl), trivial⟩) rfl (entl_fresh (use_own rfl) (fresh_ok rfl) (entl_bor (use_lo rfl) rfl rfl entl_nil)))
   (fun c1 h => bif_split h
   (fun c2 h => ret_at hR _ h (fun n => bif Nat.beq n 2 then 4 else n) rfl rfl rfl (rn_tup ⟨(rn_own (use_own rfl) rfl rfl), (rn_int rfl), trivial⟩) rfl (entl_new (use_own rfl) rfl (Nat.le_of_eq rfl) (rcs_int (fun _ _ => rfl) rcs_nil) (entl_bor (use_lo rfl) rfl rfl entl_nil)))
   (fun c2 h => no_some h)))
   (fun c0 h => no_some h)
theorem a113 (cn : ByteArray) (aq nq mq : Nat) (tq : Nat → Int) (rp : Int) (fl : Int) {r : Rt113} (h : Goes ((q113 cn aq nq mq tq rp fl)) ((p113 cn aq nq mq tq rp fl)) r) : CallR Try.prog 12 [.agg [.str cn, .loose ⟨0, 1, aq, 0⟩ nq, .int .i64 rp, .int .i64 fl]] [[(0, (false, .cols mq [.int .i64 tq]))]] 1 ((V113 cn aq nq mq tq rp fl) r) ((fun r => [newL (1 + 1) ((N113 cn aq nq mq tq rp fl) r) ++ [(0, (false, .cols mq [.int .i64 tq]))]]) r) 400 ∧ ∃ F, Try.prog.funcs[12]? = some F ∧ F.body.isSome = true ∧ (F.name == "runtime.NumGoroutine") = false := by
  refine dec_calls (f := 12) (lo := 1) (hi := 400) (H := [[(0, (false, .cols mq [.int .i64 tq]))]]) (args := [.agg [.str cn, .loose ⟨0, 1, aq, 0⟩ nq, .int .i64 rp, .int .i64 fl]]) Try.envOk Try.mixed xA1_ok ((I113 cn aq nq mq tq rp fl)) ((V113 cn aq nq mq tq rp fl)) (fun r => [newL (1 + 1) ((N113 cn aq nq mq tq rp fl) r) ++ [(0, (false, .cols mq [.int .i64 tq]))]]) (fn := mkFn Try.f12) (ts := []) (n := 400) rfl (by decide) (by simp) (names_of rfl) ?_ ?_ ?_ h
  · intro s; exact s.elim
  · intro Kst Kret x hS hR h
    exact Holds.eq (te113 cond Kst Kret cn aq nq mq tq rp fl) (be113 cn aq nq mq tq rp fl Kst Kret x hS hR h)
  · intro Kst Kret x hS hR s h; exact s.elim
noncomputable def k113 : Con := ⟨12, [.agg [.plain (.str), .list [.int .i64], .plain (.int .i64), .plain (.int .i64)]], fun (x : (ByteArray × (Nat × Nat × Nat × (Nat → Int) × Unit) × Int × Int × Unit) × Unit) => (fun (cn : ByteArray) (aq nq mq : Nat) (tq : Nat → Int) (rp : Int) (fl : Int) => decide (aq + nq ≤ mq ∧ nq ≤ 1000000)) x.1.1 x.1.2.1.1 x.1.2.1.2.1 x.1.2.1.2.2.1 x.1.2.1.2.2.2.1 x.1.2.2.1 x.1.2.2.2.1, fun (x : (ByteArray × (Nat × Nat × Nat × (Nat → Int) × Unit) × Int × Int × Unit) × Unit) => (fun (cn : ByteArray) (aq nq mq : Nat) (tq : Nat → Int) (rp : Int) (fl : Int) => (V113 cn aq nq mq tq rp fl) (S.stpS (S.cyE cn nq (fun j => tq (j + aq)) rp fl) nq (fun j => tq (j + aq)) rp fl)) x.1.1 x.1.2.1.1 x.1.2.1.2.1 x.1.2.1.2.2.1 x.1.2.1.2.2.2.1 x.1.2.2.1 x.1.2.2.2.1, fun (x : (ByteArray × (Nat × Nat × Nat × (Nat → Int) × Unit) × Int × Int × Unit) × Unit) => (fun (cn : ByteArray) (aq nq mq : Nat) (tq : Nat → Int) (rp : Int) (fl : Int) => (N113 cn aq nq mq tq rp fl) (S.stpS (S.cyE cn nq (fun j => tq (j + aq)) rp fl) nq (fun j => tq (j + aq)) rp fl)) x.1.1 x.1.2.1.1 x.1.2.1.2.1 x.1.2.1.2.2.1 x.1.2.1.2.2.2.1 x.1.2.2.1 x.1.2.2.2.1, fun _ _ => .dead⟩
theorem s113 (cn : ByteArray) (aq nq mq : Nat) (tq : Nat → Int) (rp : Int) (fl : Int) (hp : aq + nq ≤ mq ∧ nq ≤ 1000000) : Goes ((q113 cn aq nq mq tq rp fl)) ((p113 cn aq nq mq tq rp fl)) (S.stpS (S.cyE cn nq (fun j => tq (j + aq)) rp fl) nq (fun j => tq (j + aq)) rp fl) := by
  obtain ⟨hp1, hp2⟩ := hp
  have hc : (S.cyE cn nq (fun j => tq (j + aq)) rp fl) = 0 → (nq ≤ 20 ∧ 0 ≤ rp ∧ rp ≤ 9) := fun h => by have := cy_ok h; omega
  unfold S.stpS p113
  generalize (S.cyE cn nq (fun j => tq (j + aq)) rp fl) = e at *
  show Goes _ _ _
  repeat' first
    | with_reducible refine goes_if (fun h => ?_) (fun h => ?_) <;> (try simp only [lim64, imp_false, decide_eq_true_eq, decide_eq_false_iff_not, Int.toNat_natCast, toNat_pred, toNat_succ, Option.getD_some, Option.getD_none, Bool.not_eq_true', Bool.not_eq_false', Bool.and_eq_true, Bool.or_eq_true, Bool.and_eq_false_iff, Bool.or_eq_false_iff, bne_iff_ne, beq_iff_eq, bne_eq_false_iff_eq, beq_eq_false_iff_ne, ne_eq, not_and, Int.not_le, Int.not_lt, ge_iff_le, gt_iff_lt, Nat.not_lt, Nat.not_le, Bool.not_eq_true, Bool.not_eq_false, Bool.true_eq_false, Bool.false_eq_true, not_false_eq_true, not_true_eq_false] at h)
    | exact goes_none.mpr (by omega)
  all_goals first | (exfalso; omega) | (rw [if_neg (by omega)]; exact goes_inr.mpr rfl) | (rw [if_pos (by omega)]; exact goes_inr.mpr rfl)
theorem k113_ok : k113.ok Try.prog := by
  intro x hx
  obtain ⟨⟨cn, ⟨aq, nq, mq, tq, _⟩, rp, fl, _⟩, _⟩ := x
  obtain ⟨h1, h2⟩ := a113 cn aq nq mq tq rp fl (s113 cn aq nq mq tq rp fl (of_dec hx rfl))
  exact ⟨⟨400, (by decide : 1 + 1 + 1 ≤ 400), h1⟩, h2⟩
inductive St177 where
  | h0 (x0 : Int)
abbrev Rt177 := Int
noncomputable def V177 (al nl ml : Nat) (tl : Nat → Int) (r : Rt177) : PV := PV.int IntKind.i64 r
noncomputable def N177 (al nl ml : Nat) (tl : Nat → Int) (r : Rt177) : List Blk := []
noncomputable def I177 (al nl ml : Nat) (tl : Nat → Int) : St177 → Hd
  | .h0 x0 => ⟨hd Try.f40 0, [PV.loose (PA.mk (0) (1) al (0)) nl, PV.fn (Go.Fn.func (38)) [] [],
 PV.int IntKind.i64 (↑nl : Int), PV.int IntKind.i64 x0], [[], [(0, (false, .cols ml [.int .i64 tl]))]], 1⟩
noncomputable def q177 (al nl ml : Nat) (tl : Nat → Int) : St177 → Option (St177 ⊕ Rt177)
  | .h0 x0 => bif (decide (x0 < (↑nl : Int)))
 then (bif (decide ((0 : Int) ≤ x0 ∧ x0 < (↑nl : Int)))
 then (bif (decide (Int.toNat x0 + al < ml))
 then (bif (decide (tl (Int.toNat x0 + al) ≥ (-1099511627776 : Int)))
 then (bif (decide (tl (Int.toNat x0 + al) ≤ (1099511627776 : Int)))
 then (bif (lim IntKind.i64 (x0 + (1 : Int)))
 then (some (.inl (.h0 (x0 + (1 : Int)))))
 else (none))
 else (some (.inr (x0))))
 else (some (.inr (x0))))
 else (none))
 else (none))
 else (some (.inr ((-1 : Int))))
noncomputable def p177 (al nl ml : Nat) (tl : Nat → Int) : Option (St177 ⊕ Rt177) := some (.inl (.h0 ((0 : Int))))
noncomputable def Te177 (test : Bool → Prop → Prop → Prop) (Kst : KS) (Kret : KR) (al nl ml : Nat) (tl : Nat → Int) : Prop :=
  Kst (hd Try.f40 0) ([PV.loose (PA.mk (0) (1) al (0)) nl, PV.fn (Go.Fn.func (38)) [] [],
 PV.int IntKind.i64 (↑nl : Int), PV.int IntKind.i64 (0 : Int)]) ([[(0, false, Blk.cols ml [Col.int IntKind.i64 tl])]]) (1)
theorem te177 (test : Bool → Prop → Prop → Prop) (Kst : KS) (Kret : KR) (al nl ml : Nat) (tl : Nat → Int) : run test Try.env true noX true 400 ⟨40, [.cd (mkFn Try.f40).body], argT 0 [.loose ⟨0, 1, al, 0⟩ nl, .fn (.func 38) [] []], [[], [(0, (false, .cols ml [.int .i64 tl]))]], 1⟩ (proj 1 [0, 1, 7, 8] Kst Kret) =
  Te177 test Kst Kret al nl ml tl := by kernel_rfl
noncomputable def T177_0 (test : Bool → Prop → Prop → Prop) (Kst : KS) (Kret : KR) (al nl ml : Nat) (tl : Nat → Int) (x0 : Int) : Prop :=
  test (decide (x0 < (↑nl : Int)))
 (test (decide ((0 : Int) ≤ x0 ∧ x0 < (↑nl : Int)))
 (test (decide (Int.toNat x0 + al < ml))
 (test (decide (tl (Int.toNat x0 + al) ≥ (-1099511627776 : Int)))
 (test (decide (tl (Int.toNat x0 + al) ≤ (1099511627776 : Int)))
 (test (lim IntKind.i64 (x0 + (1 : Int)))
 (Kst (hd Try.f40 0) ([PV.loose (PA.mk (0) (1) al (0)) nl, PV.fn (Go.Fn.func (38)) [] [],
 PV.int IntKind.i64 (↑nl : Int), PV.int IntKind.i64 (x0 + (1 : Int))]) ([[(0, false, Blk.cols ml [Col.int IntKind.i64 tl])]]) (1))
 (False))
 (Kret (PV.int IntKind.i64 x0) ([[(0, false, Blk.cols ml [Col.int IntKind.i64 tl])]]) (1)))
 (Kret (PV.int IntKind.i64 x0) ([[(0, false, Blk.cols ml [Col.int IntKind.i64 tl])]]) (1)))
 (False))
 (False))
 (Kret (PV.int IntKind.i64 (-1 : Int)) ([[(0, false, Blk.cols ml [Col.int IntKind.i64 tl])]]) (1))
theorem t177_0 (test : Bool → Prop → Prop → Prop) (Kst : KS) (Kret : KR) (al nl ml : Nat) (tl : Nat → Int) (x0 : Int) : run test Try.env true noX true 400 ⟨40, hd Try.f40 0, zipT [0, 1, 7, 8] [PV.loose (PA.mk (0) (1) al (0)) nl, PV.fn (Go.Fn.func (38)) [] [],
 PV.int IntKind.i64 (↑nl : Int), PV.int IntKind.i64 x0], [[], [(0, (false, .cols ml [.int .i64 tl]))]], 1⟩ (proj 1 [0, 1, 7, 8] Kst Kret) =
  T177_0 test Kst Kret al nl ml tl x0 := by kernel_rfl
theorem be177 (al nl ml : Nat) (tl : Nat → Int) (Kst : KS) (Kret : KR) (x : St177 ⊕ Rt177) (hS : HS 1 400 ((I177 al nl ml tl)) Kst x) (hR : HR 1 400 ((V177 al nl ml tl)) (fun r => [newL (1 + 1) ((N177 al nl ml tl) r) ++ [(0, (false, .cols ml [.int .i64 tl]))]]) Kret x) (h : (some (.inl (.h0 ((0 : Int)))) : Option (St177 ⊕ Rt177)) = some x) : Te177 cond Kst Kret al nl ml tl := by
  unfold Te177
  exact stop_at hS _ h (fun n => n) rfl rfl rfl ⟨(rn_loose (use_lo rfl) rfl rfl rfl), ⟨(rn_fn trivial trivial), ⟨(rn_int rfl), ⟨(rn_int rfl), trivial⟩⟩⟩⟩ rfl (entl_bor (use_lo rfl) rfl rfl entl_nil)
theorem b177_0 (al nl ml : Nat) (tl : Nat → Int) (Kst : KS) (Kret : KR) (x : St177 ⊕ Rt177) (hS : HS 1 400 ((I177 al nl ml tl)) Kst x) (hR : HR 1 400 ((V177 al nl ml tl)) (fun r => [newL (1 + 1) ((N177 al nl ml tl) r) ++ [(0, (false, .cols ml [.int .i64 tl]))]]) Kret x) (x0 : Int) (h : (bif (decide (x0 < (↑nl : Int)))
 then (bif (decide ((0 : Int) ≤ x0 ∧ x0 < (↑nl : Int)))
 then (bif (decide (Int.toNat x0 + al < ml))
 then (bif (decide (tl (Int.toNat x0 + al) ≥ (-1099511627776 : Int)))
 then (bif (decide (tl (Int.toNat x0 + al) ≤ (1099511627776 : Int)))
 then (bif (lim IntKind.i64 (x0 + (1 : Int)))
 then (some (.inl (.h0 (x0 + (1 : Int)))))
 else (none))
 else (some (.inr (x0))))
 else (some (.inr (x0))))
 else (none))
 else (none))
 else (some (.inr ((-1 : Int)))) : Option (St177 ⊕ Rt177)) = some x) : T177_0 cond Kst Kret al nl ml tl x0 := by
  unfold T177_0
  exact bif_split h
   (fun c0 h => bif_split h
   (fun c1 h => bif_split h
   (fun c2 h => bif_split h
   (fun c3 h => bif_split h
   (fun c4 h => bif_split h
   (fun c5 h => stop_at hS _ h (fun n => n) rfl rfl rfl ⟨(rn_loose (use_lo rfl) rfl rfl rfl), ⟨(rn_fn trivial trivial), ⟨(rn_int rfl), ⟨(rn_int rfl), trivial⟩⟩⟩⟩ rfl (entl_bor (use_lo rfl) rfl rfl entl_nil))
   (fun c5 h => no_some h))
   (fun c4 h => ret_at hR _ h (fun n => n) rfl rfl rfl (rn_int rfl) rfl (entl_bor (use_lo rfl) rfl rfl entl_nil)))
   (fun c3 h => ret_at hR _ h (fun n => n) rfl rfl rfl (rn_int rfl) rfl (entl_bor (use_lo rfl) rfl rfl entl_nil)))
   (fun c2 h => no_some h))
   (fun c1 h => no_some h))
   (fun c0 h => ret_at hR _ h (fun n => n) rfl rfl rfl (rn_int rfl) rfl (entl_bor (use_lo rfl) rfl rfl entl_nil))
theorem a177 (al nl ml : Nat) (tl : Nat → Int) {r : Rt177} (h : Goes ((q177 al nl ml tl)) ((p177 al nl ml tl)) r) : CallR Try.prog 40 [.loose ⟨0, 1, al, 0⟩ nl, .fn (.func 38) [] []] [[(0, (false, .cols ml [.int .i64 tl]))]] 1 ((V177 al nl ml tl) r) ((fun r => [newL (1 + 1) ((N177 al nl ml tl) r) ++ [(0, (false, .cols ml [.int .i64 tl]))]]) r) 400 ∧ ∃ F, Try.prog.funcs[40]? = some F ∧ F.body.isSome = true ∧ (F.name == "runtime.NumGoroutine") = false := by
  refine dec_calls (f := 40) (lo := 1) (hi := 400) (H := [[(0, (false, .cols ml [.int .i64 tl]))]]) (args := [.loose ⟨0, 1, al, 0⟩ nl, .fn (.func 38) [] []]) Try.envOk Try.mixed noX_ok ((I177 al nl ml tl)) ((V177 al nl ml tl)) (fun r => [newL (1 + 1) ((N177 al nl ml tl) r) ++ [(0, (false, .cols ml [.int .i64 tl]))]]) (fn := mkFn Try.f40) (ts := [0, 1, 7, 8]) (n := 400) rfl (by decide) (by simp) (names_of rfl) ?_ ?_ ?_ h
  · intro s; cases s <;> exact ⟨hd_ok _ _, by simp [I177], names_of rfl, Nat.le_of_ble_eq_true rfl⟩
  · intro Kst Kret x hS hR h
    exact Holds.eq (te177 cond Kst Kret al nl ml tl) (be177 al nl ml tl Kst Kret x hS hR h)
  · intro Kst Kret x hS hR s h
    cases s with
    | h0 x0 => exact Holds.eq (t177_0 cond Kst Kret al nl ml tl x0) (b177_0 al nl ml tl Kst Kret x hS hR x0 h)
noncomputable def k177 : Con := ⟨40, [.one (.list [.int .i64]), .fn 38 []], fun (x : (Nat × Nat × Nat × (Nat → Int) × Unit) × (Unit) × Unit) => (fun (al nl ml : Nat) (tl : Nat → Int) => decide (al + nl ≤ ml ∧ nl ≤ 1000000)) x.1.1 x.1.2.1 x.1.2.2.1 x.1.2.2.2.1, fun (x : (Nat × Nat × Nat × (Nat → Int) × Unit) × (Unit) × Unit) => (fun (al nl ml : Nat) (tl : Nat → Int) => (V177 al nl ml tl) (S.idx (fun j => !decide (-1099511627776 ≤ tl (j + al) ∧ tl (j + al) ≤ 1099511627776)) 0 nl)) x.1.1 x.1.2.1 x.1.2.2.1 x.1.2.2.2.1, fun (x : (Nat × Nat × Nat × (Nat → Int) × Unit) × (Unit) × Unit) => (fun (al nl ml : Nat) (tl : Nat → Int) => (N177 al nl ml tl) (S.idx (fun j => !decide (-1099511627776 ≤ tl (j + al) ∧ tl (j + al) ≤ 1099511627776)) 0 nl)) x.1.1 x.1.2.1 x.1.2.2.1 x.1.2.2.2.1, fun _ _ => .dead⟩
theorem s177' (al nl ml : Nat) (tl : Nat → Int) (hp : al + nl ≤ ml ∧ nl ≤ 1000000) : ∀ k i : Nat, i + k = nl → Comes (q177 al nl ml tl) (.h0 (i : Int)) (S.idx (fun j => !decide (-1099511627776 ≤ tl (j + al) ∧ tl (j + al) ≤ 1099511627776)) i k) := by
  obtain ⟨hp1, hp2⟩ := hp
  intro k
  induction k with
  | zero =>
    intro i hi
    apply Comes.of
    show Goes _ _ _
    (first | rw [q177] | unfold q177)
    repeat' first
      | with_reducible refine goes_if (fun h => ?_) (fun h => ?_) <;> (try simp only [lim64, imp_false, decide_eq_true_eq, decide_eq_false_iff_not, Int.toNat_natCast, toNat_pred, toNat_succ, Option.getD_some, Option.getD_none, Bool.not_eq_true', Bool.not_eq_false', Bool.and_eq_true, Bool.or_eq_true, Bool.and_eq_false_iff, Bool.or_eq_false_iff, bne_iff_ne, beq_iff_eq, bne_eq_false_iff_eq, beq_eq_false_iff_ne, ne_eq, not_and, Int.not_le, Int.not_lt, ge_iff_le, gt_iff_lt, Nat.not_lt, Nat.not_le, Bool.not_eq_true, Bool.not_eq_false, Bool.true_eq_false, Bool.false_eq_true, not_false_eq_true, not_true_eq_false] at h)
      | exact goes_none.mpr (by omega)
    all_goals first | (exfalso; omega) | rfl | (refine Eq.mpr (congrArg (Comes _ _) ?_) True; simp only [S.idx, Bool.and_eq_true, Bool.or_eq_true, decide_eq_true_eq, Bool.not_eq_true', decide_eq_false_iff_not]; (repeat' split) <;> first | rfl | omega | (exfalso; omega) | (exfalso; simp_all; done) | (exfalso; simp_all; omega) | simp_all) | (refine goes_inr.mpr ?_; simp only [S.idx, Bool.and_eq_true, Bool.or_eq_true, decide_eq_true_eq, Bool.not_eq_true', decide_eq_false_iff_not]; (repeat' split) <;> first | rfl | omega | (exfalso; omega) | (exfalso; simp_all; done) | (exfalso; simp_all; omega) | simp_all)
  | succ k ih =>
    intro i hi
    have ih := ih (i + 1) (by omega)
    apply Comes.of
    show Goes _ _ _
    (first | rw [q177] | unfold q177)
    repeat' first
      | with_reducible refine goes_if (fun h => ?_) (fun h => ?_) <;> (try simp only [lim64, imp_false, decide_eq_true_eq, decide_eq_false_iff_not, Int.toNat_natCast, toNat_pred, toNat_succ, Option.getD_some, Option.getD_none, Bool.not_eq_true', Bool.not_eq_false', Bool.and_eq_true, Bool.or_eq_true, Bool.and_eq_false_iff, Bool.or_eq_false_iff, bne_iff_ne, beq_iff_eq, bne_eq_false_iff_eq, beq_eq_false_iff_ne, ne_eq, not_and, Int.not_le, Int.not_lt, ge_iff_le, gt_iff_lt, Nat.not_lt, Nat.not_le, Bool.not_eq_true, Bool.not_eq_false, Bool.true_eq_false, Bool.false_eq_true, not_false_eq_true, not_true_eq_false] at h)
      | exact goes_none.mpr (by omega)
    all_goals first | (exfalso; omega) | rfl | (refine Eq.mpr (congrArg (Comes _ _) ?_) ih; simp only [S.idx, Bool.and_eq_true, Bool.or_eq_true, decide_eq_true_eq, Bool.not_eq_true', decide_eq_false_iff_not]; (repeat' split) <;> first | rfl | omega | (exfalso; omega) | (exfalso; simp_all; done) | (exfalso; simp_all; omega) | simp_all) | (refine goes_inr.mpr ?_; simp only [S.idx, Bool.and_eq_true, Bool.or_eq_true, decide_eq_true_eq, Bool.not_eq_true', decide_eq_false_iff_not]; (repeat' split) <;> first | rfl | omega | (exfalso; omega) | (exfalso; simp_all; done) | (exfalso; simp_all; omega) | simp_all)
theorem s177 (al nl ml : Nat) (tl : Nat → Int) (hp : al + nl ≤ ml ∧ nl ≤ 1000000) : Goes ((q177 al nl ml tl)) ((p177 al nl ml tl)) (S.idx (fun j => !decide (-1099511627776 ≤ tl (j + al) ∧ tl (j + al) ≤ 1099511627776)) 0 nl) := by
  exact s177' al nl ml tl hp nl 0 (by omega)
theorem k177_ok : k177.ok Try.prog := by
  intro x hx
  obtain ⟨⟨al, nl, ml, tl, _⟩, ⟨_⟩, _⟩ := x
  obtain ⟨h1, h2⟩ := a177 al nl ml tl (s177 al nl ml tl (of_dec hx rfl))
  exact ⟨⟨400, (by decide : 1 + 1 + 0 ≤ 400), h1⟩, h2⟩
noncomputable def xI1 (test : Bool → Prop → Prop → Prop) : Ext := consX test [k177]
theorem xI1_ok : ExtOk Try.prog (xI1 cond) := consX_ok ⟨k177_ok, trivial⟩
abbrev St162 := Empty
abbrev Rt162 := Bool
noncomputable def V162 (al nl ml : Nat) (tl : Nat → Int) (r : Rt162) : PV := PV.bool r
noncomputable def N162 (al nl ml : Nat) (tl : Nat → Int) (r : Rt162) : List Blk := []
noncomputable def I162 (al nl ml : Nat) (tl : Nat → Int) : St162 → Hd := fun s => s.elim
noncomputable def q162 (al nl ml : Nat) (tl : Nat → Int) : St162 → Option (St162 ⊕ Rt162) := fun s => s.elim
noncomputable def p162 (al nl ml : Nat) (tl : Nat → Int) : Option (St162 ⊕ Rt162) := bif (decide (al + nl ≤ ml ∧ nl ≤ 1000000))
 then (bif (decide
 (S.idx
 (fun j => !decide ((-1099511627776 : Int) ≤ tl (j + al) ∧ tl (j + al) ≤ (1099511627776 : Int)))
 (0) nl ≥
 (0 : Int)))
 then (some (.inr (true)))
 else (some (.inr (false))))
 else (none)
noncomputable def Te162 (test : Bool → Prop → Prop → Prop) (Kst : KS) (Kret : KR) (al nl ml : Nat) (tl : Nat → Int) : Prop :=
  test (decide (al + nl ≤ ml ∧ nl ≤ 1000000))
 (test (decide
 (S.idx
 (fun j => !decide ((-1099511627776 : Int) ≤ tl (j + al) ∧ tl (j + al) ≤ (1099511627776 : Int)))
 (0) nl ≥
 (0 : Int)))
 (Kret (PV.tf true) ([[(0, false, Blk.cols ml [Col.int IntKind.i64 tl])]]) (2))
 (Kret (PV.tf false) ([[(0, false, Blk.cols ml [Col.int IntKind.i64 tl])]]) (2)))
 (False)
theorem te162 (test : Bool → Prop → Prop → Prop) (Kst : KS) (Kret : KR) (al nl ml : Nat) (tl : Nat → Int) : run test Try.env true (xI1 test) true 400 ⟨29, [.cd (mkFn Try.f29).body], argT 0 [.loose ⟨0, 1, al, 0⟩ nl, .fn (.func 38) [] []], [[], [(0, (false, .cols ml [.int .i64 tl]))]], 1⟩ (proj 1 [] Kst Kret) =
  Te162 test Kst Kret al nl ml tl := by kernel_rfl
theorem be162 (al nl ml : Nat) (tl : Nat → Int) (Kst : KS) (Kret : KR) (x : St162 ⊕ Rt162) (hS : HS 1 400 ((I162 al nl ml tl)) Kst x) (hR : HR 1 400 ((V162 al nl ml tl)) (fun r => [newL (1 + 1) ((N162 al nl ml tl) r) ++ [(0, (false, .cols ml [.int .i64 tl]))]]) Kret x) (h : (bif (decide (al + nl ≤ ml ∧ nl ≤ 1000000))
 then (bif (decide
 (S.idx
 (fun j => !decide ((-1099511627776 : Int) ≤ tl (j + al) ∧ tl (j + al) ≤ (1099511627776 : Int)))
 (0) nl ≥
 (0 : Int)))
 then (some (.inr (true)))
 else (some (.inr (false))))
 else (none) : Option (St162 ⊕ Rt162)) = some x) : Te162 cond Kst Kret al nl ml tl := by
  unfold Te162
  exact bif_split h
   (fun c0 h => bif_split h
   (fun c1 h => ret_at hR _ h (fun n => n) rfl rfl rfl (rn_bool_tf rfl) rfl (entl_bor (use_lo rfl) rfl rfl entl_nil))
   (fun c1 h => ret_at hR _ h (fun n => n) rfl rfl rfl (rn_bool_tf rfl) rfl (entl_bor (use_lo rfl) rfl rfl entl_nil)))
   (fun c0 h => no_some h)
theorem a162 (al nl ml : Nat) (tl : Nat → Int) {r : Rt162} (h : Goes ((q162 al nl ml tl)) ((p162 al nl ml tl)) r) : CallR Try.prog 29 [.loose ⟨0, 1, al, 0⟩ nl, .fn (.func 38) [] []] [[(0, (false, .cols ml [.int .i64 tl]))]] 1 ((V162 al nl ml tl) r) ((fun r => [newL (1 + 1) ((N162 al nl ml tl) r) ++ [(0, (false, .cols ml [.int .i64 tl]))]]) r) 400 ∧ ∃ F, Try.prog.funcs[29]? = some F ∧ F.body.isSome = true ∧ (F.name == "runtime.NumGoroutine") = false := by
  refine dec_calls (f := 29) (lo := 1) (hi := 400) (H := [[(0, (false, .cols ml [.int .i64 tl]))]]) (args := [.loose ⟨0, 1, al, 0⟩ nl, .fn (.func 38) [] []]) Try.envOk Try.mixed xI1_ok ((I162 al nl ml tl)) ((V162 al nl ml tl)) (fun r => [newL (1 + 1) ((N162 al nl ml tl) r) ++ [(0, (false, .cols ml [.int .i64 tl]))]]) (fn := mkFn Try.f29) (ts := []) (n := 400) rfl (by decide) (by simp) (names_of rfl) ?_ ?_ ?_ h
  · intro s; exact s.elim
  · intro Kst Kret x hS hR h
    exact Holds.eq (te162 cond Kst Kret al nl ml tl) (be162 al nl ml tl Kst Kret x hS hR h)
  · intro Kst Kret x hS hR s h; exact s.elim
noncomputable def k162 : Con := ⟨29, [.one (.list [.int .i64]), .fn 38 []], fun (x : (Nat × Nat × Nat × (Nat → Int) × Unit) × (Unit) × Unit) => (fun (al nl ml : Nat) (tl : Nat → Int) => decide (al + nl ≤ ml ∧ nl ≤ 1000000)) x.1.1 x.1.2.1 x.1.2.2.1 x.1.2.2.2.1, fun (x : (Nat × Nat × Nat × (Nat → Int) × Unit) × (Unit) × Unit) => (fun (al nl ml : Nat) (tl : Nat → Int) => (V162 al nl ml tl) (S.any (fun j => !decide (-1099511627776 ≤ tl (j + al) ∧ tl (j + al) ≤ 1099511627776)) nl)) x.1.1 x.1.2.1 x.1.2.2.1 x.1.2.2.2.1, fun (x : (Nat × Nat × Nat × (Nat → Int) × Unit) × (Unit) × Unit) => (fun (al nl ml : Nat) (tl : Nat → Int) => (N162 al nl ml tl) (S.any (fun j => !decide (-1099511627776 ≤ tl (j + al) ∧ tl (j + al) ≤ 1099511627776)) nl)) x.1.1 x.1.2.1 x.1.2.2.1 x.1.2.2.2.1, fun _ _ => .dead⟩
theorem s162 (al nl ml : Nat) (tl : Nat → Int) (hp : al + nl ≤ ml ∧ nl ≤ 1000000) : Goes ((q162 al nl ml tl)) ((p162 al nl ml tl)) (S.any (fun j => !decide (-1099511627776 ≤ tl (j + al) ∧ tl (j + al) ≤ 1099511627776)) nl) := by
  have hp' := hp
  obtain ⟨hp1, hp2⟩ := hp
  rw [← idx_any (p := (fun j => !decide (-1099511627776 ≤ tl (j + al) ∧ tl (j + al) ≤ 1099511627776))) (n := nl)]
  show Goes _ _ _
  unfold p162
  repeat' first
    | with_reducible refine goes_if (fun h => ?_) (fun h => ?_) <;> (try simp only [lim64, imp_false, decide_eq_true_eq, decide_eq_false_iff_not, Int.toNat_natCast, toNat_pred, toNat_succ, Option.getD_some, Option.getD_none, Bool.not_eq_true', Bool.not_eq_false', Bool.and_eq_true, Bool.or_eq_true, Bool.and_eq_false_iff, Bool.or_eq_false_iff, bne_iff_ne, beq_iff_eq, bne_eq_false_iff_eq, beq_eq_false_iff_ne, ne_eq, not_and, Int.not_le, Int.not_lt, ge_iff_le, gt_iff_lt, Nat.not_lt, Nat.not_le, Bool.not_eq_true, Bool.not_eq_false, Bool.true_eq_false, Bool.false_eq_true, not_false_eq_true, not_true_eq_false] at h)
    | exact goes_none.mpr (by omega)
  all_goals first | (exfalso; omega) | (exfalso; simp_all; done) | (refine goes_inr.mpr ?_; first | rfl | (symm; simp_all; done) | (symm; simp_all; omega))
theorem k162_ok : k162.ok Try.prog := by
  intro x hx
  obtain ⟨⟨al, nl, ml, tl, _⟩, ⟨_⟩, _⟩ := x
  obtain ⟨h1, h2⟩ := a162 al nl ml tl (s162 al nl ml tl (of_dec hx rfl))
  exact ⟨⟨400, (by decide : 1 + 1 + 0 ≤ 400), h1⟩, h2⟩
noncomputable def xI2 (test : Bool → Prop → Prop → Prop) : Ext := consX test [k162]
theorem xI2_ok : ExtOk Try.prog (xI2 cond) := consX_ok ⟨k162_ok, trivial⟩
abbrev St149 := Empty
abbrev Rt149 := Int
noncomputable def V149 (al nl ml : Nat) (tl : Nat → Int) (r : Rt149) : PV := PV.int IntKind.i64 r
noncomputable def N149 (al nl ml : Nat) (tl : Nat → Int) (r : Rt149) : List Blk := []
noncomputable def I149 (al nl ml : Nat) (tl : Nat → Int) : St149 → Hd := fun s => s.elim
noncomputable def q149 (al nl ml : Nat) (tl : Nat → Int) : St149 → Option (St149 ⊕ Rt149) := fun s => s.elim
noncomputable def p149 (al nl ml : Nat) (tl : Nat → Int) : Option (St149 ⊕ Rt149) := bif (decide ((↑nl : Int) > (500 : Int)))
 then (some (.inr ((3 : Int))))
 else (bif (decide (al + nl ≤ ml ∧ nl ≤ 1000000))
 then (bif (S.any
 (fun j => !decide ((-1099511627776 : Int) ≤ tl (j + al) ∧ tl (j + al) ≤ (1099511627776 : Int))) nl)
 then (some (.inr ((6 : Int))))
 else (some (.inr ((0 : Int)))))
 else (none))
noncomputable def Te149 (test : Bool → Prop → Prop → Prop) (Kst : KS) (Kret : KR) (al nl ml : Nat) (tl : Nat → Int) : Prop :=
  test (decide ((↑nl : Int) > (500 : Int)))
 (Kret (PV.int IntKind.i64 (3 : Int)) ([[(0, false, Blk.cols ml [Col.int IntKind.i64 tl])]]) (1))
 (test (decide (al + nl ≤ ml ∧ nl ≤ 1000000))
 (test (S.any
 (fun j => !decide ((-1099511627776 : Int) ≤ tl (j + al) ∧ tl (j + al) ≤ (1099511627776 : Int))) nl)
 (Kret (PV.int IntKind.i64 (6 : Int)) ([[(0, false, Blk.cols ml [Col.int IntKind.i64 tl])]]) (2))
 (Kret (PV.int IntKind.i64 (0 : Int)) ([[(0, false, Blk.cols ml [Col.int IntKind.i64 tl])]]) (2)))
 (False))
theorem te149 (test : Bool → Prop → Prop → Prop) (Kst : KS) (Kret : KR) (al nl ml : Nat) (tl : Nat → Int) : run test Try.env true (xI2 test) true 400 ⟨25, [.cd (mkFn Try.f25).body], argT 0 [.loose ⟨0, 1, al, 0⟩ nl], [[], [(0, (false, .cols ml [.int .i64 tl]))]], 1⟩ (proj 1 [] Kst Kret) =
  Te149 test Kst Kret al nl ml tl := by kernel_rfl
theorem be149 (al nl ml : Nat) (tl : Nat → Int) (Kst : KS) (Kret : KR) (x : St149 ⊕ Rt149) (hS : HS 1 400 ((I149 al nl ml tl)) Kst x) (hR : HR 1 400 ((V149 al nl ml tl)) (fun r => [newL (1 + 1) ((N149 al nl ml tl) r) ++ [(0, (false, .cols ml [.int .i64 tl]))]]) Kret x) (h : (bif (decide ((↑nl : Int) > (500 : Int)))
 then (some (.inr ((3 : Int))))
 else (bif (decide (al + nl ≤ ml ∧ nl ≤ 1000000))
 then (bif (S.any
 (fun j => !decide ((-1099511627776 : Int) ≤ tl (j + al) ∧ tl (j + al) ≤ (1099511627776 : Int))) nl)
 then (some (.inr ((6 : Int))))
 else (some (.inr ((0 : Int)))))
 else (none)) : Option (St149 ⊕ Rt149)) = some x) : Te149 cond Kst Kret al nl ml tl := by
  unfold Te149
  exact bif_split h
   (fun c0 h => ret_at hR _ h (fun n => n) rfl rfl rfl (rn_int rfl) rfl (entl_bor (use_lo rfl) rfl rfl entl_nil))
   (fun c0 h => bif_split h
   (fun c1 h => bif_split h
   (fun c2 h => ret_at hR _ h (fun n => n) rfl rfl rfl (rn_int rfl) rfl (entl_bor (use_lo rfl) rfl rfl entl_nil))
   (fun c2 h => ret_at hR _ h (fun n => n) rfl rfl rfl (rn_int rfl) rfl (entl_bor (use_lo rfl) rfl rfl entl_nil)))
   (fun c1 h => no_some h))
theorem a149 (al nl ml : Nat) (tl : Nat → Int) {r : Rt149} (h : Goes ((q149 al nl ml tl)) ((p149 al nl ml tl)) r) : CallR Try.prog 25 [.loose ⟨0, 1, al, 0⟩ nl] [[(0, (false, .cols ml [.int .i64 tl]))]] 1 ((V149 al nl ml tl) r) ((fun r => [newL (1 + 1) ((N149 al nl ml tl) r) ++ [(0, (false, .cols ml [.int .i64 tl]))]]) r) 400 ∧ ∃ F, Try.prog.funcs[25]? = some F ∧ F.body.isSome = true ∧ (F.name == "runtime.NumGoroutine") = false := by
  refine dec_calls (f := 25) (lo := 1) (hi := 400) (H := [[(0, (false, .cols ml [.int .i64 tl]))]]) (args := [.loose ⟨0, 1, al, 0⟩ nl]) Try.envOk Try.mixed xI2_ok ((I149 al nl ml tl)) ((V149 al nl ml tl)) (fun r => [newL (1 + 1) ((N149 al nl ml tl) r) ++ [(0, (false, .cols ml [.int .i64 tl]))]]) (fn := mkFn Try.f25) (ts := []) (n := 400) rfl (by decide) (by simp) (names_of rfl) ?_ ?_ ?_ h
  · intro s; exact s.elim
  · intro Kst Kret x hS hR h
    exact Holds.eq (te149 cond Kst Kret al nl ml tl) (be149 al nl ml tl Kst Kret x hS hR h)
  · intro Kst Kret x hS hR s h; exact s.elim
noncomputable def k149 : Con := ⟨25, [.one (.list [.int .i64])], fun (x : (Nat × Nat × Nat × (Nat → Int) × Unit) × Unit) => (fun (al nl ml : Nat) (tl : Nat → Int) => decide (al + nl ≤ ml ∧ nl ≤ 1000000)) x.1.1 x.1.2.1 x.1.2.2.1 x.1.2.2.2.1, fun (x : (Nat × Nat × Nat × (Nat → Int) × Unit) × Unit) => (fun (al nl ml : Nat) (tl : Nat → Int) => (V149 al nl ml tl) (S.setE nl (fun j => tl (j + al)))) x.1.1 x.1.2.1 x.1.2.2.1 x.1.2.2.2.1, fun (x : (Nat × Nat × Nat × (Nat → Int) × Unit) × Unit) => (fun (al nl ml : Nat) (tl : Nat → Int) => (N149 al nl ml tl) (S.setE nl (fun j => tl (j + al)))) x.1.1 x.1.2.1 x.1.2.2.1 x.1.2.2.2.1, fun _ _ => .dead⟩
theorem s149 (al nl ml : Nat) (tl : Nat → Int) (hp : al + nl ≤ ml ∧ nl ≤ 1000000) : Goes ((q149 al nl ml tl)) ((p149 al nl ml tl)) (S.setE nl (fun j => tl (j + al))) := by
  obtain ⟨hp1, hp2⟩ := hp
  have e : S.all (fun j => decide (-1099511627776 ≤ tl (j + al) ∧ tl (j + al) ≤ 1099511627776)) nl = !S.any (fun j => !decide (-1099511627776 ≤ tl (j + al) ∧ tl (j + al) ≤ 1099511627776)) nl := by
    cases h : S.any (fun j => !decide (-1099511627776 ≤ tl (j + al) ∧ tl (j + al) ≤ 1099511627776)) nl
    · rw [any_no] at h
      exact all_iff.mpr fun j hj => by have := h j hj; rwa [Bool.not_eq_false'] at this
    · rw [any_iff] at h
      obtain ⟨j, hj, h⟩ := h
      rw [Bool.not_eq_true'] at h
      have := all_no (p := fun j => decide (-1099511627776 ≤ tl (j + al) ∧ tl (j + al) ≤ 1099511627776)) hj h
      rw [Bool.not_eq_true] at this
      exact this
  unfold S.setE p149
  rw [e]
  generalize S.any (fun j => !decide (-1099511627776 ≤ tl (j + al) ∧ tl (j + al) ≤ 1099511627776)) nl = A
  show Goes _ _ _
  cases A
  all_goals
   repeat' first
    | with_reducible refine goes_if (fun h => ?_) (fun h => ?_) <;> (try simp only [lim64, imp_false, decide_eq_true_eq, decide_eq_false_iff_not, Int.toNat_natCast, toNat_pred, toNat_succ, Option.getD_some, Option.getD_none, Bool.not_eq_true', Bool.not_eq_false', Bool.and_eq_true, Bool.or_eq_true, Bool.and_eq_false_iff, Bool.or_eq_false_iff, bne_iff_ne, beq_iff_eq, bne_eq_false_iff_eq, beq_eq_false_iff_ne, ne_eq, not_and, Int.not_le, Int.not_lt, ge_iff_le, gt_iff_lt, Nat.not_lt, Nat.not_le, Bool.not_eq_true, Bool.not_eq_false, Bool.true_eq_false, Bool.false_eq_true, not_false_eq_true, not_true_eq_false] at h)
    | exact goes_none.mpr (by omega)
   all_goals first | (exfalso; omega) | (rw [if_neg (by omega)]; exact goes_inr.mpr rfl) | (rw [if_pos (by omega)]; exact goes_inr.mpr rfl) | (exfalso; simp_all; done)
theorem k149_ok : k149.ok Try.prog := by
  intro x hx
  obtain ⟨⟨al, nl, ml, tl, _⟩, _⟩ := x
  obtain ⟨h1, h2⟩ := a149 al nl ml tl (s149 al nl ml tl (of_dec hx rfl))
  exact ⟨⟨400, (by decide : 1 + 1 + 0 ≤ 400), h1⟩, h2⟩
noncomputable def xB (test : Bool → Prop → Prop → Prop) : Ext := consX test [k21, k37, k38, k42, k49]
theorem xB_ok : ExtOk Try.prog (xB cond) := consX_ok ⟨k21_ok, k37_ok, k38_ok, k42_ok, k49_ok, trivial⟩
inductive St17 where
  | h0 (x0 : Int) (x1 : Int)
abbrev Rt17 := Int × Int
noncomputable def V17 (ar nr mr : Nat) (tr : Nat → Int) (vr : Nat → Int) (gr : Nat → Int) (ao no mo : Nat) (to : Nat → Bool) (r : Rt17) : PV := PV.tup [PV.int IntKind.i64 r.1, PV.int IntKind.i64 r.2]
noncomputable def N17 (ar nr mr : Nat) (tr : Nat → Int) (vr : Nat → Int) (gr : Nat → Int) (ao no mo : Nat) (to : Nat → Bool) (r : Rt17) : List Blk := []
noncomputable def I17 (ar nr mr : Nat) (tr : Nat → Int) (vr : Nat → Int) (gr : Nat → Int) (ao no mo : Nat) (to : Nat → Bool) : St17 → Hd
  | .h0 x0 x1 => ⟨hd Try.f24 0, [PV.ptr (PA.mk (2) (0) (0) (0)), PV.int IntKind.i64 x0,
 PV.loose (PA.mk (0) (3) ar (0)) nr, PV.int IntKind.i64 (↑nr : Int),
 PV.int IntKind.i64 x1], [[(2, (true, Blk.cells
 [PV.loose (PA.mk (0) (3) ar (0)) nr,
 PV.loose (PA.mk (1) (1) ao (0)) no]))], [(0, (false, .cols mr [.int .i64 tr, .int .i64 vr, .int .i64 gr])), (1, (false, .cols mo [.bool to]))]], 3⟩
noncomputable def q17 (ar nr mr : Nat) (tr : Nat → Int) (vr : Nat → Int) (gr : Nat → Int) (ao no mo : Nat) (to : Nat → Bool) : St17 → Option (St17 ⊕ Rt17)
  | .h0 x0 x1 => bif (decide (x1 < (↑nr : Int)))
 then (bif (decide ((0 : Int) ≤ x1 ∧ x1 < (↑nr : Int)))
 then (bif (decide (Int.toNat x1 + ar < mr))
 then (bif (decide ((0 : Int) ≤ x1 ∧ x1 < (↑no : Int)))
 then (bif (decide (Int.toNat x1 + ao < mo))
 then (bif (to (Int.toNat x1 + ao))
 then (bif (lim IntKind.i64 (x0 + gr (Int.toNat x1 + ar)))
 then (bif (lim IntKind.i64 (x1 + (1 : Int)))
 then (some (.inl (.h0 (x0 + gr (Int.toNat x1 + ar)) (x1 + (1 : Int)))))
 else (none))
 else (none))
 else (bif (lim IntKind.i64 (x1 + (1 : Int)))
 then (some (.inl (.h0 (x0) (x1 + (1 : Int)))))
 else (none)))
 else (none))
 else (none))
 else (none))
 else (none))
 else (some (.inr (x0, (0 : Int))))
noncomputable def p17 (ar nr mr : Nat) (tr : Nat → Int) (vr : Nat → Int) (gr : Nat → Int) (ao no mo : Nat) (to : Nat → Bool) : Option (St17 ⊕ Rt17) := bif (decide (ar + nr ≤ mr ∧ nr ≤ 1000000))
 then (bif (S.magE nr (fun j => tr (j + ar)) (fun j => vr (j + ar)) (fun j => gr (j + ar)) no !=
 (0 : Int))
 then (some (.inr ((0 : Int), S.magE nr (fun j => tr (j + ar)) (fun j => vr (j + ar)) (fun j => gr (j + ar)) no)))
 else (some (.inl (.h0 ((0 : Int)) ((0 : Int))))))
 else (none)
noncomputable def Te17 (test : Bool → Prop → Prop → Prop) (Kst : KS) (Kret : KR) (ar nr mr : Nat) (tr : Nat → Int) (vr : Nat → Int) (gr : Nat → Int) (ao no mo : Nat) (to : Nat → Bool) : Prop :=
  test (decide (ar + nr ≤ mr ∧ nr ≤ 1000000))
 (test (S.magE nr (fun j => tr (j + ar)) (fun j => vr (j + ar)) (fun j => gr (j + ar)) no !=
 (0 : Int))
 (Kret (PV.tup
 [PV.int IntKind.i64 (0 : Int),
 PV.int IntKind.i64
 (S.magE nr (fun j => tr (j + ar)) (fun j => vr (j + ar)) (fun j => gr (j + ar)) no)]) ([[(1, false, Blk.cols mo [Col.bool to]),
 (0, false,
 Blk.cols mr
 [Col.int IntKind.i64 tr, Col.int IntKind.i64 vr, Col.int IntKind.i64 gr])]]) (4))
 (Kst (hd Try.f24 0) ([PV.ptr (PA.mk (2) (0) (0) (0)), PV.int IntKind.i64 (0 : Int),
 PV.loose (PA.mk (0) (3) ar (0)) nr, PV.int IntKind.i64 (↑nr : Int),
 PV.int IntKind.i64 (0 : Int)]) ([[(1, false, Blk.cols mo [Col.bool to]),
 (0, false,
 Blk.cols mr
 [Col.int IntKind.i64 tr, Col.int IntKind.i64 vr, Col.int IntKind.i64 gr]),
 (2, true,
 Blk.cells
 [PV.loose (PA.mk (0) (3) ar (0)) nr,
 PV.loose (PA.mk (1) (1) ao (0)) no])]]) (4)))
 (False)
theorem te17 (test : Bool → Prop → Prop → Prop) (Kst : KS) (Kret : KR) (ar nr mr : Nat) (tr : Nat → Int) (vr : Nat → Int) (gr : Nat → Int) (ao no mo : Nat) (to : Nat → Bool) : run test Try.env true (xB test) true 400 ⟨24, [.cd (mkFn Try.f24).body], argT 0 [.agg [.loose ⟨0, 3, ar, 0⟩ nr, .loose ⟨1, 1, ao, 0⟩ no]], [[], [(0, (false, .cols mr [.int .i64 tr, .int .i64 vr, .int .i64 gr])), (1, (false, .cols mo [.bool to]))]], 2⟩ (proj 2 [1, 5, 14, 15, 16] Kst Kret) =
  Te17 test Kst Kret ar nr mr tr vr gr ao no mo to := by kernel_rfl
noncomputable def T17_0 (test : Bool → Prop → Prop → Prop) (Kst : KS) (Kret : KR) (ar nr mr : Nat) (tr : Nat → Int) (vr : Nat → Int) (gr : Nat → Int) (ao no mo : Nat) (to : Nat → Bool) (x0 : Int) (x1 : Int) : Prop :=
  test (decide (x1 < (↑nr : Int)))
 (test (decide ((0 : Int) ≤ x1 ∧ x1 < (↑nr : Int)))
 (test (decide (Int.toNat x1 + ar < mr))
 (test (decide (Int.toNat x1 + ar < mr))
 (test (decide (Int.toNat x1 + ar < mr))
 (test (decide ((0 : Int) ≤ x1 ∧ x1 < (↑no : Int)))
 (test (decide (Int.toNat x1 + ao < mo))
 (test (to (Int.toNat x1 + ao))
 (test (lim IntKind.i64 (x0 + gr (Int.toNat x1 + ar)))
 (test (lim IntKind.i64 (x1 + (1 : Int)))
 (Kst (hd Try.f24 0) ([PV.ptr (PA.mk (2) (0) (0) (0)),
 PV.int IntKind.i64 (x0 + gr (Int.toNat x1 + ar)),
 PV.loose (PA.mk (0) (3) ar (0)) nr, PV.int IntKind.i64 (↑nr : Int),
 PV.int IntKind.i64 (x1 + (1 : Int))]) ([[(1, false, Blk.cols mo [Col.bool to]),
 (0, false,
 Blk.cols mr
 [Col.int IntKind.i64 tr, Col.int IntKind.i64 vr, Col.int IntKind.i64 gr]),
 (2, true,
 Blk.cells
 [PV.loose (PA.mk (0) (3) ar (0)) nr,
 PV.loose (PA.mk (1) (1) ao (0)) no])]]) (4))
 (False))
 (False))
 (test (lim IntKind.i64 (x1 + (1 : Int)))
 (Kst (hd Try.f24 0) ([PV.ptr (PA.mk (2) (0) (0) (0)), PV.int IntKind.i64 x0,
 PV.loose (PA.mk (0) (3) ar (0)) nr, PV.int IntKind.i64 (↑nr : Int),
 PV.int IntKind.i64 (x1 + (1 : Int))]) ([[(1, false, Blk.cols mo [Col.bool to]),
 (0, false,
 Blk.cols mr
 [Col.int IntKind.i64 tr, Col.int IntKind.i64 vr, Col.int IntKind.i64 gr]),
 (2, true,
 Blk.cells
 [PV.loose (PA.mk (0) (3) ar (0)) nr,
 PV.loose (PA.mk (1) (1) ao (0)) no])]]) (4))
 (False)))
 (False))
 (False))
 (False))
 (False))
 (False))
 (False))
 (Kret (PV.tup [PV.int IntKind.i64 x0, PV.int IntKind.i64 (0 : Int)]) ([[(1, false, Blk.cols mo [Col.bool to]),
 (0, false,
 Blk.cols mr
 [Col.int IntKind.i64 tr, Col.int IntKind.i64 vr, Col.int IntKind.i64 gr])]]) (3))
theorem t17_0 (test : Bool → Prop → Prop → Prop) (Kst : KS) (Kret : KR) (ar nr mr : Nat) (tr : Nat → Int) (vr : Nat → Int) (gr : Nat → Int) (ao no mo : Nat) (to : Nat → Bool) (x0 : Int) (x1 : Int) : run test Try.env true (xB test) true 400 ⟨24, hd Try.f24 0, zipT [1, 5, 14, 15, 16] [PV.ptr (PA.mk (2) (0) (0) (0)), PV.int IntKind.i64 x0,
 PV.loose (PA.mk (0) (3) ar (0)) nr, PV.int IntKind.i64 (↑nr : Int),
 PV.int IntKind.i64 x1], [[(2, (true, Blk.cells
 [PV.loose (PA.mk (0) (3) ar (0)) nr,
 PV.loose (PA.mk (1) (1) ao (0)) no]))], [(0, (false, .cols mr [.int .i64 tr, .int .i64 vr, .int .i64 gr])), (1, (false, .cols mo [.bool to]))]], 3⟩ (proj 2 [1, 5, 14, 15, 16] Kst Kret) =
  T17_0 test Kst Kret ar nr mr tr vr gr ao no mo to x0 x1 := by kernel_rfl
theorem be17 (ar nr mr : Nat) (tr : Nat → Int) (vr : Nat → Int) (gr : Nat → Int) (ao no mo : Nat) (to : Nat → Bool) (Kst : KS) (Kret : KR) (x : St17 ⊕ Rt17) (hS : HS 2 400 ((I17 ar nr mr tr vr gr ao no mo to)) Kst x) (hR : HR 2 400 ((V17 ar nr mr tr vr gr ao no mo to)) (fun r => [newL (2 + 1) ((N17 ar nr mr tr vr gr ao no mo to) r) ++ [(0, (false, .cols mr [.int .i64 tr, .int .i64 vr, .int .i64 gr])), (1, (false, .cols mo [.bool to]))]]) Kret x) (h : (bif (decide (ar + nr ≤ mr ∧ nr ≤ 1000000))
 then (bif (S.magE nr (fun j => tr (j + ar)) (fun j => vr (j + ar)) (fun j => gr (j + ar)) no !=
 (0 : Int))
 then (some (.inr ((0 : Int), S.magE nr (fun j => tr (j + ar)) (fun j => vr (j + ar)) (fun j => gr (j + ar)) no)))
 else (some (.inl (.h0 ((0 : Int)) ((0 : Int))))))
 else (none) : Option (St17 ⊕ Rt17)) = some x) : Te17 cond Kst Kret ar nr mr tr vr gr ao no mo to := by
  unfold Te17
  exact bif_split h
   (fun c0 h => bif_split h
   (fun c1 h => ret_at hR _ h (fun n => n) rfl rfl rfl (rn_tup ⟨(rn_int rfl), (rn_int rfl), trivial⟩) rfl (entl_bor (use_lo rfl) rfl rfl (entl_bor (use_lo rfl) rfl rfl entl_nil)))
   (fun c1 h => stop_at hS _ h (fun n => bif Nat.beq n 2 then 2 else n) rfl rfl rfl ⟨(rn_ptr (use_own rfl) rfl rfl), ⟨(rn_int rfl), ⟨(rn_loose (use_lo rfl) rfl rfl rfl), ⟨(rn_int rfl), ⟨(rn_int rfl), trivial⟩⟩⟩⟩⟩ rfl (entl_b (use_own rfl) rfl (by simp) (rb_cells ⟨(rn_loose (use_lo rfl) rfl rfl rfl), (rn_loose (use_lo rfl) rfl rfl rfl), trivial⟩) (entl_bor (use_lo rfl) rfl rfl (entl_bor (use_lo rfl) rfl rfl entl_nil)))))
   (fun c0 h => no_some h)
end Go.Ev
