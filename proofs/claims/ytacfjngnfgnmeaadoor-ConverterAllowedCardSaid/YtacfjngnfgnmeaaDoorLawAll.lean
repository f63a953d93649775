/-
  The walk of the statement ConverterAllowed.
-/
import Derived.Test.YtacfjngnfgnmeaaDoorAll2
namespace Go.Proofs.YtacfjngnfgnmeaaDoor
open Go.RowKit

/-- The place of a number in a list, or -1. -/
def idx (k : Int) : List Int → Nat → Int
  | [], _ => -1
  | x :: l, i => if k = x then i else idx k l (i + 1)
theorem idx_mem (k : Int) (l : List Int) (i : Nat) : (0 ≤ idx k l i) ↔ k ∈ l := by
  induction l generalizing i with
  | nil => simp [idx]
  | cons x l ih =>
    unfold idx
    by_cases e : k = x
    · simp [e]
    · rw [if_neg e, ih (i + 1)]; simp [e]
theorem mem_alL (s cu : Int) (n k : Nat) : ((k : Int) + 1 ∈ alL s cu n) ↔ k < n ∧ isaB s cu ((k : Int) + 1) = true := by
  induction n with
  | zero => simp [alL]
  | succ n ih =>
    by_cases h : isaB s cu ((n : Int) + 1) = true
    · rw [alL_yes h, List.mem_append, ih]
      simp only [List.mem_singleton]
      constructor
      · rintro (⟨h1, h2⟩ | h1)
        · exact ⟨by omega, h2⟩
        · have : k = n := by omega
          subst this
          exact ⟨by omega, h⟩
      · rintro ⟨h1, h2⟩
        by_cases e : k = n
        · exact .inr (by omega)
        · exact .inl ⟨by omega, h2⟩
    · rw [alL_no h, ih]
      constructor
      · rintro ⟨h1, h2⟩; exact ⟨by omega, h2⟩
      · rintro ⟨h1, h2⟩
        by_cases e : k = n
        · subst e; exact absurd h2 h
        · exact ⟨by omega, h2⟩

set_option maxHeartbeats 800000 in
theorem index_nil (A : Option Addr) (cap : Nat) (k : Int) (w : World) : Calls Tryd.prog 42 #[.slice A 0 cap, .int .i64 k] w fun e w' => e = .returned (.int .i64 (-1)) ∧ w = w' := by
  go_enter Tryd.func42, Tryd.ntmps42
  go_wp2
  go_loopw [8] (fun i wr => i = .int .i64 0 ∧ wr = w) (fun _ _ => 0)
  case atStart => exact ⟨rfl, rfl⟩
  case round =>
    obtain ⟨rfl, rfl⟩ := hrel
    go_wp2
    go_ret
    exact ⟨rfl, rfl⟩
/-- What Index answers: the first place, if there is one. -/
def IdxPost (n : Nat) (Z : Nat → Int) (k : Int) (w : World) (e : Ending) (w' : World) : Prop := (∃ i, e = .returned (.int .i64 i) ∧ ((0 ≤ i ∧ ∃ j, j < n ∧ Z j = k) ∨ (i = -1 ∧ ∀ j, j < n → Z j ≠ k))) ∧ w = w'
theorem idx_none {n : Nat} {Z : Nat → Int} {k : Int} {w : World} (h : ∀ j, j < n → Z j ≠ k) : IdxPost n Z k w (.returned (.int .i64 (-1))) w := ⟨⟨-1, rfl, .inr ⟨rfl, h⟩⟩, rfl⟩
set_option maxHeartbeats 1600000 in
theorem index_some (b off n cap : Nat) (Z : Nat → Int) (k : Int) (w : World) (hn : n ≤ 1000) (h1 : ∀ j, j < n → w.cell? ⟨b, off + j, none⟩ = some (.int .i64 (Z j))) :
    Calls Tryd.prog 42 #[.slice (some ⟨b, off, none⟩) n cap, .int .i64 k] w (IdxPost n Z k w) := by
  have HZ := Lib.hid h1
  clear h1
  go_enter Tryd.func42, Tryd.ntmps42
  go_wp2
  go_loopw [8] (fun i wr => ∃ j : Nat, j ≤ n ∧ i = .int .i64 j ∧ wr = w ∧ Hid (∀ t, t < j → Z t ≠ k)) (fun i _ => n - (intOf i).toNat)
  case atStart => exact ⟨0, by omega, rfl, rfl, Lib.hid fun t ht => absurd ht (by omega)⟩
  case round =>
    obtain ⟨j, hj, rfl, rfl, hH⟩ := hrel
    by_cases hlt : j < n
    · have c1 := HZ.out j hlt
      by_cases hk : k = Z j
      · have e1 : (k == Z j) = true := by simpa using hk
        have HK := Lib.hid hk
        clear hk
        go_wp2
        go_ret
        exact ⟨⟨_, rfl, .inl ⟨by omega, j, hlt, HK.out.symm⟩⟩, rfl⟩
      · have e1 : (k == Z j) = false := by simpa using hk
        have HK := Lib.hid hk
        clear hk
        go_wp2
        go_roundw
        case rel =>
          refine ⟨j + 1, by omega, by go_num, (by first | trivial | rfl), Lib.hid fun t ht => ?_⟩
          by_cases e : t = j
          · subst e; exact fun h => HK.out h.symm
          · exact hH.out t (by omega)
        case measure => simp [intOf]; omega
    · go_wp2
      go_ret
      exact idx_none (fun t ht => hH.out t (by omega))
theorem index_v (v : Value) (l : List Int) (k : Int) (w : World) (hn : l.length ≤ 1000) (h1 : IntV w v l) : Calls Tryd.prog 42 #[v, .int .i64 k] w fun e w' => (∃ i, e = .returned (.int .i64 i) ∧ (0 ≤ i ↔ k ∈ l)) ∧ w = w' := by
  rcases h1 with ⟨rfl, A, cap, rfl⟩ | ⟨b, off, cap, rfl, _, hc⟩
  · exact (index_nil A cap k w).mono fun e w' ⟨he, hw⟩ => ⟨⟨-1, he, by simp⟩, hw⟩
  · refine (index_some b off l.length cap _ k w hn hc).mono fun e w' ⟨⟨i, he, hi⟩, hw⟩ => ⟨⟨i, he, ?_⟩, hw⟩
    rw [List.mem_iff_getElem]
    rcases hi with ⟨h0, j, hj, hz⟩ | ⟨rfl, hz⟩
    · exact ⟨fun _ => ⟨j, hj, by simpa [hj] using hz⟩, fun _ => h0⟩
    · constructor
      · intro h; omega
      · rintro ⟨j, hj, e⟩
        exact absurd (by simpa [hj] using e) (hz j hj)
set_option maxHeartbeats 800000 in
theorem contains_v (v : Value) (l : List Int) (k : Int) (w : World) (hn : l.length ≤ 1000) (h1 : IntV w v l) : Calls Tryd.prog 30 #[v, .int .i64 k] w fun e w' => e = .returned (.bool (decide (k ∈ l))) ∧ w = w' := by
  have HI := Lib.hid h1
  clear h1
  go_enter Tryd.func30, Tryd.ntmps30
  go_wp2_with fail
  refine (index_v v l k w hn HI.out).mono ?_
  rintro e w' ⟨⟨i, rfl, hi⟩, rfl⟩
  have HE := Lib.hid hi
  clear hi
  go_wp2
  go_ret
  exact ⟨ret_bool (by have := HE.out; rw [Bool.eq_iff_iff]; simpa using this), rfl⟩
end Go.Proofs.YtacfjngnfgnmeaaDoor
