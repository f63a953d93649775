/-
  The converter in plain integers: what a command and a tick make of it, and that both keep it valid; then the functions in these words.
-/
import Derived.Test.YtacfjngnfgnmeaaDoorTick
namespace Go.Proofs.YtacfjngnfgnmeaaDoor
open Go.RowKit

def cmdE (s cu tg mn mx st k v : Int) : Int := if valE s cu tg mn mx st ≠ 0 then valE s cu tg mn mx st else if k < 1 ∨ 6 < k then 1 else if isaB s cu k = false then 8 else if k = 3 ∧ alwB mn mx v = false then 6 else 0
def cmdS (s cu k v : Int) : Int := if k = 1 then 2 else if k = 2 then 3 else if k = 3 then (if v = cu then 3 else 4) else if k = 4 then (if s = 2 then 1 else 2) else if k = 5 then 5 else 1
def cmdT (tg k v : Int) : Int := if k = 3 then v else if k = 4 ∨ k = 5 then 0 else tg
def tickE (s cu tg mn mx st n : Int) : Int := if valE s cu tg mn mx st ≠ 0 then valE s cu tg mn mx st else if n < 0 ∨ 1099511627776 < n then 6 else 0
def tickS (s cu tg st n : Int) : Int := if remI cu tg st ≤ n then (if s = 4 then 3 else s) else s
def tickC (cu tg st n : Int) : Int := if remI cu tg st ≤ n then tg else if cu < tg then cu + n * st else cu - n * st

theorem isa_ref {s cu k : Int} (h1 : 1 ≤ k) (h2 : k ≤ 6) : refB s cu k = isaB s cu k := by
  have : k = 1 ∨ k = 2 ∨ k = 3 ∨ k = 4 ∨ k = 5 ∨ k = 6 := by omega
  rcases this with rfl | rfl | rfl | rfl | rfl | rfl <;> simp [refB, isaB]
/-- A valid converter, in plain words. -/
structure Vd (s cu tg mn mx st : Int) : Prop where
  lim : limB mn mx st = true
  s0 : 1 ≤ s
  s1 : s ≤ 5
  hcu : alwB mn mx cu = true
  htg : alwB mn mx tg = true
  fit : fitB s cu tg = true
theorem vd_of {s cu tg mn mx st : Int} (h : valE s cu tg mn mx st = 0) : Vd s cu tg mn mx st := by
  unfold valE at h
  by_cases h1 : limB mn mx st = false
  · rw [if_pos h1] at h; omega
  rw [if_neg h1] at h
  by_cases h2 : s < 1 ∨ 5 < s
  · rw [if_pos h2] at h; omega
  rw [if_neg h2] at h
  by_cases h3 : alwB mn mx cu = false ∨ alwB mn mx tg = false
  · rw [if_pos h3] at h; omega
  rw [if_neg h3] at h
  by_cases h4 : fitB s cu tg = false
  · rw [if_pos h4] at h; omega
  simp only [not_or, Bool.not_eq_false] at h1 h2 h3 h4
  exact ⟨h1, by omega, by omega, h3.1, h3.2, h4⟩
theorem of_vd {s cu tg mn mx st : Int} (h : Vd s cu tg mn mx st) : valE s cu tg mn mx st = 0 := by
  obtain ⟨h1, h2, h3, h4, h5, h6⟩ := h
  unfold valE
  rw [if_neg (by simp [h1]), if_neg (by omega), if_neg (by simp [h4, h5]), if_neg (by simp [h6])]
theorem zero_in {mn mx st : Int} (h : limB mn mx st = true) : alwB mn mx 0 = true := by
  simp [limB, alwB] at *; omega
theorem cmdE_ok {s cu tg mn mx st k v : Int} (h : cmdE s cu tg mn mx st k v = 0) : valE s cu tg mn mx st = 0 ∧ 1 ≤ k ∧ k ≤ 6 ∧ isaB s cu k = true ∧ (k = 3 → alwB mn mx v = true) := by
  unfold cmdE at h
  by_cases h1 : valE s cu tg mn mx st ≠ 0
  · rw [if_pos h1] at h; exact absurd h h1
  rw [if_neg h1] at h
  by_cases h2 : k < 1 ∨ 6 < k
  · rw [if_pos h2] at h; omega
  rw [if_neg h2] at h
  by_cases h3 : isaB s cu k = false
  · rw [if_pos h3] at h; omega
  rw [if_neg h3] at h
  by_cases h4 : k = 3 ∧ alwB mn mx v = false
  · rw [if_pos h4] at h; omega
  exact ⟨by simpa using h1, by omega, by omega, by simpa using h3, fun e => by simpa [e] using h4⟩
theorem cmd_valid {s cu tg mn mx st k v : Int} (h : cmdE s cu tg mn mx st k v = 0) : valE (cmdS s cu k v) cu (cmdT tg k v) mn mx st = 0 := by
  obtain ⟨hv, k1, k6, ha, h3⟩ := cmdE_ok h
  obtain ⟨l, s0, s1, hc, ht, hf⟩ := vd_of hv
  have hz := zero_in l
  have : k = 1 ∨ k = 2 ∨ k = 3 ∨ k = 4 ∨ k = 5 ∨ k = 6 := by omega
  apply of_vd
  rcases this with rfl | rfl | rfl | rfl | rfl | rfl
  · simp [isaB] at ha
    obtain ⟨rfl, rfl⟩ := ha
    refine ⟨l, by simp [cmdS], by simp [cmdS], hc, by simpa [cmdT] using ht, ?_⟩
    simpa [fitB, cmdS, cmdT] using hf
  · simp [isaB] at ha
    obtain ⟨rfl, rfl⟩ := ha
    refine ⟨l, by simp [cmdS], by simp [cmdS], hc, by simpa [cmdT] using ht, ?_⟩
    simpa [fitB, cmdS, cmdT] using hf
  · have h3 := h3 rfl
    by_cases e : v = cu
    · refine ⟨l, by simp [cmdS, e], by simp [cmdS, e], hc, by simpa [cmdT] using h3, ?_⟩
      simp [fitB, cmdS, cmdT, e]
    · refine ⟨l, by simp [cmdS, e], by simp [cmdS, e], hc, by simpa [cmdT] using h3, ?_⟩
      simp [fitB, cmdS, cmdT, e]
  · by_cases e : s = 2
    · refine ⟨l, by simp [cmdS, e], by simp [cmdS, e], hc, by simpa [cmdT] using hz, ?_⟩
      simp [fitB, cmdS, cmdT, e]
    · refine ⟨l, by simp [cmdS, e], by simp [cmdS, e], hc, by simpa [cmdT] using hz, ?_⟩
      simp [fitB, cmdS, cmdT, e]
  · refine ⟨l, by simp [cmdS], by simp [cmdS], hc, by simpa [cmdT] using hz, ?_⟩
    simp [fitB, cmdS, cmdT]
  · simp [isaB] at ha
    obtain ⟨rfl, rfl⟩ := ha
    refine ⟨l, by simp [cmdS], by simp [cmdS], hc, by simpa [cmdT] using ht, ?_⟩
    simpa [fitB, cmdS, cmdT] using hf
theorem tickE_ok {s cu tg mn mx st n : Int} (h : tickE s cu tg mn mx st n = 0) : valE s cu tg mn mx st = 0 ∧ 0 ≤ n ∧ n ≤ 1099511627776 := by
  unfold tickE at h
  by_cases h1 : valE s cu tg mn mx st ≠ 0
  · rw [if_pos h1] at h; exact absurd h h1
  rw [if_neg h1] at h
  by_cases h2 : n < 0 ∨ 1099511627776 < n
  · rw [if_pos h2] at h; omega
  exact ⟨by simpa using h1, by omega, by omega⟩
theorem rem_le {d st n : Int} (hs : 1 ≤ st) (h : n < (d + st - 1) / st) : n * st + 1 ≤ d := by
  have h1 : (n + 1) * st ≤ d + st - 1 := Int.mul_le_of_le_ediv (by omega) (by omega)
  have h2 : (n + 1) * st = n * st + st := by rw [Int.add_mul, Int.one_mul]
  omega
theorem part {cu tg st n : Int} (h : Bd cu tg st) (hn : 0 ≤ n) (hl : n < remI cu tg st) : 0 ≤ n * st ∧ n * st < dist cu tg ∧ n * st ≤ 2199023255552 := by
  have h1 := rem_le h.s0 hl
  have h2 : 0 ≤ n * st := Int.mul_nonneg hn (by have := h.s0; omega)
  have h3 := (dist_bd h).2
  exact ⟨h2, by omega, by omega⟩
theorem tick_valid {s cu tg mn mx st n : Int} (h : tickE s cu tg mn mx st n = 0) : valE (tickS s cu tg st n) (tickC cu tg st n) tg mn mx st = 0 := by
  obtain ⟨hv, n0, n1⟩ := tickE_ok h
  have hb := bd_of hv
  obtain ⟨l, s0, s1, hc, ht, hf⟩ := vd_of hv
  apply of_vd
  by_cases e : remI cu tg st ≤ n
  · refine ⟨l, ?_, ?_, by simpa [tickC, e] using ht, ht, ?_⟩
    · simp only [tickS, if_pos e]; split <;> omega
    · simp only [tickS, if_pos e]; split <;> omega
    · simp only [tickS, tickC, if_pos e]
      by_cases e4 : s = 4
      · simp [fitB, e4]
      · rw [if_neg e4]
        by_cases e3 : s = 3
        · simp [fitB, e3]
        · simpa [fitB, e3, e4] using hf
  · obtain ⟨p0, p1, p2⟩ := part hb n0 (by omega)
    have hcc : alwB mn mx (tickC cu tg st n) = true := by
      simp [alwB, dist] at hc ht p1 ⊢
      simp only [tickC, if_neg e]
      split <;> rename_i hlt <;> (split at p1 <;> omega)
    refine ⟨l, by simpa only [tickS, if_neg e] using s0, by simpa only [tickS, if_neg e] using s1, hcc, ht, ?_⟩
    have ne : tg ≠ tickC cu tg st n := by
      unfold dist at p1
      simp only [tickC, if_neg e]
      split <;> rename_i hlt <;> (split at p1 <;> omega)
    simp only [tickS, if_neg e]
    by_cases e4 : s = 4
    · simp [fitB, e4, ne]
    · by_cases e3 : s = 3
      · subst e3
        simp [fitB] at hf
        unfold dist at p1; rw [hf] at p1; simp at p1; omega
      · simpa [fitB, e3, e4] using hf
end Go.Proofs.YtacfjngnfgnmeaaDoor
