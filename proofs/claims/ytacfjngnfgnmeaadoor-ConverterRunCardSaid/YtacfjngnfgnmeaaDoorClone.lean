/-
  A copy of a script holds the same steps.
-/
import Derived.Test.YtacfjngnfgnmeaaDoorRun3
import Derived.Test.YtacfjngnfgnmeaaDoorRrun
namespace Go.Proofs.YtacfjngnfgnmeaaDoor
open Go.RowKit

/-- The numbers of a script, one behind the other. -/
def flat (K V : Nat → Int) (j : Nat) : Int := if j % 2 = 0 then K (j / 2) else V (j / 2)
def flats (n : Nat) (K V : Nat → Int) : List Value := (List.range (n * 2)).map fun j => .int .i64 (flat K V j)
/-- A slice's value holds a script of n steps. -/
def StV (w : World) (v : Value) (n : Nat) (K V : Nat → Int) : Prop := (n = 0 ∧ ∃ (A : Option Addr) (cap : Nat), v = .slice A 0 cap) ∨ ∃ (b off cap : Nat), v = .slice (some ⟨b, off, none⟩) n cap ∧ Stps w b off n K V
theorem StV.new {W w1 : World} {v : Value} {n : Nat} {K V : Nat → Int} (h : StV W v n K V) (hb : New W w1) : StV w1 v n K V := by
  rcases h with h | ⟨b, off, cap, h1, h2⟩
  · exact .inl h
  · exact .inr ⟨b, off, cap, h1, h2.new hb⟩
theorem flats_one (n : Nat) (K V : Nat → Int) : ∀ u ∈ flats n K V, u.oneCell' = true := by
  intro u hu
  simp only [flats, List.mem_map] at hu
  obtain ⟨j, _, rfl⟩ := hu
  rfl
theorem own_st {w : World} {base n : Nat} {v : Value} {K V : Nat → Int} (h : w.ownsRow base 41 2 v (0 + n) ([] ++ flats n K V)) : StV w v n K V := by
  rw [Nat.zero_add, List.nil_append] at h
  have h0 := h
  rcases h.2 with ⟨rfl, hz⟩ | ⟨g, cap, cur, rfl, _, hg, _⟩
  · exact .inl ⟨hz, none, 0, rfl⟩
  · refine .inr ⟨g, 0, cap, rfl, (Array.getElem?_eq_some_iff.1 hg).1, fun j hj => ?_⟩
    have c := h0.cells (g := g) rfl
    have hadd : ∀ k, (⟨g, 0, none⟩ : Addr).add k = ⟨g, k, none⟩ := fun k => by unfold Addr.add; split <;> simp_all
    have c0 := c (j * 2) (.int .i64 (K j)) (by simp [flats, flat, show j * 2 < n * 2 by omega])
    have c1 := c (j * 2 + 1) (.int .i64 (V j)) (by
      have e1 : (j * 2 + 1) % 2 = 1 := by omega
      have e2 : (j * 2 + 1) / 2 = j := by omega
      simp [flats, flat, show j * 2 + 1 < n * 2 by omega, e1, e2])
    rw [hadd] at c0 c1
    exact ⟨by simpa using c0, by simpa using c1⟩
theorem info41 : (Tryd.prog.info? 41).map (fun i => (i.zero, i.size, i.bytes)) = some (some (.agg #[.int .i64 0, .int .i64 0]), 2, 16) := by kernel_rfl
def ClonePost (w : World) (n : Nat) (K V : Nat → Int) (e : Ending) (w' : World) : Prop := ∃ v, e = .returned v ∧ StV w' v n K V ∧ New w w'

set_option maxHeartbeats 800000 in
theorem clone_nil (cap : Nat) (w : World) (K V : Nat → Int) : Calls Tryd.prog 25 #[.slice none 0 cap] w (ClonePost w 0 K V) := by
  have he : ∀ W : World, (binOp .eql 36 (.slice none 0 cap) (.slice none 0 0)).run Tryd.prog W = .ok (.bool true) W := fun W => Lib.run_eql_slice_nil (P := Tryd.prog) W 36 41 none 0 cap 0 0 Tryd.underlying36
  go_enter Tryd.func25, Tryd.ntmps25
  go_wp2
  go_ret
  exact ⟨_, rfl, .inl ⟨rfl, _, _, rfl⟩, new0 _⟩

set_option maxHeartbeats 800000 in
theorem clone_some (ad : Addr) (n cap : Nat) (K V : Nat → Int) (w : World) (hn : n ≤ 1000) (hc : ∀ j u, (flats n K V)[j]? = some u → w.cell? ((ad : Addr).add j) = some u) :
    Calls Tryd.prog 25 #[.slice (some ad) n cap] w (ClonePost w n K V) := by
  obtain ⟨i0, hi, hz0, hz1, hz2⟩ := info_parts info41
  have he : ∀ W : World, (binOp .eql 36 (.slice (some ad) n cap) (.slice none 0 0)).run Tryd.prog W = .ok (.bool false) W := fun W => Lib.run_eql_slice_nil (P := Tryd.prog) W 36 41 (some ad) n cap 0 0 Tryd.underlying36
  have hc' : ∀ j u, (flats n K V)[j]? = some u → (w.alloc (.cells #[] 41)).cell? ((ad : Addr).add j) = some u := fun j u hu => by
    rw [World.cell?_alloc_lt _ _ _ (World.block_lt_of_cell? w _ (hc j u hu))]
    exact hc j u hu
  have HC := Lib.hid hc'
  clear hc hc'
  go_enter Tryd.func25, Tryd.ntmps25
  go_wp2_with (at_builtin; refine wpList_append_own _ rfl (.tmp 5) (.tmp 6) 36 rfl w.heap.size 41 i0 (.agg #[.int .i64 0, .int .i64 0]) 2 16 Tryd.underlying36 hi hz0 hz1 hz2 rfl (by decide) _ 0 [] rfl (World.ownsRow_made w #[] 0 (Nat.le_refl _) (by decide) rfl) ad n cap (flats n K V) rfl (by simp [flats]) HC.out (flats_one n K V) (by unfold maxLen; omega) (by omega) (by simp) ?_; intro v' w1 hown hgrow _)
  go_ret
  refine ⟨_, rfl, ?_, ?_⟩
  · exact own_st hown
  · exact Below.grown (Below.alloc (Below.refl _ _) (Nat.le_refl _) _) hgrow (by simp) (fun k hk => by cases hk; exact Nat.le_refl _)
theorem clone_v (n : Nat) (K V : Nat → Int) (v : Value) (w : World) (hn : n ≤ 1000) (h : StV w v n K V) : Calls Tryd.prog 25 #[v] w (ClonePost w n K V) := by
  rcases h with ⟨rfl, A, cap, rfl⟩ | ⟨b, off, cap, rfl, _, hs⟩
  · cases A with
    | none => exact clone_nil cap w K V
    | some ad => exact clone_some ad 0 cap K V w (by omega) (fun j u hu => by simp [flats] at hu)
  · refine clone_some ⟨b, off, none⟩ n cap K V w hn (fun j u hu => ?_)
    have hadd : ∀ k, (⟨b, off, none⟩ : Addr).add k = ⟨b, off + k, none⟩ := fun k => by unfold Addr.add; split <;> simp_all
    rw [hadd]
    have hj : j < n * 2 := by
      have := (List.getElem?_eq_some_iff.1 hu).1
      simpa [flats] using this
    simp [flats, hj] at hu
    subst hu
    obtain ⟨c0, c1⟩ := hs (j / 2) (by omega)
    by_cases e : j % 2 = 0
    · have ej : j / 2 * 2 = j := by omega
      rw [ej] at c0
      simpa [flat, e] using c0
    · have ej : j / 2 * 2 + 1 = j := by omega
      rw [Nat.add_assoc, ej] at c1
      simpa [flat, e] using c1
end Go.Proofs.YtacfjngnfgnmeaaDoor
