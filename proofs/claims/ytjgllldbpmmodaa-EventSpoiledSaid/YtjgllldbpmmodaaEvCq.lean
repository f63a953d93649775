/-
  append of made elements: what the reckoner's says of the model's.
-/
import Derived.Test.YtjgllldbpmmodaaEvP
import Derived.Test.YtjgllldbpmmodaaEvCp
namespace Go.Ev
open Go.RowKit
set_option linter.unusedSimpArgs false
section
variable {P : Program}
theorem run_append_make (w : World) {t u ty e : TypeId} {k k' : IntKind} {i : TypeInfo} {z : Value} (ht : P.underlying t = some (.slice e)) (hu : P.underlying u = some (.int k)) (hi : P.info? e = some i) (hz : i.zero = some z)
    (A : Option Addr) (n : Nat) (h0 : 0 < n) (hn : n ≤ most) (hs : 0 < i.size) (hb : i.bytes < 4097) :
    (Builtin.append_ #[t, u] ty #[.slice A 0 0, .int k' (n : Int)]).run P w = .ok (.slice (some ⟨w.heap.size, 0, none⟩) n (grownCap w n 0 e)) (w.drew.alloc (.cells (Builtin.zeroCells z.cells n ++ Builtin.zeroCells z.cells (grownCap w n 0 e - n)) e)) := by
  unfold most at hn
  have hw : IntKind.i64.wrap (n : Int) = n := by rw [IntKind.wrap_i64]; omega
  have h1 : ¬ ((n : Int) < 0) := by omega
  have h2 : ¬ (281474976710656 < (n : Int) * i.bytes) := by
    have : (n : Int) * i.bytes ≤ 1000000 * 4096 := Int.mul_le_mul (by omega) (by omega) (by omega) (by omega)
    omega
  have h3 : ¬ (9223372036854775807 < (n : Int)) := by omega
  have h4 : ¬ (281474976710656 < Builtin.nextslicecap n 0 * i.bytes) := by
    rw [nextslicecap_zero h0]
    have : n * i.bytes ≤ 1000000 * 4096 := Nat.mul_le_mul hn (by omega)
    omega
  have h5 : ¬ (n = 0) := by omega
  have h6 : ¬ (i.size = 0) := by omega
  have h7 : ¬ (n * i.size = 0) := by have := Nat.mul_pos h0 hs; omega
  have hfc : ∀ w' : World, (Builtin.firstCells i.size 0 (.slice A 0 0)).run P w' = .ok #[] w' := fun w' => firstCells_zero
  simp [Builtin.append_, run_underlying ht, run_underlying hu, sizeOf, typeInfo, zeroValue, hi, hz, asInt, asIntOf, hw, h1, h2, h3, h4, h5, h6, h7, Question.forced, hfc, newRow, grownCap]
theorem run_append_make0 (w : World) {t u ty e : TypeId} {k k' : IntKind} {i : TypeInfo} (ht : P.underlying t = some (.slice e)) (hu : P.underlying u = some (.int k)) (hi : P.info? e = some i) (A : Option Addr) :
    (Builtin.append_ #[t, u] ty #[.slice A 0 0, .int k' 0]).run P w = .ok (.slice A 0 0) w := by
  have hw : IntKind.i64.wrap 0 = 0 := by decide
  cases A <;> simp [Builtin.append_, run_underlying ht, run_underlying hu, sizeOf, typeInfo, hi, asInt, asIntOf, hw, storeCells]
theorem appZ_ok {H : Heap} {fr : Nat} {t u e : TypeId} {k : IntKind} {J : TypeInfo} {z : List PV} {s x : PV} {K : Kon} (ht : P.underlying t = some (.slice e)) (hu : P.underlying u = some (.int k)) (hi : P.info? e = some J) (hz : mkZ J = some z) (hlz : len z = J.size) (hs0 : 0 < J.size) (hb : J.bytes < 4097)
    (h : appZ cond H fr J.size z s x K) : ∃ v H' fr', K v H' fr' ∧ Grow H H' fr fr' ∧ ∀ σ w sv xv ty, Sim σ w H → NoneIn σ fr fr' → VR σ s sv → VR σ x xv →
      ∃ v' σ' w', (Builtin.append_ #[t, u] ty #[sv, xv]).run P w = .ok v' w' ∧ Out σ w H fr v H' fr' σ' w' v' := by
  obtain ⟨zv, hzv, hz1, hzr⟩ := mkZ_ok hz
  have hzs : zv.cells.size = J.size := by
    have := (hzr fun _ => none).length
    rw [← hlz, ← this]
    rfl
  have key : ∀ (n : Int) (cs : List Col), colsOf z = some cs → 0 ≤ n ∧ n ≤ (most : Int) → K (.own fr J.size n.toNat) (hput H fr (true, .cols n.toNat cs)) (fr + 1) →
      ∃ v H' fr', K v H' fr' ∧ Grow H H' fr fr' ∧ ∀ σ w (A : Option Addr) (k' : IntKind) ty, Sim σ w H → NoneIn σ fr fr' →
        ∃ v' σ' w', (Builtin.append_ #[t, u] ty #[.slice A 0 0, .int k' n]).run P w = .ok v' w' ∧ Out σ w H fr v H' fr' σ' w' v' := by
    intro n cs hcs hn hk
    refine ⟨_, _, _, hk, Grow.put _ _ _ _ _ _ (by omega) (by omega) (.inl rfl) (.inl (by omega)), fun σ w A k' ty hs hno => ?_⟩
    obtain ⟨n, rfl⟩ := Int.eq_ofNat_of_zero_le hn.1
    have hnm : n ≤ most := by omega
    rw [Int.toNat_natCast] at *
    rcases Nat.eq_zero_or_pos n with rfl | h0
    · exact ⟨_, σ, w, run_append_make0 w ht hu hi A, app_none (o := none) A hs hno⟩
    · have hr := run_append_make (k' := k') (ty := ty) w ht hu hi hzv A n h0 hnm hs0 hb
      have hcap := grownCap_le w n 0 e
      have hzl : (Builtin.zeroCells zv.cells n).toList = (List.replicate n zv.cells.toList).flatten := made_eq zv.cells n (by omega)
      obtain ⟨σ', ho'⟩ := app_new (fr := fr) (st := J.size) (o := none) (n := 0) (m := n) (b := .cols n cs) (vals := (Builtin.zeroCells zv.cells n).toList) (z := Builtin.zeroCells zv.cells (grownCap w n 0 e - n)) (t := e) (cap := grownCap w n 0 e) hs hno
        (by rw [Array.length_toList, zeroCells_size, hzs, Nat.zero_add]) (by rw [zeroCells_size, hzs, Nat.zero_add]) (by omega) (fun σ' w' rb' m1 m2 m3 => by
          obtain ⟨q1, q2⟩ := colsOf_ok (σ := σ') hcs
          refine cols_of m2 ⟨by rw [Array.length_toList, zeroCells_size, hzs, q1, hlz], fun j i hj hil => ?_⟩ m3
          obtain ⟨u, h1, h2⟩ := get_rep (hzr σ') hz1 (n := n) (j := j) (i := i) hj (by omega)
          obtain ⟨v, hv⟩ := nth_some (cs := z) (i := i) (by omega)
          obtain ⟨d, hd, hd2⟩ := q2 i v hv
          refine ⟨u, by rw [hzl, q1]; exact h1, ?_⟩
          simp only [nthd, hv] at h2
          simp only [colsAt, hd]
          exact hd2 j u h2)
      rw [Nat.zero_add] at ho'
      exact ⟨_, σ', _, hr, by simpa [kill] using ho'⟩
  unfold appZ at h
  split at h
  · split at h
    · rename_i cs hcs
      obtain ⟨hn, hk⟩ := cond_t h
      obtain ⟨v, H', fr', k1, k2, k3⟩ := key _ cs hcs (by simpa using hn) hk
      refine ⟨v, H', fr', k1, k2, fun σ w sv xv ty hs hno hsv hxv => ?_⟩
      cases hsv
      cases hxv
      exact k3 σ w _ _ ty hs hno
    · exact h.elim
  · split at h
    · rename_i cs hcs
      obtain ⟨hn, hk⟩ := cond_t h
      obtain ⟨v, H', fr', k1, k2, k3⟩ := key _ cs hcs (by simpa using hn) hk
      refine ⟨v, H', fr', k1, k2, fun σ w sv xv ty hs hno hsv hxv => ?_⟩
      cases hsv
      cases hxv
      exact k3 σ w _ _ ty hs hno
    · exact h.elim
  · exact h.elim
end
end Go.Ev
