/-
  Each operation of the reckoner says what the model's operation does.
-/
import Derived.Test.YtjgllldbpmmodaaEvO8
namespace Go.Ev
open Go.RowKit
set_option linter.unusedSimpArgs false

def Names (H : Heap) (fr : Nat) : Prop := ∀ n e, hget H n = some e → n < fr
theorem lget_mem : ∀ {l : Lvl} {n : Nat} {e : Bool × Blk}, lget l n = some e → (n, e) ∈ l
  | [], n, e, h => by simp [lget] at h
  | (k, x) :: l, n, e, h => by
    simp only [lget] at h
    split at h
    · rename_i hb
      cases h
      have := Nat.eq_of_beq_eq_true hb
      subst this
      exact List.mem_cons_self
    · exact List.mem_cons_of_mem _ (lget_mem h)
theorem Names.grow {H H' : Heap} {fr fr' : Nat} (h : Names H fr) (g : Grow H H' fr fr') (hne : H ≠ []) : Names H' fr' := by
  obtain ⟨g1, ⟨l, g2, g3⟩, -⟩ := g
  cases H with
  | nil => exact absurd rfl hne
  | cons h0 t =>
    rw [g2 h0 t rfl]
    intro n e hn
    rw [hget_merge] at hn
    split at hn
    · rename_i x hx
      exact (g3 _ (lget_mem hx)).1
    · exact Nat.lt_of_lt_of_le (h n e hn) g1

section
variable {P : Program}
theorem app_ok {H : Heap} {fr : Nat} {t e : TypeId} {J : TypeInfo} {z : List PV} {s x : PV} {K : Kon} (hN : Names H fr) (ht : P.underlying t = some (.slice e)) (hi : P.info? e = some J) (hz : mkZ J = some z) (hlz : len z = J.size) (hb : J.bytes < 4097)
    (h : app cond H fr J.size s x K) : ∃ v H' fr', K v H' fr' ∧ Grow H H' fr fr' ∧ ∀ σ w sv xv ty, Sim σ w H → NoneIn σ fr fr' → VR σ s sv → VR σ x xv →
      ∃ v' σ' w', (Builtin.append_ #[t, t] ty #[sv, xv]).run P w = .ok v' w' ∧ Out σ w H fr v H' fr' σ' w' v' := by
  obtain ⟨zv, hzv, -, hzr⟩ := mkZ_ok hz
  have hzs : zv.cells.size = J.size := by
    have := (hzr fun _ => none).length
    rw [← hlz, ← this]
    rfl
  unfold app at h
  split at h
  · exact h.elim
  rename_i o n ho
  obtain ⟨o1, o2, o3⟩ := oldOf_ok ho
  have nothing : ∀ σ w sv (B : Option Addr) c' ty, VR σ s sv → (Builtin.append_ #[t, t] ty #[sv, .slice B 0 c']).run P w = .ok sv w := fun σ w sv B c' ty hs => by
    rcases o3 σ sv hs with ⟨rfl, A, rfl⟩ | ⟨nm, rb, c, h1, h2, h3, h4, h5, rfl⟩
    · exact run_append_nothing w t ty e J ht hi A 0 0 (Nat.le_refl _) B c'
    · exact run_append_nothing w t ty e J ht hi _ n c h4 B c'
  split at h
  · exact ⟨_, _, _, h, Grow.refl _ _, fun σ w sv xv ty hs _ hsv hxv => by cases hxv; exact ⟨_, σ, w, nothing σ w sv _ _ ty hsv, Out.same hs hsv⟩⟩
  · exact ⟨_, _, _, h, Grow.refl _ _, fun σ w sv xv ty hs _ hsv hxv => by cases hxv; exact ⟨_, σ, w, nothing σ w sv _ _ ty hsv, Out.same hs hsv⟩⟩
  · exact ⟨_, _, _, h, Grow.refl _ _, fun σ w sv xv ty hs _ hsv hxv => by cases hxv; exact ⟨_, σ, w, nothing σ w sv _ _ ty hsv, Out.same hs hsv⟩⟩
  · split at h
    · exact h.elim
    rename_i a m hsp
    obtain ⟨hm, h⟩ := cond_t h
    have hm : n + m ≤ most := by simpa using hm
    obtain ⟨b, hbd, hk, hst, s1, -, s2⟩ := appA_ok o1 h
    refine ⟨_, _, _, hk, ?_, fun σ w sv xv ty hs hn hsv hxv => ?_⟩
    · refine Grow.trans (Grow.kill H o fr fun q hq => ?_) (Grow.put _ _ _ _ _ _ (by omega) (by omega) (.inl rfl) (.inl (by omega)))
      obtain ⟨x, hx⟩ := o2 q hq
      exact ⟨hN _ _ hx, _, hx⟩
    · obtain ⟨B, c', rfl, hmc, hB⟩ := span_ok hsp hxv
      obtain ⟨olds, news, l1, l2, l3, l4, l5, l6⟩ := s2 σ w hs (fun h0 => let ⟨rb, h1, _⟩ := hB h0; ⟨rb, h1⟩) (fun h0 => by
        rcases o3 σ sv hsv with ⟨h1, _⟩ | ⟨nm, rb, c, h1, h2, h3, _⟩
        · omega
        · exact ⟨nm, rb, h1, h2, h3⟩)
      have hnews : 0 < m → ∃ rb, σ a.nm = some rb ∧ B = some (a.at rb) ∧ ∀ j v, news[j]? = some v → w.cell? ((a.at rb).add j) = some v := fun h0 => by
        obtain ⟨rb, h1, h2⟩ := hB h0
        exact ⟨rb, h1, h2, l5 rb h0 h1⟩
      rcases o3 σ sv hsv with ⟨rfl, A, rfl⟩ | ⟨nm, rb, c, rfl, h2, h3, h4, h5, rfl⟩
      · rcases Nat.eq_zero_or_pos m with rfl | hm0
        · exact ⟨_, σ, w, run_append_nothing w t ty e J ht hi A 0 0 (Nat.le_refl _) B c', app_none A hs hn⟩
        · obtain ⟨rb, h1, rfl, h2⟩ := hnews hm0
          have e0 : olds = [] := by simpa using l1
          subst e0
          have hfit := fit48 (need := 0 + m) (cap := 0) (by omega) hm hb
          cases A with
          | none =>
            have hr := run_append_nil (P := P) w t ty e J zv ht hi hzv (a.at rb) m c' news l2 h2 hm0 (by unfold most at hm; omega) (by rw [Nat.zero_add, nextslicecap_zero hm0] at hfit; exact hfit)
            have hcap := grownCap_le w m 0 e
            obtain ⟨σ', ho'⟩ := app_new (fr := fr) (st := J.size) (o := o) (n := 0) (m := m) (b := b) (vals := news) (z := Builtin.zeroCells zv.cells (grownCap w m 0 e - m)) (t := e) (cap := grownCap w m 0 e) hs hn (by simpa using l2) (by rw [zeroCells_size, hzs, Nat.zero_add]) (by omega) (fun σ' w' rb' m1 m2 m3 => l6 σ' w' rb' m1 m2 (by simpa using m3))
            rw [Nat.zero_add] at ho' ⊢
            exact ⟨_, σ', _, hr, ho'⟩
          | some A =>
            have hr := run_append_grow (P := P) w t ty e J zv ht hi hzv A 0 0 [] (by simp) (by simp) (a.at rb) m c' news l2 h2 (by omega) (by unfold most at hm; omega) hfit
            have hcap := grownCap_le w (0 + m) 0 e
            obtain ⟨σ', ho'⟩ := app_new (fr := fr) (st := J.size) (o := o) (n := 0) (m := m) (b := b) (vals := news) (z := Builtin.zeroCells zv.cells (grownCap w (0 + m) 0 e - (0 + m))) (t := e) (cap := grownCap w (0 + m) 0 e) hs hn (by simpa using l2) (by rw [zeroCells_size, hzs]) (by omega) (fun σ' w' rb' m1 m2 m3 => l6 σ' w' rb' m1 m2 (by simpa using m3))
            refine ⟨_, σ', _, hr, ?_⟩
            simpa using ho'
      · obtain ⟨eb, heb⟩ := o2 nm rfl
        obtain ⟨e', he', hd'⟩ := s1 nm rfl
        rw [heb] at he'
        cases he'
        have hfz := (hs.ent _ _ heb hd' rb h2).2.2 rfl
        by_cases hroom : n + m ≤ c
        · obtain ⟨r1, r2⟩ := app_room hs hn heb hd' h2 h3 hroom h5 l1 l2 (fun h0 => l4 nm rb rfl h0 h2 h3) l6
          refine ⟨_, _, _, run_append_room w t ty e J ht hi rb.blk rb.base n c B m c' news l2 (fun h0 j v => ?_) hroom r1 hfz.2.1 l3, r2⟩
          obtain ⟨rb', h1, h2', h3'⟩ := hnews h0
          exact ⟨_, h2', h3' j v⟩
        · have hm0 : 0 < m := by omega
          obtain ⟨rb', h1, rfl, h2'⟩ := hnews hm0
          have hfit := fit48 (need := n + m) (cap := c) (by omega) hm hb
          have holds : ∀ j v, olds[j]? = some v → w.cell? ((⟨rb.blk, rb.base, none⟩ : Addr).add j) = some v := fun j v hv => by
            rw [add_at]
            rcases Nat.eq_zero_or_pos n with rfl | hn0
            · simp at l1; subst l1; simp at hv
            · exact l4 nm rb rfl hn0 h2 h3 j v hv
          have hr := run_append_grow (P := P) w t ty e J zv ht hi hzv ⟨rb.blk, rb.base, none⟩ n c olds l1 holds (a.at rb') m c' news l2 h2' (by omega) (by unfold most at hm; omega) hfit
          have hcap := grownCap_le w (n + m) c e
          obtain ⟨σ', ho'⟩ := app_new (fr := fr) (st := J.size) (o := some nm) (n := n) (m := m) (b := b) (vals := olds ++ news) (z := Builtin.zeroCells zv.cells (grownCap w (n + m) c e - (n + m))) (t := e) (cap := grownCap w (n + m) c e) hs hn (by simp [l1, l2, Nat.add_mul]) (by rw [zeroCells_size, hzs]) (by omega) l6
          refine ⟨_, σ', _, hr, ?_⟩
          simpa using ho'
end
end Go.Ev
