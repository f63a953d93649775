/-
  What the reckoner's append says of the model's.
-/
import Derived.Test.YtjgllldbpmmodaaEvO6
namespace Go.Ev
set_option linter.unusedVariables false
set_option linter.unusedSectionVars false
open Go.RowKit
set_option linter.unusedSimpArgs false

theorem cut_vals {σ : Sg} {w : World} {rb : RB} {cs vs : List PV} {p n : Nat} (h : cut cs p n = some vs) (hb : BlkR σ w rb (.cells cs)) :
    ∃ us : List Value, VRs σ vs us ∧ us.length = n ∧ (∀ u ∈ us, u.oneCell' = true) ∧ ∀ j u, us[j]? = some u → w.cell? ⟨rb.blk, rb.base + (p + j), none⟩ = some u := by
  obtain ⟨h1, h2⟩ := cut_spec h
  let us : List Value := (List.range n).map fun j => (w.cell? ⟨rb.blk, rb.base + (p + j), none⟩).getD undef
  have hus : ∀ j, j < n → ∃ v u, nth vs j = some v ∧ us[j]? = some u ∧ VR1 σ v u ∧ w.cell? ⟨rb.blk, rb.base + (p + j), none⟩ = some u := fun j hj => by
    obtain ⟨v, h3, h4⟩ := h2 j hj
    obtain ⟨u, hu, hvu⟩ := hb _ _ h3
    exact ⟨v, u, h4, by simp [us, hj, hu], hvu, hu⟩
  refine ⟨us, vrs_of _ _ (by simp [us, h1]) fun j v hv => ?_, by simp [us], fun u hu => ?_, fun j u hu => ?_⟩
  · obtain ⟨v', u, e1, e2, e3, e4⟩ := hus j (by have := nth_lt hv; omega)
    rw [hv] at e1
    cases e1
    exact ⟨u, e2, e3.1⟩
  · obtain ⟨j, hj⟩ := List.mem_iff_getElem?.1 hu
    have hjn : j < n := by have := (List.getElem?_eq_some_iff.1 hj).1; simpa [us] using this
    obtain ⟨v', u', e1, e2, e3, e4⟩ := hus j hjn
    rw [hj] at e2
    cases e2
    exact e3.2
  · have hj : j < n := by have := (List.getElem?_eq_some_iff.1 hu).1; simpa [us] using this
    obtain ⟨v', u', e1, e2, e3, e4⟩ := hus j hj
    rw [hu] at e2
    cases e2
    exact e4
/-- Elements as a function: what they are in a list of values. -/
def RowV (σ : Sg) (st n : Nat) (F : Nat → Nat → PV) (us : List Value) : Prop := us.length = n * st ∧ ∀ j i, j < n → i < st → ∃ u, us[j * st + i]? = some u ∧ VR1 σ (F j i) u
theorem row_vals {σ : Sg} {w : World} {b p st n : Nat} {F : Nat → Nat → PV} (h : ∀ j i, j < n → i < st → ∃ u, w.cell? ⟨b, p + (j * st + i), none⟩ = some u ∧ VR1 σ (F j i) u) :
    ∃ us : List Value, RowV σ st n F us ∧ ∀ j u, us[j]? = some u → w.cell? ⟨b, p + j, none⟩ = some u := by
  let us : List Value := (List.range (n * st)).map fun j => (w.cell? ⟨b, p + j, none⟩).getD undef
  have hlt : ∀ j i, j < n → i < st → j * st + i < n * st := fun j i hj hi => by
    have : (j + 1) * st ≤ n * st := Nat.mul_le_mul_right st hj
    rw [Nat.add_mul, Nat.one_mul] at this
    omega
  refine ⟨us, ⟨by simp [us], fun j i hj hi => ?_⟩, fun j u hu => ?_⟩
  · obtain ⟨u, h1, h2⟩ := h j i hj hi
    exact ⟨u, by simp [us, hlt j i hj hi, h1], h2⟩
  · have hj : j < n * st := by have := (List.getElem?_eq_some_iff.1 hu).1; simpa [us] using this
    have hst : 0 < st := by
      rcases Nat.eq_zero_or_pos st with e | e
      · subst e; simp at hj
      · exact e
    obtain ⟨v, h1, h2⟩ := h (j / st) (j % st) ((Nat.div_lt_iff_lt_mul hst).2 hj) (Nat.mod_lt _ hst)
    rw [Nat.div_add_mod'] at h1
    have : us[j]? = some v := by simp [us, hj, h1]
    rw [hu] at this
    cases this
    exact h1

theorem readB_ok {b : Blk} {a : PA} {n st : Nat} {K : (Nat → Nat → PV) → Prop} (hst : a.st = st) (h : readB cond b a n st K) : b ≠ .dead ∧ ∃ G, K G ∧ ∀ σ w rb, BlkR σ w rb b → ∀ j i, j < n → i < st → ∃ u, w.cell? ⟨rb.blk, rb.base + pos a + (j * st + i), none⟩ = some u ∧ VR1 σ (G j i) u := by
  cases b with
  | dead => exact h.elim
  | rows st' n' F =>
    simp only [readB] at h
    cases h1 : Nat.beq st' st <;> cases h2 : Nat.beq a.off 0 <;> rw [h1, h2] at h <;> try exact h.elim
    obtain ⟨h3, hk⟩ := cond_t h
    have h3 : a.ix + n ≤ n' := by simpa using h3
    have e1 := Nat.eq_of_beq_eq_true h1
    have e2 := Nat.eq_of_beq_eq_true h2
    subst e1
    refine ⟨by simp, _, hk, fun σ w rb hb j i hj hi => ?_⟩
    obtain ⟨u, hu, hv⟩ := hb (j + a.ix) i (by omega) hi
    refine ⟨u, ?_, hv⟩
    rw [← hu, pos_eq, pos_eq, e2, hst]
    congr 2
    simp only [Nat.add_mul]
    omega
  | ints k n' f =>
    simp only [readB] at h
    cases h1 : Nat.beq st 1 <;> cases h2 : Nat.beq a.off 0 <;> rw [h1, h2] at h <;> try exact h.elim
    obtain ⟨h3, hk⟩ := cond_t h
    have h3 : a.ix + n ≤ n' := by simpa using h3
    have e1 := Nat.eq_of_beq_eq_true h1
    have e2 := Nat.eq_of_beq_eq_true h2
    subst e1
    refine ⟨by simp, _, hk, fun σ w rb hb j i hj hi => ⟨_, ?_, .int _ _, rfl⟩⟩
    have := hb (j + a.ix) (by omega)
    rw [← this, pos_eq, e2, hst]
    congr 2
    omega
  | cols n' cs =>
    simp only [readB] at h
    cases h1 : Nat.beq (lenc cs) st <;> cases h2 : Nat.beq a.off 0 <;> rw [h1, h2] at h <;> try exact h.elim
    obtain ⟨h3, hk⟩ := cond_t h
    have h3 : a.ix + n ≤ n' := by simpa using h3
    have e1 := Nat.eq_of_beq_eq_true h1
    have e2 := Nat.eq_of_beq_eq_true h2
    subst e1
    refine ⟨by simp, _, hk, fun σ w rb hb j i hj hi => ?_⟩
    obtain ⟨c, hc⟩ := nthc_some hi
    obtain ⟨u, hu, hv⟩ := hb (j + a.ix) i c (by omega) hc
    refine ⟨u, ?_, by simp only [colsAt, hc]; exact hv⟩
    rw [← hu, pos_eq, e2, hst]
    congr 2
    simp only [Nat.add_mul]
    omega
  | cells cs =>
    simp only [readB] at h
    obtain ⟨h3, hk⟩ := cond_t h
    have h3 : (a.ix + n) * a.st + a.off ≤ len cs := by simpa using h3
    refine ⟨by simp, _, hk, fun σ w rb hb j i hj hi => ?_⟩
    have hlt : (a.ix + j) * a.st + (a.off + i) < len cs := by
      have : (a.ix + j + 1) * a.st ≤ (a.ix + n) * a.st := Nat.mul_le_mul_right _ (by omega)
      rw [Nat.add_mul (a.ix + j) 1, Nat.one_mul] at this
      omega
    obtain ⟨v, hv⟩ := nth_some hlt
    obtain ⟨u, hu, hvu⟩ := hb _ _ hv
    refine ⟨u, ?_, by simp only [nthd, hv]; exact hvu⟩
    rw [← hu, pos_eq, ← hst]
    congr 2
    simp only [Nat.add_mul]
    omega
theorem readable_ok {H : Heap} {a : PA} {n st : Nat} {K : (Nat → Nat → PV) → Prop} (h : readable cond H a n st K) : a.st = st ∧ (∃ e, hget H a.nm = some e ∧ e.2 ≠ .dead) ∧ ∃ G, K G ∧ ∀ σ w rb, Sim σ w H → σ a.nm = some rb → ∀ j i, j < n → i < st → ∃ u, w.cell? ⟨rb.blk, rb.base + pos a + (j * st + i), none⟩ = some u ∧ VR1 σ (G j i) u := by
  unfold readable at h
  split at h
  · rename_i e wr b hst hh
    have hst := Nat.eq_of_beq_eq_true hst
    obtain ⟨hd, G, hk, hg⟩ := readB_ok hst h
    exact ⟨hst, ⟨_, hh, hd⟩, G, hk, fun σ w rb hs hr => hg σ w rb (hs.ent _ _ hh hd rb hr).2.1⟩
  · exact h.elim
theorem listOf_ok {H : Heap} {a : PA} {n : Nat} {vs : List PV} (h : listOf H a n = some vs) : (∃ e, hget H a.nm = some e ∧ e.2 ≠ .dead) ∧ ∀ σ w rb, Sim σ w H → σ a.nm = some rb → ∃ us : List Value, VRs σ vs us ∧ us.length = n * a.st ∧ (∀ u ∈ us, u.oneCell' = true) ∧ ∀ j u, us[j]? = some u → w.cell? ⟨rb.blk, rb.base + (pos a + j), none⟩ = some u := by
  unfold listOf at h
  split at h
  · rename_i wr cs hh
    refine ⟨⟨_, hh, by simp⟩, fun σ w rb hs hr => ?_⟩
    obtain ⟨us, h1, h2, h3, h4⟩ := cut_vals h (hs.ent _ _ hh (by simp) rb hr).2.1
    exact ⟨us, h1, by rw [h2, mulc_eq], h3, h4⟩
  · cases h

/-- What append's source and old part are: values in memory, and the block that holds both. -/
def SrcOk (H : Heap) (st : Nat) (o : Option Nat) (n : Nat) (a : PA) (m : Nat) (b : Blk) : Prop :=
  (∀ nm, o = some nm → ∃ e, hget H nm = some e ∧ e.2 ≠ .dead) ∧ (o = none → n = 0 → True) ∧ ∀ σ w, Sim σ w H → (0 < m → ∃ rb, σ a.nm = some rb) → (0 < n → ∃ nm rb, o = some nm ∧ σ nm = some rb ∧ rb.base = rb.base) →
    ∃ olds news : List Value, olds.length = n * st ∧ news.length = m * st ∧ (∀ u ∈ news, u.oneCell' = true) ∧
      (∀ nm rb, o = some nm → 0 < n → σ nm = some rb → rb.base = rb.base → ∀ j u, olds[j]? = some u → w.cell? ⟨rb.blk, rb.base + j, none⟩ = some u) ∧
      (∀ rb, 0 < m → σ a.nm = some rb → ∀ j u, news[j]? = some u → w.cell? ((a.at rb).add j) = some u) ∧
      ∀ σ' w' rb', Mono σ σ' → rb'.base = rb'.base → (∀ p u, (olds ++ news)[p]? = some u → w'.cell? ⟨rb'.blk, rb'.base + p, none⟩ = some u) → BlkR σ' w' rb' b
theorem cells_of {σ : Sg} {w : World} {rb : RB} {cs : List PV} {us : List Value} (h : VRs σ cs us) (h1c : ∀ u ∈ us, u.oneCell' = true) (h0 : rb.base = rb.base) (hc : ∀ p u, us[p]? = some u → w.cell? ⟨rb.blk, rb.base + p, none⟩ = some u) : BlkR σ w rb (.cells cs) := by
  intro i v hi
  obtain ⟨u, h1, h2⟩ := h.get hi
  exact ⟨u, hc _ _ h1, h2, h1c u (List.mem_of_getElem? h1)⟩
theorem rows_of {σ : Sg} {w : World} {rb : RB} {st n : Nat} {F : Nat → Nat → PV} {us : List Value} (h : RowV σ st n F us) (h0 : rb.base = rb.base) (hc : ∀ p u, us[p]? = some u → w.cell? ⟨rb.blk, rb.base + p, none⟩ = some u) : BlkR σ w rb (.rows st n F) := by
  intro j i hj hi
  obtain ⟨u, h1, h2⟩ := h.2 j i hj hi
  refine ⟨u, ?_, h2⟩
  rw [pos_eq]
  simp only
  rw [Nat.add_comm i]
  exact hc _ _ h1
theorem RowV.one {σ : Sg} {st n : Nat} {F : Nat → Nat → PV} {us : List Value} (h : RowV σ st n F us) : ∀ u ∈ us, u.oneCell' = true := by
  intro u hu
  obtain ⟨j, hj⟩ := List.mem_iff_getElem?.1 hu
  have hlt : j < n * st := by have := (List.getElem?_eq_some_iff.1 hj).1; rw [h.1] at this; exact this
  have hst : 0 < st := by
    rcases Nat.eq_zero_or_pos st with e | e
    · subst e; simp at hlt
    · exact e
  obtain ⟨v, h1, h2⟩ := h.2 (j / st) (j % st) ((Nat.div_lt_iff_lt_mul hst).2 hlt) (Nat.mod_lt _ hst)
  rw [Nat.div_add_mod', hj] at h1
  cases h1
  exact h2.2
theorem RowV.mono {σ σ' : Sg} {st n : Nat} {F : Nat → Nat → PV} {us : List Value} (h : RowV σ st n F us) (m : Mono σ σ') : RowV σ' st n F us := ⟨h.1, fun j i hj hi => let ⟨u, h1, h2⟩ := h.2 j i hj hi; ⟨u, h1, h2.mono m⟩⟩
theorem RowV.join {σ : Sg} {st n m : Nat} {F G : Nat → Nat → PV} {us vs : List Value} (h : RowV σ st n F us) (k : RowV σ st m G vs) : RowV σ st (n + m) (join n F G) (us ++ vs) := by
  refine ⟨by simp [h.1, k.1, Nat.add_mul], fun j i hj hi => ?_⟩
  by_cases hlt : j < n
  · obtain ⟨u, h1, h2⟩ := h.2 j i hlt hi
    have hl : j * st + i < us.length := (List.getElem?_eq_some_iff.1 h1).1
    refine ⟨u, by rw [List.getElem?_append_left hl]; exact h1, ?_⟩
    have : Nat.blt j n = true := by rw [Nat.blt_eq]; exact hlt
    simp only [Ev.join, this, cond_true]
    exact h2
  · obtain ⟨u, h1, h2⟩ := k.2 (j - n) i (by omega) hi
    have e : j * st = n * st + (j - n) * st := by rw [← Nat.add_mul]; congr 1; omega
    refine ⟨u, ?_, ?_⟩
    · rw [List.getElem?_append_right (by rw [h.1, e]; omega), h.1, e, show n * st + (j - n) * st + i - n * st = (j - n) * st + i by omega]
      exact h1
    · have : Nat.blt j n = false := by cases hb : Nat.blt j n; rfl; exact absurd (by rw [Nat.blt_eq] at hb; exact hb) hlt
      simp only [Ev.join, this, cond_false]
      exact h2
theorem appF_ok {H : Heap} {fr st : Nat} {o : Option Nat} {n : Nat} {a : PA} {m : Nat} {K : Kon} (ho : o = none → n = 0) (h : appF cond H fr st o n a m K) :
    ∃ b, b ≠ .dead ∧ K (.own fr st (n + m)) (hput (kill H o) fr (true, b)) (fr + 1) ∧ a.st = st ∧ SrcOk H st o n a m b := by
  unfold appF at h
  obtain ⟨hst, he, G, h, hG⟩ := readable_ok h
  have hnews : ∀ σ w, Sim σ w H → (0 < m → ∃ rb, σ a.nm = some rb) → ∃ us : List Value, RowV σ st m G us ∧ ∀ rb, 0 < m → σ a.nm = some rb → ∀ j u, us[j]? = some u → w.cell? ((a.at rb).add j) = some u := fun σ w hs hm => by
    rcases Nat.eq_zero_or_pos m with rfl | hm0
    · exact ⟨[], ⟨by simp, fun j i hj => absurd hj (by omega)⟩, fun _ h0 => absurd h0 (by omega)⟩
    · obtain ⟨rb, hrb⟩ := hm hm0
      obtain ⟨us, h1, h2⟩ := row_vals (hG σ w rb hs hrb)
      refine ⟨us, h1, fun rb' _ hrb' j u hu => ?_⟩
      rw [hrb] at hrb'
      cases hrb'
      rw [at_add, ← Nat.add_assoc]
      exact h2 j u hu
  cases o with
  | none =>
    have e := ho rfl
    subst e
    simp only at h
    refine ⟨_, by simp, h, hst, by simp, fun _ _ => trivial, fun σ w hs hm _ => ?_⟩
    obtain ⟨news, n1, n2⟩ := hnews σ w hs hm
    refine ⟨[], news, by simp, n1.1, n1.one, by simp, n2, fun σ' w' rb' mo h0 hc => ?_⟩
    rw [Nat.zero_add]
    exact rows_of (n1.mono mo) h0 (by simpa using hc)
  | some nm =>
    simp only at h
    obtain ⟨_, he2, F, h, hF⟩ := readable_ok h
    refine ⟨_, by simp, h, hst, fun nm' e => by cases e; exact he2, fun _ _ => trivial, fun σ w hs hm hn => ?_⟩
    obtain ⟨news, n1, n2⟩ := hnews σ w hs hm
    have hold : ∃ olds : List Value, RowV σ st n F olds ∧ ∀ rb, 0 < n → σ nm = some rb → rb.base = rb.base → ∀ j u, olds[j]? = some u → w.cell? ⟨rb.blk, rb.base + j, none⟩ = some u := by
      rcases Nat.eq_zero_or_pos n with rfl | hn0
      · exact ⟨[], ⟨by simp, fun j i hj => absurd hj (by omega)⟩, fun _ h0 => absurd h0 (by omega)⟩
      · obtain ⟨nm', rb, e1, hrb, hb0⟩ := hn hn0
        cases e1
        obtain ⟨us, h1, h2⟩ := row_vals (hF σ w rb hs hrb)
        refine ⟨us, h1, fun rb' _ hrb' _ j u hu => ?_⟩
        rw [hrb] at hrb'
        cases hrb'
        have := h2 j u hu
        simpa [pos_eq] using this
    obtain ⟨olds, o1, o2⟩ := hold
    refine ⟨olds, news, o1.1, n1.1, n1.one, fun nm' rb e h0 hr hb => ?_, n2, fun σ' w' rb' mo h0 hc => rows_of ((o1.join n1).mono mo) h0 hc⟩
    cases e
    exact o2 rb h0 hr hb
theorem SrcOk.rows {H : Heap} {st : Nat} {o : Option Nat} {n : Nat} {a : PA} {m : Nat} {F G : Nat → Nat → PV} {b : Blk}
    (hG : ∀ σ w rb, Sim σ w H → σ a.nm = some rb → ∀ j i, j < m → i < st → ∃ u, w.cell? ⟨rb.blk, rb.base + pos a + (j * st + i), none⟩ = some u ∧ VR1 σ (G j i) u)
    (hF : ∀ nm, o = some nm → (∃ e, hget H nm = some e ∧ e.2 ≠ .dead) ∧ ∀ σ w rb, Sim σ w H → σ nm = some rb → rb.base = rb.base → ∀ j i, j < n → i < st → ∃ u, w.cell? ⟨rb.blk, rb.base + (j * st + i), none⟩ = some u ∧ VR1 σ (F j i) u)
    (ho : o = none → n = 0) (hb : ∀ σ w rb us, rb.base = rb.base → RowV σ st (n + m) (join n F G) us → (∀ p u, us[p]? = some u → w.cell? ⟨rb.blk, rb.base + p, none⟩ = some u) → BlkR σ w rb b) : SrcOk H st o n a m b := by
  refine ⟨fun nm e => (hF nm e).1, fun _ _ => trivial, fun σ w hs hm hn => ?_⟩
  have hnews : ∃ us : List Value, RowV σ st m G us ∧ ∀ rb, 0 < m → σ a.nm = some rb → ∀ j u, us[j]? = some u → w.cell? ((a.at rb).add j) = some u := by
    rcases Nat.eq_zero_or_pos m with rfl | hm0
    · exact ⟨[], ⟨by simp, fun j i hj => absurd hj (by omega)⟩, fun _ h0 => absurd h0 (by omega)⟩
    · obtain ⟨rb, hrb⟩ := hm hm0
      obtain ⟨us, h1, h2⟩ := row_vals (hG σ w rb hs hrb)
      refine ⟨us, h1, fun rb' _ hrb' j u hu => ?_⟩
      rw [hrb] at hrb'
      cases hrb'
      rw [at_add, ← Nat.add_assoc]
      exact h2 j u hu
  have hold : ∃ olds : List Value, RowV σ st n F olds ∧ ∀ nm rb, o = some nm → 0 < n → σ nm = some rb → rb.base = rb.base → ∀ j u, olds[j]? = some u → w.cell? ⟨rb.blk, rb.base + j, none⟩ = some u := by
    rcases Nat.eq_zero_or_pos n with rfl | hn0
    · exact ⟨[], ⟨by simp, fun j i hj => absurd hj (by omega)⟩, fun _ _ _ h0 => absurd h0 (by omega)⟩
    · obtain ⟨nm, rb, e1, hrb, hb0⟩ := hn hn0
      obtain ⟨us, h1, h2⟩ := row_vals ((hF nm e1).2 σ w rb hs hrb hb0)
      refine ⟨us, h1, fun nm' rb' e2 _ hrb' _ j u hu => ?_⟩
      rw [e1] at e2
      cases e2
      rw [hrb] at hrb'
      cases hrb'
      have := h2 j u hu
      simpa using this
  obtain ⟨news, n1, n2⟩ := hnews
  obtain ⟨olds, o1, o2⟩ := hold
  exact ⟨olds, news, o1.1, n1.1, n1.one, o2, n2, fun σ' w' rb' mo h0 hc => hb σ' w' rb' _ h0 ((o1.join n1).mono mo) hc⟩
theorem nthc_sh (a : Nat) : ∀ (cs : List Col) (i : Nat), nthc (colsSh a cs) i = (nthc cs i).map (colSh a)
  | [], i => rfl
  | c :: cs, 0 => rfl
  | c :: cs, i + 1 => nthc_sh a cs i
theorem lenc_sh (a : Nat) : ∀ cs : List Col, lenc (colsSh a cs) = lenc cs
  | [] => rfl
  | c :: cs => by simp [colsSh, lenc, lenc_sh a cs]
theorem colAt_sh (a : Nat) (c : Col) (j : Nat) : colAt (colSh a c) j = colAt c (j + a) := by cases c <;> rfl
theorem joinf_at {α : Type} (n : Nat) (f g : Nat → α) (j : Nat) : joinf n f g j = if j < n then f j else g (j - n) := by
  unfold joinf
  by_cases h : j < n
  · have : Nat.blt j n = true := by rw [Nat.blt_eq]; exact h
    simp [this, h]
  · have : Nat.blt j n = false := by cases hb : Nat.blt j n; rfl; exact absurd (by rw [Nat.blt_eq] at hb; exact hb) h
    simp [this, h]
theorem join_at (n : Nat) (F G : Nat → Nat → PV) (j i : Nat) : join n F G j i = if j < n then F j i else G (j - n) i := by
  unfold join
  by_cases h : j < n
  · have : Nat.blt j n = true := by rw [Nat.blt_eq]; exact h
    simp [this, h]
  · have : Nat.blt j n = false := by cases hb : Nat.blt j n; rfl; exact absurd (by rw [Nat.blt_eq] at hb; exact hb) h
    simp [this, h]
theorem colJ_ok {n : Nat} {c d e : Col} (h : colJ n c d = some e) (j : Nat) : colAt e j = if j < n then colAt c j else colAt d (j - n) := by
  unfold colJ at h
  split at h
  · split at h
    · rename_i hk
      cases keq_eq2 hk
      cases h
      simp only [colAt, joinf_at]
      split <;> rfl
    · cases h
  · cases h
    simp only [colAt, joinf_at]
    split <;> rfl
  · cases h
    simp only [colAt, joinf_at]
    split <;> rfl
  · cases h
    simp only [colAt, joinf_at]
  · cases h
theorem colsJ_ok {n : Nat} : ∀ {cs ds es : List Col}, colsJ n cs ds = some es → lenc es = lenc cs ∧ lenc es = lenc ds ∧ ∀ i e, nthc es i = some e → ∃ c d, nthc cs i = some c ∧ nthc ds i = some d ∧ ∀ j, colAt e j = if j < n then colAt c j else colAt d (j - n)
  | [], [], es, h => by simp only [colsJ, Option.some.injEq] at h; subst h; exact ⟨rfl, rfl, fun i e he => by simp [nthc] at he⟩
  | c :: cs, d :: ds, es, h => by
    simp only [colsJ] at h
    split at h
    · rename_i e0 es0 h1 h2
      cases h
      obtain ⟨q1, q2, q3⟩ := colsJ_ok h2
      refine ⟨by simp [lenc, q1], by simp [lenc, q2], fun i e he => ?_⟩
      cases i with
      | zero =>
        simp only [nthc, Option.some.injEq] at he
        subst he
        exact ⟨c, d, rfl, rfl, colJ_ok h1⟩
      | succ i => exact q3 i e he
    · cases h
  | [], _ :: _, es, h => by simp [colsJ] at h
  | _ :: _, [], es, h => by simp [colsJ] at h
theorem colsOf_ok {σ : Sg} : ∀ {vs : List PV} {ds : List Col}, colsOf vs = some ds → lenc ds = len vs ∧ ∀ i v, nth vs i = some v → ∃ d, nthc ds i = some d ∧ ∀ j u, VR1 σ v u → VR1 σ (colAt d j) u
  | [], ds, h => by simp only [colsOf, Option.some.injEq] at h; subst h; exact ⟨rfl, fun i v hv => by simp [nth] at hv⟩
  | v :: vs, ds, h => by
    simp only [colsOf] at h
    split at h
    · rename_i c cs h1 h2
      cases h
      obtain ⟨q1, q2⟩ := colsOf_ok (σ := σ) h2
      refine ⟨by simp [lenc, len, q1], fun i x hx => ?_⟩
      cases i with
      | zero =>
        simp only [nth, Option.some.injEq] at hx
        subst hx
        refine ⟨c, rfl, fun j u hu => ?_⟩
        unfold colOf at h1
        split at h1
        · cases h1; exact hu
        · cases h1; exact hu
        · cases h1
          have := hu.1
          cases this
          exact ⟨.bool _, hu.2⟩
        · cases h1; exact hu
        · split at h1
          · cases h1; exact hu
          · cases h1
      | succ i => exact q2 i x hx
    · cases h
theorem litC_ok {σ : Sg} {cs : List PV} {st : Nat} : ∀ {m p : Nat} {ds : List Col}, litC cs st p m = some ds → lenc ds = st ∧ ∀ j i, j < m → i < st → ∃ v, nth cs (p + (j * st + i)) = some v ∧ ∀ u, VR1 σ v u → VR1 σ (colsAt ds j i) u
  | 0, p, ds, h => by cases h
  | 1, p, ds, h => by
    simp only [litC] at h
    split at h
    · rename_i vs hcut
      obtain ⟨c1, c2⟩ := cut_spec hcut
      obtain ⟨q1, q2⟩ := colsOf_ok (σ := σ) h
      refine ⟨by omega, fun j i hj hi => ?_⟩
      obtain rfl : j = 0 := by omega
      obtain ⟨v, h3, h4⟩ := c2 i hi
      obtain ⟨d, hd, hd2⟩ := q2 i v h4
      exact ⟨v, by rw [Nat.zero_mul, Nat.zero_add]; exact h3, fun u hu => by simp only [colsAt, hd]; exact hd2 _ _ hu⟩
    · cases h
  | m + 2, p, ds, h => by
    simp only [litC] at h
    split at h
    · rename_i vs d0 hcut hl
      split at h
      · rename_i c hc
        obtain ⟨c1, c2⟩ := cut_spec hcut
        obtain ⟨q1, q2⟩ := colsOf_ok (σ := σ) hc
        obtain ⟨r1, r2⟩ := litC_ok (σ := σ) hl
        obtain ⟨j1, j2, j3⟩ := colsJ_ok h
        refine ⟨by omega, fun j i hj hi => ?_⟩
        obtain ⟨e, he⟩ := nthc_some (cs := ds) (i := i) (by omega)
        obtain ⟨c', d', e1, e2, e3⟩ := j3 i e he
        cases j with
        | zero =>
          obtain ⟨v, h3, h4⟩ := c2 i hi
          obtain ⟨d, hd, hd2⟩ := q2 i v h4
          rw [hd] at e1
          cases e1
          refine ⟨v, by rw [Nat.zero_mul, Nat.zero_add]; exact h3, fun u hu => ?_⟩
          simp only [colsAt, he, e3]
          exact hd2 _ _ hu
        | succ j =>
          obtain ⟨v, h3, h4⟩ := r2 j i (by omega) hi
          refine ⟨v, by rw [← h3]; congr 1; rw [Nat.add_mul]; omega, fun u hu => ?_⟩
          have := h4 u hu
          simp only [colsAt, e2] at this
          simp only [colsAt, he, e3]
          rw [if_neg (by omega), Nat.add_sub_cancel]
          exact this
      · cases h
    · cases h
/-- The columns of a source. -/
theorem srcC_ok {H : Heap} {st : Nat} {a : PA} {m : Nat} {ds : List Col} (h : srcC H st a m = some (true, ds)) : a.st = st ∧ lenc ds = st ∧ (∃ e, hget H a.nm = some e ∧ e.2 ≠ .dead) ∧
    ∀ σ w rb, Sim σ w H → σ a.nm = some rb → ∀ j i, j < m → i < st → ∃ u, w.cell? ⟨rb.blk, rb.base + pos a + (j * st + i), none⟩ = some u ∧ VR1 σ (colsAt ds j i) u := by
  unfold srcC at h
  split at h
  · rename_i x m' ds' h1 hh
    have e1 := Nat.eq_of_beq_eq_true h1
    split at h
    · rename_i h2 h3
      simp only [Option.some.injEq, Prod.mk.injEq, decide_eq_true_eq] at h
      obtain ⟨hle, rfl⟩ := h
      have e2 := Nat.eq_of_beq_eq_true h2
      have e3 := Nat.eq_of_beq_eq_true h3
      refine ⟨e1, by rw [lenc_sh]; exact e2, ⟨_, hh, by simp⟩, fun σ w rb hs hr j i hj hi => ?_⟩
      obtain ⟨c, hc⟩ := nthc_some (cs := ds') (i := i) (by omega)
      obtain ⟨u, hu, hv⟩ := (hs.ent _ _ hh (by simp) rb hr).2.1 (j + a.ix) i c (by omega) hc
      refine ⟨u, ?_, ?_⟩
      · rw [← hu, pos_eq, e3, e1, e2]
        congr 2
        simp only [Nat.add_mul]
        omega
      · simp only [colsAt, nthc_sh, hc, Option.map_some, colAt_sh]
        exact hv
    · cases h
  · rename_i x cs h1 hh
    have e1 := Nat.eq_of_beq_eq_true h1
    split at h
    · rename_i ds' hl
      simp only [Option.some.injEq, Prod.mk.injEq, true_and] at h
      subst h
      obtain ⟨q1, _⟩ := litC_ok (σ := fun _ => none) hl
      refine ⟨e1, q1, ⟨_, hh, by simp⟩, fun σ w rb hs hr j i hj hi => ?_⟩
      obtain ⟨v, h3, h4⟩ := (litC_ok (σ := σ) hl).2 j i hj hi
      obtain ⟨u, hu, hv⟩ := (hs.ent _ _ hh (by simp) rb hr).2.1 _ _ h3
      exact ⟨u, by rw [← hu, Nat.add_assoc], h4 _ hv⟩
    · cases h
  · cases h
theorem oldC_ok {H : Heap} {st : Nat} {o : Option Nat} {n : Nat} {oc : Option (List Col)} (hn : o = none → n = 0) (h : oldC H st o n = some (true, oc)) : (oc = none ∧ n = 0 ∧ ∀ nm, o = some nm → ∃ e, hget H nm = some e ∧ e.2 ≠ .dead) ∨ ∃ nm cs, o = some nm ∧ oc = some cs ∧ lenc cs = st ∧ (∃ e, hget H nm = some e ∧ e.2 ≠ .dead) ∧
    ∀ σ w rb, Sim σ w H → σ nm = some rb → rb.base = rb.base → ∀ j i, j < n → i < st → ∃ u, w.cell? ⟨rb.blk, rb.base + (j * st + i), none⟩ = some u ∧ VR1 σ (colsAt cs j i) u := by
  unfold oldC at h
  split at h
  · simp only [Option.some.injEq, Prod.mk.injEq, true_and] at h
    exact .inl ⟨h.symm, hn rfl, fun nm e => by cases e⟩
  · rename_i nm
    split at h
    · rename_i x n' cs hh
      split at h
      · rename_i h1
        simp only [Option.some.injEq, Prod.mk.injEq, decide_eq_true_eq] at h
        obtain ⟨hle, rfl⟩ := h
        have e1 := Nat.eq_of_beq_eq_true h1
        refine .inr ⟨nm, cs, rfl, rfl, e1, ⟨_, hh, by simp⟩, fun σ w rb hs hr h0 j i hj hi => ?_⟩
        obtain ⟨c, hc⟩ := nthc_some (cs := cs) (i := i) (by omega)
        obtain ⟨u, hu, hv⟩ := (hs.ent _ _ hh (by simp) rb hr).2.1 j i c (by omega) hc
        refine ⟨u, ?_, by simp only [colsAt, hc]; exact hv⟩
        rw [← hu, e1]
      · cases h
    · rename_i x cs hh
      split at h
      · simp only [Option.some.injEq, Prod.mk.injEq, true_and] at h
        exact .inl ⟨h.symm, rfl, fun nm' e => by cases e; exact ⟨_, hh, by simp⟩⟩
      · split at h
        · rename_i vs hcut
          split at h
          · rename_i ds' hds
            simp only [Option.some.injEq, Prod.mk.injEq, true_and] at h
            subst h
            obtain ⟨c1, c2⟩ := cut_spec hcut
            obtain ⟨q1, _⟩ := colsOf_ok (σ := fun _ => none) hds
            refine .inr ⟨nm, ds', rfl, rfl, by omega, ⟨_, hh, by simp⟩, fun σ w rb hs hr h0 j i hj hi => ?_⟩
            obtain ⟨v, h3, h4⟩ := c2 i hi
            obtain ⟨u, hu, hv⟩ := (hs.ent _ _ hh (by simp) rb hr).2.1 _ _ h3
            obtain ⟨d, hd, hd2⟩ := (colsOf_ok (σ := σ) hds).2 i v h4
            have : j = 0 := by omega
            subst this
            refine ⟨u, ?_, by simp only [colsAt, hd]; exact hd2 _ _ hv⟩
            rw [← hu]
            congr 2
            omega
          · cases h
        · cases h
      · cases h
    · cases h
theorem cols_of {σ : Sg} {w : World} {rb : RB} {n : Nat} {es : List Col} {us : List Value} (h0 : rb.base = rb.base) (h : RowV σ (lenc es) n (colsAt es) us) (hc : ∀ p u, us[p]? = some u → w.cell? ⟨rb.blk, rb.base + p, none⟩ = some u) : BlkR σ w rb (.cols n es) := by
  intro j i c hj hi
  obtain ⟨u, h1, h2⟩ := h.2 j i hj (nthc_lt hi)
  refine ⟨u, hc _ _ h1, ?_⟩
  simpa only [colsAt, hi] using h2
theorem RowV.congr {σ : Sg} {st n : Nat} {F G : Nat → Nat → PV} {us : List Value} (h : RowV σ st n F us) (e : ∀ j i, j < n → i < st → F j i = G j i) : RowV σ st n G us := ⟨h.1, fun j i hj hi => let ⟨u, h1, h2⟩ := h.2 j i hj hi; ⟨u, h1, by rw [← e j i hj hi]; exact h2⟩⟩
theorem appC_ok {H : Heap} {fr st : Nat} {o : Option Nat} {n : Nat} {a : PA} {m : Nat} {K : Kon} (ho : o = none → n = 0) (h : appC cond H fr st o n a m K) :
    ∃ b, b ≠ .dead ∧ K (.own fr st (n + m)) (hput (kill H o) fr (true, b)) (fr + 1) ∧ a.st = st ∧ SrcOk H st o n a m b := by
  unfold appC at h
  split at h
  · rename_i b oc c ds h1 h2
    split at h
    · rename_i es hj
      obtain ⟨hb, h⟩ := cond_t h
      obtain ⟨hc, hk⟩ := cond_t h
      subst hb hc
      obtain ⟨s1, s2, s3, s4⟩ := srcC_ok h2
      refine ⟨_, by simp, hk, s1, ?_⟩
      rcases oldC_ok ho h1 with ⟨rfl, rfl, hoe⟩ | ⟨nm, cs, rfl, rfl, c1, c2, c3⟩
      · simp only [joinO, Option.some.injEq] at hj
        subst hj
        refine SrcOk.rows (F := fun _ _ => .unk) (G := colsAt ds) s4 (fun nm e => ⟨hoe nm e, fun σ w rb _ _ _ j i hj => absurd hj (by omega)⟩) ho fun σ w rb us h0 hr hc => cols_of h0 ?_ hc
        rw [s2]
        exact hr.congr fun j i _ _ => by rw [join_at]; simp
      · simp only [joinO] at hj
        obtain ⟨j1, j2, j3⟩ := colsJ_ok hj
        refine SrcOk.rows (F := colsAt cs) (G := colsAt ds) s4 (fun nm' e => by cases e; exact ⟨c2, c3⟩) ho fun σ w rb us h0 hr hc => cols_of h0 ?_ hc
        rw [j1, c1]
        refine hr.congr fun j i _ hi => ?_
        obtain ⟨e, he⟩ := nthc_some (cs := es) (i := i) (by omega)
        obtain ⟨c, d, k1, k2, k3⟩ := j3 i e he
        rw [join_at]
        simp only [colsAt, he, k1, k2, k3 j]
    · exact appF_ok ho h
  · exact appF_ok ho h
theorem appA_ok {H : Heap} {fr st : Nat} {o : Option Nat} {n : Nat} {a : PA} {m : Nat} {K : Kon} (ho : o = none → n = 0) (h : appA cond H fr st o n a m K) :
    ∃ b, b ≠ .dead ∧ K (.own fr st (n + m)) (hput (kill H o) fr (true, b)) (fr + 1) ∧ a.st = st ∧ SrcOk H st o n a m b := by
  unfold appA at h
  split at h
  · rename_i l r hl hr
    have hst : a.st = st := by
      unfold srcList at hr
      split at hr
      · exact Nat.eq_of_beq_eq_true ‹_›
      · cases hr
    have hr' : listOf H a m = some r := by
      unfold srcList at hr
      split at hr
      · exact hr
      · cases hr
    obtain ⟨he, hr2⟩ := listOf_ok hr'
    have hnews : ∀ σ w, Sim σ w H → (0 < m → ∃ rb, σ a.nm = some rb) → ∃ us : List Value, VRs σ r us ∧ us.length = m * st ∧ (∀ u ∈ us, u.oneCell' = true) ∧ ∀ rb, 0 < m → σ a.nm = some rb → ∀ j u, us[j]? = some u → w.cell? ((a.at rb).add j) = some u := fun σ w hs hm => by
      rcases Nat.eq_zero_or_pos m with rfl | hm0
      · cases hh : σ a.nm with
        | some rb =>
          obtain ⟨us, h1, h2, h3, h4⟩ := hr2 σ w rb hs hh
          exact ⟨us, h1, by simpa using h2, h3, fun _ h0 => absurd h0 (by omega)⟩
        | none =>
          -- an empty list
          have : r = [] := by
            unfold listOf at hr'
            split at hr'
            · rw [mulc_eq, Nat.zero_mul] at hr'
              have := (cut_spec hr').1
              cases r with
              | nil => rfl
              | cons => simp [len] at this
            · cases hr'
          subst this
          exact ⟨[], .nil, by simp, by simp, fun _ h0 => absurd h0 (by omega)⟩
      · obtain ⟨rb, hrb⟩ := hm hm0
        obtain ⟨us, h1, h2, h4, h3⟩ := hr2 σ w rb hs hrb
        refine ⟨us, h1, by rw [h2, hst], h4, fun rb' _ hrb' j u hu => ?_⟩
        rw [hrb] at hrb'
        cases hrb'
        rw [at_add]
        exact h3 j u hu
    refine ⟨_, by simp, h, hst, ?_, fun _ _ => trivial, fun σ w hs hm hn => ?_⟩
    · intro nm e
      subst e
      exact (listOf_ok (a := ⟨nm, st, 0, 0⟩) hl).1
    · obtain ⟨news, n1, n2, n4, n3⟩ := hnews σ w hs hm
      cases o with
      | none =>
        have e := ho rfl
        subst e
        simp only [oldList, Option.some.injEq] at hl
        subst hl
        refine ⟨[], news, by simp, n2, n4, by simp, n3, fun σ' w' rb' mo h0 hc => ?_⟩
        exact cells_of (n1.mono mo) n4 h0 (by simpa using hc)
      | some nm =>
        simp only [oldList] at hl
        have hold : ∃ olds : List Value, VRs σ l olds ∧ olds.length = n * st ∧ (∀ u ∈ olds, u.oneCell' = true) ∧ ∀ rb, 0 < n → σ nm = some rb → rb.base = rb.base → ∀ j u, olds[j]? = some u → w.cell? ⟨rb.blk, rb.base + j, none⟩ = some u := by
          rcases Nat.eq_zero_or_pos n with rfl | hn0
          · have : l = [] := by
              unfold listOf at hl
              split at hl
              · rw [mulc_eq, Nat.zero_mul] at hl
                have := (cut_spec hl).1
                cases l with
                | nil => rfl
                | cons => simp [len] at this
              · cases hl
            subst this
            exact ⟨[], .nil, by simp, by simp, fun _ h0 => absurd h0 (by omega)⟩
          · obtain ⟨nm', rb, e1, hrb, hb0⟩ := hn hn0
            cases e1
            obtain ⟨us, h1, h2, h4, h3⟩ := (listOf_ok (a := ⟨nm, st, 0, 0⟩) hl).2 σ w rb hs hrb
            refine ⟨us, h1, h2, h4, fun rb' _ hrb' hb0' j u hu => ?_⟩
            rw [hrb] at hrb'
            cases hrb'
            have := h3 j u hu
            simpa [pos_eq] using this
        obtain ⟨olds, o1, o2, o4, o3⟩ := hold
        refine ⟨olds, news, o2, n2, n4, fun nm' rb e h0 hr hb => ?_, n3, fun σ' w' rb' mo h0 hc => cells_of ((o1.append n1).mono mo) (fun u hu => (List.mem_append.1 hu).elim (o4 u) (n4 u)) h0 hc⟩
        cases e
        exact o3 rb h0 hr hb
  · exact appC_ok ho h
end Go.Ev
