/-
  What the reckoner's operations on memory say of the model's: stores, new variables, composite values.
-/
import Derived.Test.YtjgllldbpmmodaaEvO1
namespace Go.Ev
open Go.RowKit

theorem pcells_ok {σ : Sg} {v : PV} {u : Value} {cs : List PV} (h : VR σ v u) (hc : pcells v = some cs) : VRs σ cs u.cells.toList := by
  cases h <;> simp only [pcells, Option.some.injEq, reduceCtorEq] at hc <;> subst hc <;> first
    | assumption
    | exact .cons _ _ _ _ (by constructor <;> assumption) .nil
    | exact .cons _ _ _ _ (.own _ _ _ _ _ ‹_› ‹_› ‹_› ‹_›) .nil
theorem splice_spec : ∀ {cs : List PV} {i : Nat} {vs r : List PV}, splice cs i vs = some r → len r = len cs ∧ (vs = [] ∨ i + len vs ≤ len cs) ∧ ∀ j, nth r j = if i ≤ j ∧ j < i + len vs then nth vs (j - i) else nth cs j
  | [], i, [], r, h => by simp [splice] at h; subst h; exact ⟨rfl, .inl rfl, fun j => by rw [if_neg (by simp only [len]; omega)]⟩
  | [], i, v :: vs, r, h => by simp [splice] at h
  | x :: l, 0, [], r, h => by simp [splice] at h; subst h; exact ⟨rfl, .inl rfl, fun j => by rw [if_neg (by simp only [len]; omega)]⟩
  | x :: l, i + 1, [], r, h => by simp [splice] at h; subst h; exact ⟨rfl, .inl rfl, fun j => by rw [if_neg (by simp only [len]; omega)]⟩
  | x :: l, 0, v :: vs, r, h => by
    simp only [splice] at h
    cases hs : splice l 0 vs with
    | none => rw [hs] at h; cases h
    | some q =>
      rw [hs] at h
      cases h
      obtain ⟨h1, h2, h3⟩ := splice_spec hs
      refine ⟨by simp [len, h1], .inr ?_, fun j => ?_⟩
      · rcases h2 with rfl | h2
        · simp [len]
        · simp only [len] at *; omega
      · cases j with
        | zero => simp [nth, len]
        | succ j =>
          have := h3 j
          simp only [nth, this, len, Nat.zero_le, true_and, Nat.zero_add, Nat.sub_zero, Nat.add_lt_add_iff_right]
  | x :: l, i + 1, v :: vs, r, h => by
    simp only [splice] at h
    cases hs : splice l i (v :: vs) with
    | none => rw [hs] at h; cases h
    | some q =>
      rw [hs] at h
      cases h
      obtain ⟨h1, h2, h3⟩ := splice_spec hs
      refine ⟨by simp [len, h1], .inr ?_, fun j => ?_⟩
      · rcases h2 with h2 | h2
        · cases h2
        · simp only [len] at *; omega
      · cases j with
        | zero => rw [if_neg (by omega)]; rfl
        | succ j =>
          have := h3 j
          simp only [nth, this]
          by_cases hc : i ≤ j ∧ j < i + len (v :: vs)
          · rw [if_pos hc, if_pos (by omega), show j + 1 - (i + 1) = j - i by omega]
          · rw [if_neg hc, if_neg (by omega)]
theorem nth_some : ∀ {cs : List PV} {i : Nat}, i < len cs → ∃ v, nth cs i = some v
  | [], i, h => by simp [len] at h
  | v :: l, 0, h => ⟨v, rfl⟩
  | _ :: l, i + 1, h => nth_some (cs := l) (by simp [len] at h; omega)

/-- Another content under a name that is there. -/
theorem Sim.upd {σ : Sg} {w w' : World} {H : Heap} {n : Nat} {b0 b : Blk} {rb : RB} (h : Sim σ w H) (hg : hget H n = some (true, b0)) (hd0 : b0 ≠ .dead) (hr : σ n = some rb)
    (hs : w.heap.size ≤ w'.heap.size) (hk : ∀ k, k ≠ rb.blk → k < w.heap.size → w'.heap[k]? = w.heap[k]?) (hb : EntR σ w' n (true, b)) : Sim σ w' (hput H n (true, b)) := by
  constructor
  · intro m e hm
    by_cases e1 : n = m
    · subst e1
      rw [hget_put_same] at hm
      cases hm
      exact hb
    · rw [hget_put_other _ _ _ _ e1] at hm
      intro hd
      exact (h.ent m e hm).keep (Mono.refl _) rfl hs (fun r hr' hl => hk _ (fun x => h.dist n m b0 e hg hm hd0 hd e1 rb r hr hr' x.symm) hl) hd
  · intro m k b' e hm hke hb' he hne r s hr' hsk
    by_cases e1 : n = m
    · subst e1
      rw [hget_put_other _ _ _ _ hne] at hke
      exact h.dist n k b0 e hg hke hd0 he hne r s hr' hsk
    · rw [hget_put_other _ _ _ _ e1] at hm
      by_cases e2 : n = k
      · subst e2
        exact h.dist m n b' (true, b0) hm hg hb' hd0 hne r s hr' hsk
      · rw [hget_put_other _ _ _ _ e2] at hke
        exact h.dist m k b' e hm hke hb' he hne r s hr' hsk
theorem heap_setCells (b : Nat) : ∀ (vs : List Value) (o : Nat) (w : World) (k : Nat), k ≠ b → (w.setCells b o vs).heap[k]? = w.heap[k]?
  | [], _, _, _, _ => rfl
  | v :: r, o, w, k, h => by rw [World.setCells, heap_setCells b r _ _ k h, Below.heap_setCell _ _ _ _ h]
theorem size_setCells (b : Nat) : ∀ (vs : List Value) (o : Nat) (w : World), (w.setCells b o vs).heap.size = w.heap.size
  | [], _, _ => rfl
  | v :: r, o, w => by rw [World.setCells, size_setCells b r]; simp
theorem streams_setCells (b : Nat) : ∀ (vs : List Value) (o : Nat) (w : World), (w.setCells b o vs).os = w.os ∧ (w.setCells b o vs).tape = w.tape ∧ (w.setCells b o vs).output = w.output ∧ (w.setCells b o vs).drawn = w.drawn
  | [], _, _ => ⟨rfl, rfl, rfl, rfl⟩
  | _ :: r, o, _ => streams_setCells b r (o + 1) _
theorem out_upd {σ : Sg} {w w' : World} {H : Heap} {n fr : Nat} {b0 b : Blk} {rb : RB} {v : PV} {u : Value} (h : Sim σ w H) (hg : hget H n = some (true, b0)) (hd0 : b0 ≠ .dead) (hr : σ n = some rb)
    (hst : w'.os = w.os ∧ w'.tape = w.tape ∧ w'.output = w.output ∧ w'.drawn = w.drawn) (hs : w'.heap.size = w.heap.size) (hk : ∀ k, k ≠ rb.blk → w'.heap[k]? = w.heap[k]?) (hb : EntR σ w' n (true, b)) (hv : VR σ v u) :
    Out σ w H fr v (hput H n (true, b)) fr σ w' u := by
  refine ⟨hv, h.upd hg hd0 hr (Nat.le_of_eq hs.symm) (fun k hk' _ => hk k hk') hb, Mono.refl _, fun _ _ => rfl, hst.1, hst.2.1, hst.2.2.1, Nat.le_of_eq hs.symm, Nat.le_of_eq hst.2.2.2.symm, fun k _ hk' => hk k fun e => hk' ⟨n, b0, rb, hg, hd0, hr, e.symm⟩, fun k hk' => ?_⟩
  obtain ⟨m, b', r, h1, h2, h3, h4⟩ := hk'
  by_cases e1 : n = m
  · subst e1
    exact .inr ⟨n, b0, r, hg, hd0, h3, h4⟩
  · rw [hget_put_other _ _ _ _ e1] at h1
    exact .inr ⟨m, b', r, h1, h2, h3, h4⟩

theorem isSome_setCells {w : World} {b o q : Nat} {us : List Value} (hc : ∀ j, j < us.length → (w.cell? ⟨b, o + j, none⟩).isSome = true) (h : ((w.setCells b o us).cell? ⟨b, q, none⟩).isSome = true) : (w.cell? ⟨b, q, none⟩).isSome = true := by
  by_cases hin : o ≤ q ∧ q < o + us.length
  · have := hc (q - o) (by omega)
    rwa [show o + (q - o) = q by omega] at this
  · rwa [World.cell?_setCells_out b us o w _ (fun _ _ => by simp only; omega)] at h
theorem ent_setCells {σ : Sg} {w : World} {n : Nat} {b0 b : Blk} {rb : RB} {o : Nat} {us : List Value} (h : EntR σ w n (true, b0)) (hd0 : b0 ≠ .dead) (hr : σ n = some rb)
    (hc : ∀ j, j < us.length → (w.cell? ⟨rb.blk, o + j, none⟩).isSome = true) (hb : BlkR σ (w.setCells rb.blk o us) rb b) : EntR σ (w.setCells rb.blk o us) n (true, b) := by
  intro _ r hr'
  rw [hr] at hr'
  cases hr'
  obtain ⟨h1, h2, h3⟩ := h hd0 rb hr
  obtain ⟨h4, h5, h6⟩ := h3 rfl
  refine ⟨by rw [size_setCells]; exact h1, hb, fun _ => ⟨h4, fun q hs => by rw [World.frozen?_setCells]; exact h5 q (isSome_setCells hc hs), fun q hq => ?_⟩⟩
  by_cases hin : o ≤ rb.base + q ∧ rb.base + q < o + us.length
  · have := World.cell?_setCells_in rb.blk us o w hc (rb.base + q - o) (by omega)
    rw [show o + (rb.base + q - o) = rb.base + q by omega] at this
    exact ⟨_, this⟩
  · rw [World.cell?_setCells_out rb.blk us o w _ (fun _ _ => by simp only; omega)]
    exact h6 q hq

theorem nthc_lt : ∀ {cs : List Col} {i : Nat} {c : Col}, nthc cs i = some c → i < lenc cs
  | [], i, c, h => by simp [nthc] at h
  | _ :: l, 0, c, h => by simp [lenc]
  | _ :: l, i + 1, c, h => by simp only [nthc] at h; have := nthc_lt h; simp [lenc]; omega
theorem nthc_some : ∀ {cs : List Col} {i : Nat}, i < lenc cs → ∃ c, nthc cs i = some c
  | [], i, h => by simp [lenc] at h
  | c :: l, 0, h => ⟨c, rfl⟩
  | _ :: l, i + 1, h => nthc_some (cs := l) (by simp [lenc] at h; omega)
theorem keq_eq2 {k k' : IntKind} (h : keq k k' = true) : k = k' := by cases k <;> cases k' <;> first | rfl | cases h
theorem updf_at {α : Type} (f : Nat → α) (o : Nat) (x : α) (j : Nat) : updf f o x j = if j = o then x else f j := by
  unfold updf
  by_cases h : j = o
  · subst h; simp
  · have : Nat.beq j o = false := by cases hb : Nat.beq j o; rfl; exact absurd (Nat.eq_of_beq_eq_true hb) h
    simp [this, h]
/-- One element's cell in a column. -/
theorem colU_ok {σ : Sg} {o : Nat} {c d : Col} {v : PV} (h : colU o c v = some d) : (∀ j, j ≠ o → colAt d j = colAt c j) ∧ ∀ u, VR1 σ v u → VR1 σ (colAt d o) u := by
  unfold colU at h
  split at h
  · split at h
    · rename_i hk
      cases keq_eq2 hk
      cases h
      exact ⟨fun j hj => by simp only [colAt, updf_at, hj, if_false], fun u hu => by simpa only [colAt, updf_at, if_true] using hu⟩
    · cases h
  · cases h
    exact ⟨fun j hj => by simp only [colAt, updf_at, hj, if_false], fun u hu => by simpa only [colAt, updf_at, if_true] using hu⟩
  · cases h
    exact ⟨fun j hj => by simp only [colAt, updf_at, hj, if_false], fun u hu => by
      simp only [colAt, updf_at, if_true]
      have := hu.1
      cases this
      exact ⟨.bool _, hu.2⟩⟩
  · cases h
    exact ⟨fun j hj => by simp only [colAt, updf_at, hj, if_false], fun u hu => by simpa only [colAt, updf_at, if_true] using hu⟩
  · split at h
    · cases h
      exact ⟨fun j hj => by simp only [colAt, updf_at, hj, if_false], fun u hu => by simpa only [colAt, updf_at, if_true] using hu⟩
    · cases h
  · cases h
theorem colsU_ok {σ : Sg} {o : Nat} : ∀ {cs ds : List Col} {k : Nat} {vs : List PV}, colsU o cs k vs = some ds → lenc ds = lenc cs ∧ (vs = [] ∨ k + len vs ≤ lenc cs) ∧ ∀ i d, nthc ds i = some d → ∃ c, nthc cs i = some c ∧ (∀ j, j ≠ o → colAt d j = colAt c j) ∧ (if k ≤ i ∧ i < k + len vs then ∃ v, nth vs (i - k) = some v ∧ ∀ u, VR1 σ v u → VR1 σ (colAt d o) u else d = c)
  | cs, ds, k, [], h => by
    have e : ds = cs := by cases cs <;> cases k <;> simp [colsU] at h <;> first | exact h | exact h.symm
    subst e
    refine ⟨rfl, .inl rfl, fun i d hd => ⟨d, hd, fun _ _ => rfl, ?_⟩⟩
    rw [if_neg (by have : len [] = 0 := rfl; omega)]
  | [], ds, k, v :: vs, h => by simp [colsU] at h
  | c :: cs, ds, 0, v :: vs, h => by
    simp only [colsU] at h
    split at h
    · rename_i d0 ds0 h1 h2
      cases h
      obtain ⟨q1, q2, q3⟩ := colsU_ok (σ := σ) h2
      obtain ⟨p1, p2⟩ := colU_ok (σ := σ) h1
      refine ⟨by simp [lenc, q1], .inr ?_, fun i d hd => ?_⟩
      · rcases q2 with rfl | q2
        · simp [len, lenc]
        · simp [len, lenc]; omega
      · cases i with
        | zero =>
          simp only [nthc, Option.some.injEq] at hd
          subst hd
          refine ⟨c, rfl, p1, ?_⟩
          rw [if_pos (by simp [len])]
          exact ⟨v, rfl, p2⟩
        | succ i =>
          simp only [nthc] at hd
          obtain ⟨c', r1, r2, r3⟩ := q3 i d hd
          refine ⟨c', r1, r2, ?_⟩
          by_cases hi : 0 ≤ i ∧ i < 0 + len vs
          · rw [if_pos hi] at r3
            rw [if_pos (by simp [len]; omega)]
            exact r3
          · rw [if_neg hi] at r3
            rw [if_neg (by simp [len]; omega)]
            exact r3
    · cases h
  | c :: cs, ds, k + 1, v :: vs, h => by
    simp only [colsU] at h
    split at h
    · rename_i ds0 h2
      cases h
      obtain ⟨q1, q2, q3⟩ := colsU_ok (σ := σ) h2
      refine ⟨by simp [lenc, q1], .inr ?_, fun i d hd => ?_⟩
      · rcases q2 with q2 | q2
        · cases q2
        · simp [lenc]; omega
      · cases i with
        | zero =>
          simp only [nthc, Option.some.injEq] at hd
          subst hd
          refine ⟨c, rfl, fun _ _ => rfl, ?_⟩
          rw [if_neg (by omega)]
        | succ i =>
          simp only [nthc] at hd
          obtain ⟨c', r1, r2, r3⟩ := q3 i d hd
          refine ⟨c', r1, r2, ?_⟩
          by_cases hi : k ≤ i ∧ i < k + len (v :: vs)
          · rw [if_pos hi] at r3
            rw [if_pos (by omega), show i + 1 - (k + 1) = i - k by omega]
            exact r3
          · rw [if_neg hi] at r3
            rw [if_neg (by omega)]
            exact r3
    · cases h

section
variable {P : Program}
theorem run_store_cells {w : World} {rb : RB} {a : PA} {us : List Value} (_h0 : rb.base = rb.base) (hc : ∀ j, j < us.length → (w.cell? ⟨rb.blk, rb.base + pos a + j, none⟩).isSome = true) (hf : ∀ o, (w.cell? ⟨rb.blk, o, none⟩).isSome = true → w.frozen? ⟨rb.blk, o, none⟩ = false) (h1 : ∀ u ∈ us, u.oneCell' = true) :
    (storeCells (a.at rb) us).run P w = .ok () (w.setCells rb.blk (rb.base + pos a) us) := by
  have := run_storeCells_cells (P := P) rb.blk (rb.base + pos a) us 0 w (by simpa using hc) (fun j hj => hf _ (by simpa using hc j hj)) h1
  unfold PA.at
  simpa using this
theorem stn_ok {H : Heap} {a : PA} {vs : List PV} {K : Heap → Prop} (fr : Nat) (h : stn cond H a vs K) : ∃ b, K (hput H a.nm (true, b)) ∧ (∃ e, hget H a.nm = some e) ∧ ∀ σ w rb us, Sim σ w H → σ a.nm = some rb → VRs σ vs us →
    ∃ w', (storeCells (a.at rb) us).run P w = .ok () w' ∧ Out σ w H fr .unk (hput H a.nm (true, b)) fr σ w' undef := by
  unfold stn at h
  cases hh : hget H a.nm with
  | none => rw [hh] at h; exact h.elim
  | some e =>
    obtain ⟨wr, b0⟩ := e
    rw [hh] at h
    cases wr with
    | false => exact h.elim
    | true =>
      simp only at h
      cases b0 with
      | dead => exact h.elim
      | rows st n F => exact h.elim
      | cells cs =>
        simp only [stB] at h
        cases h1 : ones vs <;> rw [h1] at h
        · exact h.elim
        · simp only at h
          cases h2 : splice cs (pos a) vs with
          | none => rw [h2] at h; exact h.elim
          | some cs' =>
            rw [h2] at h
            refine ⟨_, h, ⟨_, rfl⟩, fun σ w rb us hs hr hv => ?_⟩
            have hd0 : Blk.cells cs ≠ .dead := by simp
            obtain ⟨e1, e2, e3⟩ := hs.ent _ _ hh hd0 rb hr
            obtain ⟨e4, e5, e6⟩ := e3 rfl
            obtain ⟨s1, s2, s3⟩ := splice_spec h2
            have hl := hv.length
            have hc : ∀ j, j < us.length → (w.cell? ⟨rb.blk, rb.base + pos a + j, none⟩).isSome = true := fun j hj => by
              have : pos a + j < len cs := by
                rcases s2 with rfl | s2
                · simp [len] at hl; subst hl; simp at hj
                · omega
              obtain ⟨v, hv'⟩ := nth_some this
              obtain ⟨u, hu, _⟩ := e2 _ _ hv'
              rw [← Nat.add_assoc] at hu
              simp [hu]
            refine ⟨_, run_store_cells e4 hc e5 (ones_cell hv h1), ?_⟩
            refine out_upd hs hh hd0 hr (streams_setCells _ _ _ _) (size_setCells _ _ _ _) (fun k hk => heap_setCells _ _ _ _ _ hk) ?_ (.unk _)
            refine ent_setCells (hs.ent _ _ hh) hd0 hr hc fun i v hi => ?_
            have hi2 := s3 i
            rw [hi] at hi2
            by_cases hin : pos a ≤ i ∧ i < pos a + len vs
            · rw [if_pos hin] at hi2
              obtain ⟨u, hu, hvu⟩ := hv.get hi2.symm
              have hlt : i - pos a < us.length := by omega
              have := World.cell?_setCells_in rb.blk us (rb.base + pos a) w hc (i - pos a) hlt
              rw [show rb.base + pos a + (i - pos a) = rb.base + i by omega] at this
              rw [List.getElem?_eq_getElem hlt] at hu
              cases hu
              exact ⟨_, this, hvu, ones_cell hv h1 _ (List.getElem_mem hlt)⟩
            · rw [if_neg hin] at hi2
              rw [World.cell?_setCells_out rb.blk us (rb.base + pos a) w _ (fun _ _ => by simp only; omega)]
              exact e2 _ _ hi2.symm
      | ints k n f =>
        simp only [stB] at h
        match vs, h with
        | [.int k' x], h =>
          simp only at h
          cases h1 : keq k k' <;> rw [h1] at h
          · exact h.elim
          · simp only at h
            obtain ⟨h2, hk⟩ := cond_t h
            have h2 : pos a < n := by simpa using h2
            have hkk : k = k' := by cases k <;> cases k' <;> simp_all [keq]
            subst hkk
            refine ⟨_, hk, ⟨_, rfl⟩, fun σ w rb us hs hr hv => ?_⟩
            have hd0 : Blk.ints k n f ≠ .dead := by simp
            obtain ⟨e1, e2, e3⟩ := hs.ent _ _ hh hd0 rb hr
            obtain ⟨e4, e5, e6⟩ := e3 rfl
            cases hv with
            | cons _ u _ m hvu hl =>
            cases hl
            cases hvu
            have hc : ∀ j, j < [Value.int k x].length → (w.cell? ⟨rb.blk, rb.base + pos a + j, none⟩).isSome = true := fun j hj => by
              have : j = 0 := by simp at hj; exact hj
              subst this
              have := e2 _ h2
              simp [this]
            refine ⟨_, run_store_cells e4 hc e5 (by simp [Value.oneCell']), ?_⟩
            refine out_upd hs hh hd0 hr (streams_setCells _ _ _ _) (size_setCells _ _ _ _) (fun k hk => heap_setCells _ _ _ _ _ hk) ?_ (.unk _)
            refine ent_setCells (hs.ent _ _ hh) hd0 hr hc fun o ho => ?_
            by_cases hin : o = pos a
            · subst hin
              have := World.cell?_setCells_in rb.blk [Value.int k x] (rb.base + pos a) w hc 0 (by simp)
              simpa [upd] using this
            · rw [World.cell?_setCells_out rb.blk _ (rb.base + pos a) w _ (fun _ _ => by simp; omega)]
              have hb : Nat.beq o (pos a) = false := by cases hb : Nat.beq o (pos a); rfl; exact absurd (Nat.eq_of_beq_eq_true hb) hin
              have := e2 _ ho
              simpa [upd, hb] using this
        | [], h => exact h.elim
        | [.unk], h | [.bool _], h | [.tf _], h | [.str _], h | [.ptr _], h | [.nilp], h | [.nils], h | [.emp], h | [.loose _ _], h | [.sl _ _], h | [.own _ _ _], h | [.agg _], h | [.tup _], h | [.fn _ _ _], h | [.nilf], h | [.ifc _ _], h | [.nili], h | [.zer _], h => exact h.elim
        | x :: _ :: _, h => cases x <;> exact h.elim
      | cols n cs =>
        simp only [stB] at h
        cases h1 : Nat.beq a.st (lenc cs) <;> rw [h1] at h
        · exact h.elim
        · cases h2 : colsU a.ix cs a.off vs with
          | none => rw [h2] at h; exact h.elim
          | some cs' =>
            rw [h2] at h
            obtain ⟨h3, hk⟩ := cond_t h
            have h3 : a.ix < n := by simpa using h3
            have e1 := Nat.eq_of_beq_eq_true h1
            refine ⟨_, hk, ⟨_, rfl⟩, fun σ w rb us hs hr hv => ?_⟩
            have hd0 : Blk.cols n cs ≠ .dead := by simp
            obtain ⟨f1, f2, f3⟩ := hs.ent _ _ hh hd0 rb hr
            obtain ⟨e4, e5, e6⟩ := f3 rfl
            obtain ⟨q1, q2, q3⟩ := colsU_ok (σ := σ) h2
            have hl := hv.length
            have hpos : pos a = a.ix * lenc cs + a.off := by rw [pos_eq, e1, Nat.add_comm]
            have hcell : ∀ j i, j < n → i < lenc cs → ∃ c u, nthc cs i = some c ∧ w.cell? ⟨rb.blk, rb.base + (j * lenc cs + i), none⟩ = some u ∧ VR1 σ (colAt c j) u := fun j i hj hi => by
              obtain ⟨c, hc⟩ := nthc_some hi
              obtain ⟨u, h4, h5⟩ := f2 j i c hj hc
              exact ⟨c, u, hc, h4, h5⟩
            have hc : ∀ j, j < us.length → (w.cell? ⟨rb.blk, rb.base + pos a + j, none⟩).isSome = true := fun j hj => by
              have : a.off + j < lenc cs := by
                rcases q2 with rfl | q2
                · simp [len] at hl; subst hl; simp at hj
                · omega
              obtain ⟨c, u, _, h4, _⟩ := hcell a.ix (a.off + j) h3 this
              rw [hpos, Nat.add_assoc, Nat.add_assoc, h4]
              rfl
            have hones : ∀ u ∈ us, u.oneCell' = true := by
              have gen : ∀ (vs : List PV) (us : List Value) (k : Nat) (cs cs' : List Col), colsU a.ix cs k vs = some cs' → VRs σ vs us → ∀ u ∈ us, u.oneCell' = true := by
                intro vs
                induction vs with
                | nil => intro us k cs cs' _ hv u hu; cases hv; cases hu
                | cons v vs ih =>
                  intro us k cs cs' hU hv u hu
                  cases hv with
                  | cons _ x _ m hvx hvl =>
                  have step : ∀ (k : Nat) (cs cs' : List Col), colsU a.ix cs k (v :: vs) = some cs' → one v = true ∧ ∃ cs2 cs3, colsU a.ix cs2 0 vs = some cs3 := by
                    intro k
                    induction k with
                    | zero =>
                      intro cs cs' hU
                      cases cs with
                      | nil => simp [colsU] at hU
                      | cons c cs =>
                        simp only [colsU] at hU
                        split at hU
                        · rename_i d ds h6 h7
                          refine ⟨?_, _, _, h7⟩
                          unfold colU at h6
                          split at h6 <;> first | rfl | (split at h6 <;> first | assumption | cases h6) | cases h6
                        · cases hU
                    | succ k ihk =>
                      intro cs cs' hU
                      cases cs with
                      | nil => simp [colsU] at hU
                      | cons c cs =>
                        simp only [colsU] at hU
                        split at hU
                        · rename_i ds h7; exact ihk _ _ h7
                        · cases hU
                  obtain ⟨s1, cs2, cs3, s2⟩ := step k cs cs' hU
                  rcases List.mem_cons.1 hu with rfl | hu
                  · exact one_cell hvx s1
                  · exact ih m 0 cs2 cs3 s2 hvl u hu
              exact gen vs us a.off cs cs' h2 hv
            refine ⟨_, run_store_cells e4 hc e5 hones, ?_⟩
            refine out_upd hs hh hd0 hr (streams_setCells _ _ _ _) (size_setCells _ _ _ _) (fun k hk => heap_setCells _ _ _ _ _ hk) ?_ (.unk _)
            refine ent_setCells (hs.ent _ _ hh) hd0 hr hc fun j i d hj hd => ?_
            rw [q1]
            have hi : i < lenc cs := by have := nthc_lt hd; omega
            obtain ⟨c, r1, r2, r3⟩ := q3 i d hd
            by_cases hin : j = a.ix ∧ a.off ≤ i ∧ i < a.off + len vs
            · obtain ⟨rfl, h5, h6⟩ := hin
              rw [if_pos ⟨h5, h6⟩] at r3
              obtain ⟨v, hv1, hv2⟩ := r3
              obtain ⟨u, hu, hvu⟩ := hv.get hv1
              have hlt : i - a.off < us.length := by omega
              have := World.cell?_setCells_in rb.blk us (rb.base + pos a) w hc (i - a.off) hlt
              rw [show rb.base + pos a + (i - a.off) = rb.base + (a.ix * lenc cs + i) by omega] at this
              rw [List.getElem?_eq_getElem hlt] at hu
              cases hu
              exact ⟨_, this, hv2 _ ⟨hvu, hones _ (List.getElem_mem hlt)⟩⟩
            · have hne : ∀ q, q < us.length → j * lenc cs + i ≠ pos a + q := fun q hq e => by
                rw [hpos] at e
                have h7 : a.off + q < lenc cs := by
                  rcases q2 with rfl | q2
                  · simp [len] at hl; subst hl; simp at hq
                  · omega
                have h8 : j = a.ix := by
                  have e2 : (j * lenc cs + i) / lenc cs = (a.ix * lenc cs + (a.off + q)) / lenc cs := by rw [e, Nat.add_assoc]
                  rw [Nat.mul_comm, Nat.mul_add_div (by omega), Nat.div_eq_of_lt hi, Nat.mul_comm, Nat.mul_add_div (by omega), Nat.div_eq_of_lt h7] at e2
                  omega
                subst h8
                exact hin ⟨rfl, by omega, by omega⟩
              rw [World.cell?_setCells_out rb.blk us (rb.base + pos a) w _ (fun _ _ => by
                simp only
                suffices j * lenc cs + i < pos a ∨ pos a + us.length ≤ j * lenc cs + i by omega
                rcases Nat.lt_or_ge (j * lenc cs + i) (pos a) with h9 | h9
                · exact .inl h9
                · exact .inr (Nat.le_of_not_lt fun hlt => hne (j * lenc cs + i - pos a) (by omega) (by omega)))]
              have hold : colAt d j = colAt c j ∨ d = c := by
                by_cases hji : j = a.ix
                · right
                  rw [if_neg (fun hh => hin ⟨hji, hh⟩)] at r3
                  exact r3
                · exact .inl (r2 j hji)
              have e2 : colAt d j = colAt c j := by rcases hold with h | h; exact h; rw [h]
              rw [e2]
              exact f2 j i c hj r1

theorem ofV_ok (σ : Sg) : ∀ (n : Nat) (v : Value), VR σ (ofV n v) v := by
  intro n
  induction n with
  | zero => intro v; unfold ofV; split <;> first | (cases ‹0 = _ + 1›) | constructor
  | succ n ih =>
    intro v
    unfold ofV
    split <;> first
      | (rename_i m cs hm; obtain rfl : n = m := by omega
         exact .agg _ _ (by
          generalize cs.toList = l
          induction l with
          | nil => exact .nil
          | cons x l ihl => exact .cons _ _ _ _ (ih x) ihl))
      | constructor
theorem mkZ_ok {I : TypeInfo} {z : List PV} (h : mkZ I = some z) : ∃ v, I.zero = some v ∧ ones z = true ∧ ∀ σ, VRs σ z v.cells.toList := by
  unfold mkZ at h
  cases hz : I.zero with
  | none => rw [hz] at h; cases h
  | some v =>
    rw [hz] at h
    simp only at h
    cases hp : pcells (ofV 1 v) with
    | none => rw [hp] at h; cases h
    | some cs =>
      rw [hp] at h
      simp only at h
      cases ho : ones cs <;> rw [ho] at h
      · cases h
      · cases h
        exact ⟨v, rfl, ho, fun σ => pcells_ok (ofV_ok σ 1 v) hp⟩
theorem blk_cells {σ : Sg} {w : World} {cs : List PV} {vs : Array Value} {t : TypeId} {cap : Nat} (h : VRs σ cs vs.toList) (ho : ones cs = true) : BlkR σ (w.alloc (.cells vs t)) ⟨w.heap.size, 0, cap⟩ (.cells cs) := by
  intro i v hi
  obtain ⟨u, h1, h2⟩ := h.get hi
  exact ⟨u, by rw [Nat.zero_add, cell_alloc_new]; simpa using h1, h2, ones_cell h ho u (List.mem_of_getElem? h1)⟩
/-- A new variable. -/
theorem newVar_ok {σ : Sg} {w : World} {H : Heap} {fr : Nat} {cs : List PV} {v : Value} (t : TypeId) (hs : Sim σ w H) (hn : NoneIn σ fr (fr + 1)) (h : VRs σ cs v.cells.toList) (ho : ones cs = true) :
    (newVar t v).run P w = .ok ⟨w.heap.size, 0, none⟩ (w.alloc (.cells v.cells t)) ∧ ∃ σ', Out σ w H fr (.ptr ⟨fr, 0, 0, 0⟩) (hput H fr (true, .cells cs)) (fr + 1) σ' (w.alloc (.cells v.cells t)) (.pointer (some ⟨w.heap.size, 0, none⟩)) := by
  refine ⟨by simp [newVar, newRow], _, out_new v.cells t v.cells.size hs hn (Nat.le_refl _) (blk_cells (h.mono (sset_mono (hn fr (Nat.le_refl _) (by omega)))) ho) ?_⟩
  have := VR.ptr (σ := sset σ fr ⟨w.heap.size, 0, v.cells.size⟩) ⟨fr, 0, 0, 0⟩ ⟨w.heap.size, 0, v.cells.size⟩ (sset_same _ _ _)
  simpa [PA.at, pos] using this
end
end Go.Ev
