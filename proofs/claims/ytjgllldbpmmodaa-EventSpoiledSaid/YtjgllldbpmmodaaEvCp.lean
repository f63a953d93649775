/-
  copy: what the reckoner's says of the model's.
-/
import Derived.Test.YtjgllldbpmmodaaEvO9
namespace Go.Ev
open Go.RowKit
set_option linter.unusedSimpArgs false

theorem overf_at {α : Type} (p n : Nat) (f g : Nat → α) (j : Nat) : overf p n f g j = if p ≤ j ∧ j < p + n then g (j - p) else f j := by
  unfold overf
  by_cases h1 : p ≤ j
  · rw [show Nat.ble p j = true from Nat.ble_eq_true_of_le h1, cond_true]
    by_cases h2 : j < p + n
    · rw [show Nat.blt j (p + n) = true from Nat.blt_eq.mpr h2, cond_true, if_pos ⟨h1, h2⟩]
    · rw [show Nat.blt j (p + n) = false by rw [Bool.eq_false_iff]; exact fun e => h2 (Nat.blt_eq.mp e), cond_false, if_neg (fun h => h2 h.2)]
  · rw [show Nat.ble p j = false by rw [Bool.eq_false_iff]; exact fun e => h1 (Nat.le_of_ble_eq_true e), cond_false, if_neg (fun h => h1 h.1)]
theorem colO_ok {p n : Nat} {c d e : Col} (h : colO p n c d = some e) (j : Nat) : colAt e j = if p ≤ j ∧ j < p + n then colAt d (j - p) else colAt c j := by
  unfold colO at h
  split at h
  · split at h
    · rename_i hk
      cases keq_eq2 hk
      cases h
      simp only [colAt, overf_at]
      split <;> rfl
    · cases h
  · cases h
    simp only [colAt, overf_at]
    split <;> rfl
  · cases h
    simp only [colAt, overf_at]
    split <;> rfl
  · cases h
    simp only [colAt, overf_at]
  · cases h
theorem colsO_ok {p n : Nat} : ∀ {cs ds es : List Col}, colsO p n cs ds = some es → lenc es = lenc cs ∧ lenc es = lenc ds ∧ ∀ i e, nthc es i = some e → ∃ c d, nthc cs i = some c ∧ nthc ds i = some d ∧ ∀ j, colAt e j = if p ≤ j ∧ j < p + n then colAt d (j - p) else colAt c j
  | [], [], es, h => by simp only [colsO, Option.some.injEq] at h; subst h; exact ⟨rfl, rfl, fun i e he => by simp [nthc] at he⟩
  | c :: cs, d :: ds, es, h => by
    simp only [colsO] at h
    split at h
    · rename_i e0 es0 h1 h2
      cases h
      obtain ⟨q1, q2, q3⟩ := colsO_ok h2
      refine ⟨by simp [lenc, q1], by simp [lenc, q2], fun i e he => ?_⟩
      cases i with
      | zero =>
        simp only [nthc, Option.some.injEq] at he
        subst he
        exact ⟨c, d, rfl, rfl, colO_ok h1⟩
      | succ i => exact q3 i e he
    · cases h
  | [], _ :: _, es, h => by simp [colsO] at h
  | _ :: _, [], es, h => by simp [colsO] at h
/-- Another content that says nothing else. -/
theorem Sim.upd0 {σ : Sg} {w : World} {H : Heap} {n : Nat} {b0 b : Blk} (h : Sim σ w H) (hg : hget H n = some (true, b0)) (hd0 : b0 ≠ .dead) (hb : ∀ rb, σ n = some rb → BlkR σ w rb b) : Sim σ w (hput H n (true, b)) := by
  constructor
  · intro m e hm
    by_cases e1 : n = m
    · subst e1
      rw [hget_put_same] at hm
      cases hm
      intro _ rb hr
      obtain ⟨h1, h2, h3⟩ := h.ent _ _ hg hd0 rb hr
      exact ⟨h1, hb rb hr, h3⟩
    · rw [hget_put_other _ _ _ _ e1] at hm
      exact h.ent m e hm
  · intro m k b' e hm hke hb' he hne r s hr' hsk
    by_cases e1 : n = m
    · subst e1
      rw [hget_put_other _ _ _ _ hne] at hke
      exact h.dist n k b0 e hg hke hd0 he hne r s hr' hsk
    · rw [hget_put_other _ _ _ _ e1] at hm
      by_cases e2 : n = k
      · subst e2
        exact h.dist m n b' (true, b0) hm hg hb' hd0 hne r s hr' hsk
      · rw [hget_put_other _ _ _ _ e2] at hke
        exact h.dist m k b' e hm hke hb' he hne r s hr' hsk
theorem out_upd0 {σ : Sg} {w : World} {H : Heap} {n fr : Nat} {b0 b : Blk} {v : PV} {u : Value} (h : Sim σ w H) (hg : hget H n = some (true, b0)) (hd0 : b0 ≠ .dead) (hb : ∀ rb, σ n = some rb → BlkR σ w rb b) (hv : VR σ v u) :
    Out σ w H fr v (hput H n (true, b)) fr σ w u := by
  refine ⟨hv, h.upd0 hg hd0 hb, Mono.refl _, fun _ _ => rfl, rfl, rfl, rfl, Nat.le_refl _, Nat.le_refl _, fun k _ hk' => rfl, fun k hk' => ?_⟩
  obtain ⟨m, b', r, h1, h2, h3, h4⟩ := hk'
  by_cases e1 : n = m
  · subst e1
    exact .inr ⟨n, b0, r, hg, hd0, h3, h4⟩
  · rw [hget_put_other _ _ _ _ e1] at h1
    exact .inr ⟨m, b', r, h1, h2, h3, h4⟩
theorem listOf_len {H : Heap} {a : PA} {n : Nat} {vs : List PV} (h : listOf H a n = some vs) : len vs = n * a.st := by
  unfold listOf at h
  split at h
  · rw [(cut_spec h).1, mulc_eq]
  · cases h
/-- What copy does: values in memory, and the block behind it. -/
def CpOk (H : Heap) (st : Nat) (d s : PA) (m k : Nat) (b : Blk) : Prop :=
  ∃ b0, hget H d.nm = some (true, b0) ∧ b0 ≠ .dead ∧ ∀ σ w, Sim σ w H → (k = 0 → ∀ rb, σ d.nm = some rb → BlkR σ w rb b) ∧
    ∀ rb rs, k ≤ m → σ d.nm = some rb → σ s.nm = some rs → ∃ us : List Value, us.length = k * st ∧ (∀ u ∈ us, u.oneCell' = true) ∧ (∀ j u, us[j]? = some u → w.cell? ((s.at rs).add j) = some u) ∧
      (∀ j, j < us.length → (w.cell? ⟨rb.blk, rb.base + pos d + j, none⟩).isSome = true) ∧ BlkR σ (w.setCells rb.blk (rb.base + pos d) us) rb b
theorem cpyC_ok {H : Heap} {fr st : Nat} {d s : PA} {m k : Nat} {K : Kon} (h : cpyC cond H fr st d s m k K) : ∃ b, K (.int .i64 k) (hput H d.nm (true, b)) fr ∧ CpOk H st d s m k b := by
  unfold cpyC at h
  split at h
  · rename_i n' cs h1 h2 hh
    have e1 := Nat.eq_of_beq_eq_true h1
    have e2 := Nat.eq_of_beq_eq_true h2
    split at h
    · rename_i bb ds hsrc h3
      have e3 := Nat.eq_of_beq_eq_true h3
      split at h
      · rename_i es hes
        obtain ⟨hle, h⟩ := cond_t h
        obtain ⟨hbb, hk⟩ := cond_t h
        subst hbb
        have hle : d.ix + k ≤ n' := by simpa using hle
        obtain ⟨s1, s2, s3, s4⟩ := srcC_ok hsrc
        obtain ⟨o1, o2, o3⟩ := colsO_ok hes
        have hpos : pos d = d.ix * st := by rw [pos_eq, e1, e2, Nat.zero_add]
        refine ⟨_, hk, _, hh, by simp, fun σ w hs => ⟨fun h0 rb hr => ?_, fun rb rs hkm hr hr2 => ?_⟩⟩
        · obtain ⟨q1, q2, q3⟩ := hs.ent _ _ hh (by simp) rb hr
          intro j i c hj hc
          obtain ⟨c0, d0, k1, k2, k3⟩ := o3 i c hc
          rw [k3 j, if_neg (by omega), o1]
          exact q2 j i c0 hj k1
        · obtain ⟨q1, q2, q3⟩ := hs.ent _ _ hh (by simp) rb hr
          obtain ⟨q4, q5, q6⟩ := q3 rfl
          obtain ⟨us, r1, r2⟩ := row_vals (σ := σ) (w := w) (b := rs.blk) (p := rs.base + pos s) (st := st) (n := k) (F := colsAt ds) (fun j i hj hi => s4 σ w rs hs hr2 j i (by omega) hi)
          have hcell : ∀ a i, a < k → i < st → ∃ u, w.cell? ⟨rb.blk, rb.base + pos d + (a * st + i), none⟩ = some u := by
            intro a i ha hi
            obtain ⟨c, hc⟩ := nthc_some (cs := cs) (i := i) (by omega)
            obtain ⟨u, hu, _⟩ := q2 (d.ix + a) i c (by omega) hc
            refine ⟨u, ?_⟩
            rw [← hu, hpos, e3]
            congr 2
            rw [Nat.add_mul]; omega
          have hin : ∀ j, j < us.length → (w.cell? ⟨rb.blk, rb.base + pos d + j, none⟩).isSome = true := by
            intro j hj
            rw [r1.1] at hj
            have hst : 0 < st := by
              rcases Nat.eq_zero_or_pos st with e | e
              · subst e; simp at hj
              · exact e
            obtain ⟨u, hu⟩ := hcell (j / st) (j % st) ((Nat.div_lt_iff_lt_mul hst).2 hj) (Nat.mod_lt _ hst)
            rw [Nat.div_add_mod'] at hu
            rw [hu]; rfl
          refine ⟨us, r1.1, r1.one, fun j u hu => ?_, hin, fun j i c hj hc => ?_⟩
          · rw [at_add, ← Nat.add_assoc]; exact r2 j u hu
          · obtain ⟨c0, d0, k1, k2, k3⟩ := o3 i c hc
            have hi : i < st := by have := nthc_lt k1; omega
            rw [k3 j, o1, e3]
            by_cases hjk : d.ix ≤ j ∧ j < d.ix + k
            · rw [if_pos hjk]
              obtain ⟨u, hu, hv⟩ := r1.2 (j - d.ix) i (by omega) hi
              have hlt := (List.getElem?_eq_some_iff.1 hu).1
              have := World.cell?_setCells_in rb.blk us (rb.base + pos d) w hin _ hlt
              have he : rb.base + pos d + ((j - d.ix) * st + i) = rb.base + (j * st + i) := by
                rw [hpos, Nat.add_assoc, ← Nat.add_assoc (d.ix * st), ← Nat.add_mul, show d.ix + (j - d.ix) = j by omega]
              rw [he] at this
              rw [List.getElem?_eq_getElem hlt] at hu
              cases hu
              refine ⟨_, this, ?_⟩
              simp only [colsAt, k2] at hv
              exact hv
            · rw [if_neg hjk]
              obtain ⟨u, hu, hv⟩ := q2 j i c0 hj k1
              rw [e3] at hu
              refine ⟨u, ?_, hv⟩
              rw [World.cell?_setCells_out rb.blk us (rb.base + pos d) w _ (fun _ _ => by
                simp only
                rw [hpos, r1.1]
                rcases Nat.lt_or_ge j d.ix with h5 | h5
                · have : (j + 1) * st ≤ d.ix * st := Nat.mul_le_mul_right _ h5
                  rw [Nat.add_mul] at this; omega
                · have : (d.ix + k) * st ≤ j * st := Nat.mul_le_mul_right _ (by omega)
                  rw [Nat.add_mul] at this; omega)]
              exact hu
      · exact h.elim
    · exact h.elim
  · exact h.elim
theorem cpyA_ok {H : Heap} {fr st : Nat} {d s : PA} {m k : Nat} {K : Kon} (h : cpyA cond H fr st d s m k K) : ∃ b, K (.int .i64 k) (hput H d.nm (true, b)) fr ∧ CpOk H st d s m k b := by
  unfold cpyA at h
  split at h
  · rename_i cs hh
    split at h
    · rename_i r hst hsrc
      have e1 := Nat.eq_of_beq_eq_true hst
      unfold srcList at hsrc
      split at hsrc
      · rename_i hst2
        have e2 := Nat.eq_of_beq_eq_true hst2
        have hlen := listOf_len hsrc
        rw [e2] at hlen
        split at h
        · rename_i cs' h1 h2
          obtain ⟨s1, s2, s3⟩ := splice_spec h1
          refine ⟨_, h, _, hh, by simp, fun σ w hs => ⟨fun h0 rb hr => ?_, fun rb rs hkm hr hr2 => ?_⟩⟩
          · obtain ⟨q1, q2, q3⟩ := hs.ent _ _ hh (by simp) rb hr
            intro i v hi
            have := s3 i
            rw [hi, hlen, h0, Nat.zero_mul, if_neg (by omega)] at this
            exact q2 i v this.symm
          · obtain ⟨q1, q2, q3⟩ := hs.ent _ _ hh (by simp) rb hr
            obtain ⟨q4, q5, q6⟩ := q3 rfl
            obtain ⟨us, u1, u2, u3, u4⟩ := (listOf_ok hsrc).2 σ w rs hs hr2
            rw [e2] at u2
            have hc : ∀ j, j < us.length → (w.cell? ⟨rb.blk, rb.base + pos d + j, none⟩).isSome = true := fun j hj => by
              have : pos d + j < len cs := by
                rcases s2 with rfl | s2
                · simp [len] at hlen; omega
                · omega
              obtain ⟨v, hv'⟩ := nth_some this
              obtain ⟨u, hu, _⟩ := q2 _ _ hv'
              rw [← Nat.add_assoc] at hu
              simp [hu]
            refine ⟨us, u2, u3, fun j u hu => ?_, hc, fun i v hi => ?_⟩
            · rw [at_add]; exact u4 j u hu
            · have hi2 := s3 i
              rw [hi] at hi2
              by_cases hin : pos d ≤ i ∧ i < pos d + len r
              · rw [if_pos hin] at hi2
                obtain ⟨u, hu, hvu⟩ := u1.get hi2.symm
                have hlt : i - pos d < us.length := by omega
                have := World.cell?_setCells_in rb.blk us (rb.base + pos d) w hc (i - pos d) hlt
                rw [show rb.base + pos d + (i - pos d) = rb.base + i by omega] at this
                rw [List.getElem?_eq_getElem hlt] at hu
                cases hu
                exact ⟨_, this, hvu, u3 _ (List.getElem_mem hlt)⟩
              · rw [if_neg hin] at hi2
                rw [World.cell?_setCells_out rb.blk us (rb.base + pos d) w _ (fun _ _ => by simp only; omega)]
                exact q2 _ _ hi2.symm
        · exact h.elim
      · cases hsrc
    · exact h.elim
  · exact cpyC_ok h
theorem cntOf_none {σ : Sg} {v : PV} {u : Value} (h : cntOf v = some none) (hv : VR σ v u) : ∃ A c, u = .slice A 0 c := by
  unfold cntOf at h
  split at h
  · cases hv; exact ⟨_, _, rfl⟩
  · cases hv; exact ⟨_, _, rfl⟩
  · cases hv; exact ⟨_, _, rfl⟩
  · split at h
    · cases h
    · cases h
theorem cntOf_some {σ : Sg} {v : PV} {u : Value} {a : PA} {n : Nat} (h : cntOf v = some (some (a, n))) (hv : VR σ v u) : ∃ A c, u = .slice A n c ∧ (0 < n → ∃ rb, σ a.nm = some rb ∧ A = some (a.at rb)) := by
  unfold cntOf at h
  split at h
  · cases h
  · cases h
  · cases h
  · split at h
    · rename_i x hx
      cases h
      obtain ⟨A, c, h1, h2, h3⟩ := span_ok hx hv
      exact ⟨A, c, h1, h3⟩
    · cases h
section
variable {P : Program}
theorem run_copy {w w' : World} {t ty e : TypeId} {J : TypeInfo} {ts : Array TypeId} (h0 : ts[0]? = some t) (ht : P.underlying t = some (.slice e)) (hi : P.info? e = some J) {A B : Option Addr} {n m c c' : Nat} {us : List Value}
    (hfc : (Builtin.firstCells J.size (Nat.min m n) (.slice B m c')).run P w = .ok us.toArray w) (hst : ∀ a, A = some a → (storeCells a us).run P w = .ok () w') (hn : A = none → w' = w) :
    (Builtin.copy_ ts ty #[.slice A n c, .slice B m c']).run P w = .ok (goInt (Nat.min m n)) w' := by
  cases A with
  | none =>
    cases hn rfl
    simp [Builtin.copy_, h0, run_underlying ht, Builtin.lenOf, sizeOf, typeInfo, hi, hfc]
  | some a =>
    simp [Builtin.copy_, h0, run_underlying ht, Builtin.lenOf, sizeOf, typeInfo, hi, hfc, hst a rfl]
theorem firstCells_zero {w : World} {B : Option Addr} {sz m c : Nat} : (Builtin.firstCells sz 0 (.slice B m c)).run P w = .ok #[] w := by
  cases B with
  | none => simp [Builtin.firstCells]
  | some b => simp [Builtin.firstCells, loadCells, loadCellsFrom]
theorem cpy_ok {H : Heap} {fr : Nat} {t e : TypeId} {J : TypeInfo} {s d : PV} {K : Kon} (hN : Names H fr) (ht : P.underlying t = some (.slice e)) (hi : P.info? e = some J)
    (h : cpy cond H fr J.size d s K) : ∃ v H', K v H' fr ∧ Grow H H' fr fr ∧ ∀ σ w dv sv ty ts, (ts : Array TypeId)[0]? = some t → Sim σ w H → VR σ d dv → VR σ s sv →
      ∃ v' w', (Builtin.copy_ ts ty #[dv, sv]).run P w = .ok v' w' ∧ Out σ w H fr v H' fr σ w' v' := by
  unfold cpy at h
  split at h
  · rename_i x hd hs
    refine ⟨_, _, h, Grow.refl _ _, fun σ w dv sv ty ts h0 hsim hdv hsv => ?_⟩
    obtain ⟨A, c, rfl⟩ := cntOf_none hd hdv
    have : ∃ B m c', sv = .slice B m c' := by
      cases x with
      | none => obtain ⟨B, c', h⟩ := cntOf_none hs hsv; exact ⟨_, _, _, h⟩
      | some x => obtain ⟨B, c', h, _⟩ := cntOf_some (a := x.1) (n := x.2) hs hsv; exact ⟨_, _, _, h⟩
    obtain ⟨B, m, c', rfl⟩ := this
    refine ⟨goInt 0, w, ?_, Out.same hsim (.int _ _)⟩
    have hm : Nat.min m 0 = 0 := Nat.min_zero m
    have := run_copy (P := P) (w := w) (w' := w) (ty := ty) (A := A) (c := c) (us := []) h0 ht hi (n := 0) (m := m) (B := B) (c' := c') (by rw [hm]; exact firstCells_zero) (fun a _ => rfl) (fun _ => rfl)
    rw [hm] at this
    exact this
  · rename_i x _ hd hs
    refine ⟨_, _, h, Grow.refl _ _, fun σ w dv sv ty ts h0 hsim hdv hsv => ?_⟩
    obtain ⟨B, c', rfl⟩ := cntOf_none hs hsv
    have : ∃ A n c, dv = .slice A n c := by
      cases x with
      | none => obtain ⟨B, c', h⟩ := cntOf_none hd hdv; exact ⟨_, _, _, h⟩
      | some x => obtain ⟨B, c', h, _⟩ := cntOf_some (a := x.1) (n := x.2) hd hdv; exact ⟨_, _, _, h⟩
    obtain ⟨A, n, c, rfl⟩ := this
    refine ⟨goInt 0, w, ?_, Out.same hsim (.int _ _)⟩
    have hm : Nat.min 0 n = 0 := Nat.zero_min n
    have := run_copy (P := P) (w := w) (w' := w) (ty := ty) (A := A) (c := c) (us := []) h0 ht hi (n := n) (m := 0) (B := B) (c' := c') (by rw [hm]; exact firstCells_zero) (fun a _ => rfl) (fun _ => rfl)
    rw [hm] at this
    exact this
  · rename_i a n b m hd hs
    obtain ⟨blk, hk, b0, hg, hd0, hC⟩ := cpyA_ok h
    refine ⟨_, _, hk, Grow.put H a.nm blk true fr fr (Nat.le_refl _) (hN _ _ hg) (.inl rfl) (.inr ⟨_, hg⟩), fun σ w dv sv ty ts h0 hsim hdv hsv => ?_⟩
    obtain ⟨A, c, rfl, hA⟩ := cntOf_some hd hdv
    obtain ⟨B, c', rfl, hB⟩ := cntOf_some hs hsv
    obtain ⟨hC0, hC1⟩ := hC σ w hsim
    have hmn : Nat.min m n = min n m := Nat.min_comm m n
    rcases Nat.eq_zero_or_pos (min n m) with hz | hp
    · have := run_copy (P := P) (w := w) (w' := w) (ty := ty) (A := A) (c := c) (us := []) h0 ht hi (n := n) (m := m) (B := B) (c' := c') (by rw [hmn, hz]; exact firstCells_zero) (fun a _ => rfl) (fun _ => rfl)
      rw [hmn] at this
      exact ⟨_, w, this, out_upd0 hsim hg hd0 (hC0 hz) (.int _ _)⟩
    · obtain ⟨rb, hr, rfl⟩ := hA (by omega)
      obtain ⟨rs, hr2, rfl⟩ := hB (by omega)
      obtain ⟨us, u1, u2, u3, u4, u5⟩ := hC1 rb rs (by omega) hr hr2
      obtain ⟨q1, q2, q3⟩ := hsim.ent _ _ hg hd0 rb hr
      obtain ⟨q4, q5, q6⟩ := q3 rfl
      have := run_copy (P := P) (w := w) (w' := w.setCells rb.blk (rb.base + pos a) us) (ty := ty) (A := some (a.at rb)) (c := c) (us := us) h0 ht hi (n := n) (m := m) (B := some (b.at rs)) (c' := c')
        (by rw [hmn]; exact run_firstCells_some (P := P) w J.size (min n m) (b.at rs) m c' us u1 u3) (fun a' ha => by cases ha; exact run_store_cells q4 u4 q5 u2) (fun h => by cases h)
      rw [hmn] at this
      refine ⟨_, _, this, out_upd hsim hg hd0 hr (streams_setCells _ _ _ _) (size_setCells _ _ _ _) (fun k hk => heap_setCells _ _ _ _ _ hk) ?_ (.int _ _)⟩
      exact ent_setCells (hsim.ent _ _ hg) hd0 hr u4 u5
  · exact h.elim
end
end Go.Ev
