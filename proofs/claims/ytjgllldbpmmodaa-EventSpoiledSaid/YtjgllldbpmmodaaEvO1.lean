/-
  What the reckoner's operations on memory say of the model's: loads, stores, new variables.
-/
import Derived.Test.YtjgllldbpmmodaaEvR
import Derived.Laws.IdiomCopy
import Derived.Laws.Cells
import Derived.Laws.Entries
import Derived.Laws.Build
import Derived.WalkKit
namespace Go.Ev
open Go.RowKit

structure EnvOk (P : Program) (E : Env) : Prop where
  ty : ∀ t i, nthT E.ty t = some i → i = mkTy P t
  fs : ∀ f fn, nthFn E.fs f = some fn → ∃ F, P.funcs[f]? = some F ∧ F.body = some fn.body ∧ F.ntmps = fn.nt ∧ F.results.toList = fn.res ∧ (F.name == "runtime.NumGoroutine") = false

theorem cond_t {b : Bool} {x : Prop} (h : cond b x False) : b = true ∧ x := by
  cases b
  · exact h.elim
  · exact ⟨rfl, h⟩
theorem cond_f {b : Bool} {x : Prop} (h : cond b False x) : b = false ∧ x := by
  cases b
  · exact ⟨rfl, h⟩
  · exact h.elim

section
variable {P : Program}
theorem und_none {t : TypeId} (h : P.info? t = none) : P.underlying t = none := by unfold Program.underlying; rw [h]
theorem mk_info {t : TypeId} (h : (mkTy P t).d ≠ .other) : ∃ I, P.info? t = some I ∧ (mkTy P t).size = I.size ∧ (mkTy P t).bytes = I.bytes ∧ (mkTy P t).zero = mkZ I ∧ (mkTy P t).d = mkD P t := by
  unfold mkTy at *
  cases hi : P.info? t with
  | none => rw [hi] at h; exact absurd rfl h
  | some I => exact ⟨I, rfl, rfl, rfl, rfl, rfl⟩
theorem mk_info_z {t : TypeId} {z : List PV} (h : (mkTy P t).zero = some z) : ∃ I, P.info? t = some I ∧ (mkTy P t).size = I.size ∧ (mkTy P t).bytes = I.bytes ∧ mkZ I = some z ∧ (mkTy P t).d = mkD P t := by
  unfold mkTy at *
  cases hi : P.info? t with
  | none => rw [hi] at h; cases h
  | some I => rw [hi] at h; exact ⟨I, rfl, rfl, rfl, h, rfl⟩
theorem mkD_int {t : TypeId} {k : IntKind} (h : mkD P t = .int k) : P.underlying t = some (.int k) := by
  unfold mkD at h
  split at h <;> simp_all
theorem mkD_string {t : TypeId} (h : mkD P t = .string) : P.underlying t = some .string := by
  unfold mkD at h
  split at h <;> simp_all
theorem mkD_bool {t : TypeId} (h : mkD P t = .bool) : P.underlying t = some .bool := by
  unfold mkD at h
  split at h <;> simp_all
theorem mkD_ptr {t e : TypeId} (h : mkD P t = .ptr e) : P.underlying t = some (.pointer e) := by
  unfold mkD at h
  split at h <;> simp_all
theorem mkD_slice {t e : TypeId} (h : mkD P t = .slice e) : P.underlying t = some (.slice e) := by
  unfold mkD at h
  split at h <;> simp_all
theorem mkD_array {t e : TypeId} {n : Nat} (h : mkD P t = .array n e) : P.underlying t = some (.array n e) := by
  unfold mkD at h
  split at h <;> simp_all
theorem mkD_struct {t : TypeId} {fs : List (Nat × TypeId)} (h : mkD P t = .struct fs) : ∃ gs, P.underlying t = some (.struct gs) ∧ fs = gs.toList.map fun f => (f.offset, f.type) := by
  unfold mkD at h
  split at h <;> simp_all
theorem mkD_func {t : TypeId} (h : mkD P t = .func) : ∃ a b c, P.underlying t = some (.func a b c) := by
  unfold mkD at h
  split at h <;> simp_all

theorem run_isAgg (w : World) {t : TypeId} {b : Bool} (h : aggT (mkTy P t).d = some b) : (isAgg t).run P w = .ok b w := by
  obtain ⟨I, hi, -, -, -, hd⟩ := mk_info (P := P) (t := t) (by intro e; rw [e] at h; cases h)
  rw [hd] at h
  have : ∃ d, P.underlying t = some d ∧ (match d with | .struct _ | .array _ _ => true | _ => false) = b := by
    unfold mkD aggT at h
    cases hu : P.underlying t with
    | none => rw [hu] at h; cases h
    | some d => rw [hu] at h; cases d <;> simp_all
  obtain ⟨d, hu, hb⟩ := this
  subst hb
  cases d <;> simp [isAgg, run_underlying hu]
theorem run_size (w : World) {t : TypeId} {I : TypeInfo} (h : P.info? t = some I) : (sizeOf t).run P w = .ok I.size w := by
  simp [sizeOf, typeInfo, h]

theorem addc_eq (o x : Nat) : addc o x = o + x := by cases o <;> simp [addc]
theorem mulc_eq (x : Nat) : ∀ n, mulc x n = x * n
  | 0 => by simp [mulc]
  | 1 => by simp [mulc]
  | n + 2 => rfl
theorem pos_eq (a : PA) : pos a = a.off + a.ix * a.st := by
  unfold pos
  split
  · rename_i h; rw [h]; simp
  · rename_i h; rw [h, addc_eq, mulc_eq]

theorem add_at (b o k : Nat) : (⟨b, o, none⟩ : Addr).add k = ⟨b, o + k, none⟩ := by unfold Addr.add; split <;> simp_all
theorem at_add (rb : RB) (a : PA) (k : Nat) : (a.at rb).add k = ⟨rb.blk, rb.base + (pos a + k), none⟩ := by
  unfold PA.at
  rw [add_at]
  simp only [Nat.add_assoc]

/-- One cell. -/
theorem ldB_ok {b : Blk} {a : PA} {K : PV → Prop} (h : ldB cond b a K) : b ≠ .dead ∧ ∃ v, K v ∧ ∀ σ w rb, BlkR σ w rb b → ∃ u, w.cell? (a.at rb) = some u ∧ VR σ v u := by
  cases b with
  | dead => exact h.elim
  | cells cs =>
    simp only [ldB] at h
    cases hn : nth cs (pos a) with
    | none => rw [hn] at h; exact h.elim
    | some v => rw [hn] at h; exact ⟨by simp, v, h, fun σ w rb hb => let ⟨u, h1, h2⟩ := hb _ _ hn; ⟨u, h1, h2.1⟩⟩
  | rows st n F =>
    simp only [ldB] at h
    cases h1 : Nat.beq st a.st <;> cases h2 : Nat.blt a.off st <;> rw [h1, h2] at h <;> try exact h.elim
    obtain ⟨h3, hk⟩ := cond_t h
    refine ⟨by simp, _, hk, fun σ w rb hb => ?_⟩
    have e1 := Nat.eq_of_beq_eq_true h1
    have e2 : a.off < st := by simpa [Nat.blt_eq] using h2
    obtain ⟨u, this, hv⟩ := hb a.ix a.off (by simpa using h3) e2
    refine ⟨u, ?_, hv.1⟩
    unfold PA.at
    rw [pos_eq] at *
    simpa [e1] using this
  | ints k n f =>
    simp only [ldB] at h
    obtain ⟨h3, hk⟩ := cond_t h
    exact ⟨by simp, _, hk, fun σ w rb hb => ⟨_, hb _ (by simpa using h3), .int _ _⟩⟩
  | cols n cs =>
    simp only [ldB] at h
    split at h
    · rename_i c hc h1
      obtain ⟨h3, hk⟩ := cond_t h
      have e1 := Nat.eq_of_beq_eq_true h1
      refine ⟨by simp, _, hk, fun σ w rb hb => ?_⟩
      obtain ⟨u, h4, h5⟩ := hb a.ix a.off c (by simpa using h3) hc
      refine ⟨u, ?_, h5.1⟩
      unfold PA.at
      rw [pos_eq, e1, Nat.add_comm a.off]
      exact h4
    · exact h.elim
theorem ld_ok {H : Heap} {a : PA} {K : PV → Prop} (h : ld cond H a K) : ∃ v, K v ∧ ∀ σ w rb, Sim σ w H → σ a.nm = some rb → ∃ u, w.cell? (a.at rb) = some u ∧ VR σ v u := by
  unfold ld at h
  cases hh : hget H a.nm with
  | none => rw [hh] at h; exact h.elim
  | some e =>
    obtain ⟨wr, b⟩ := e
    rw [hh] at h
    obtain ⟨hd, v, hk, hv⟩ := ldB_ok h
    exact ⟨v, hk, fun σ w rb hs hr => hv σ w rb (hs.ent _ _ hh hd rb hr).2.1⟩
theorem lds_ok {b : Blk} : ∀ {n : Nat} {a : PA} {K : List PV → Prop}, lds cond b a n K → (n = 0 ∨ b ≠ .dead) ∧ ∃ vs, K vs ∧ len vs = n ∧ ∀ σ w rb, BlkR σ w rb b → ∃ us : List Value, VRs σ vs us ∧ us.length = n ∧ ∀ j u, us[j]? = some u → w.cell? ⟨rb.blk, rb.base + (pos a + j), none⟩ = some u
  | 0, a, K, h => ⟨.inl rfl, [], h, rfl, fun σ w rb _ => ⟨[], .nil, rfl, by simp⟩⟩
  | n + 1, a, K, h => by
    simp only [lds] at h
    obtain ⟨hd, v, hk, hv⟩ := ldB_ok h
    obtain ⟨_, vs, hk2, hl, hvs⟩ := lds_ok hk
    refine ⟨.inr hd, v :: vs, hk2, by simp [len, hl], fun σ w rb hb => ?_⟩
    obtain ⟨u, hu, hvu⟩ := hv σ w rb hb
    obtain ⟨us, h1, h2, h3⟩ := hvs σ w rb hb
    refine ⟨u :: us, .cons _ _ _ _ hvu h1, by simp [h2], fun j x hx => ?_⟩
    cases j with
    | zero => simp at hx; subst hx; exact hu
    | succ j =>
      simp at hx
      have := h3 j x hx
      rw [pos_eq] at *
      simp only at this
      rw [← this]
      congr 2
      omega
theorem cut_spec : ∀ {cs : List PV} {i n : Nat} {vs : List PV}, cut cs i n = some vs → len vs = n ∧ ∀ j, j < n → ∃ v, nth cs (i + j) = some v ∧ nth vs j = some v
  | [], 0, 0, vs, h => by simp [cut] at h; subst h; exact ⟨rfl, by simp⟩
  | [], 0, n + 1, vs, h => by simp [cut] at h
  | [], i + 1, n, vs, h => by simp [cut] at h
  | v :: l, 0, 0, vs, h => by simp [cut] at h; subst h; exact ⟨rfl, by simp⟩
  | v :: l, 0, n + 1, vs, h => by
    simp only [cut] at h
    cases hc : cut l 0 n with
    | none => rw [hc] at h; cases h
    | some r =>
      rw [hc] at h
      cases h
      obtain ⟨h1, h2⟩ := cut_spec hc
      refine ⟨by simp [len, h1], fun j hj => ?_⟩
      cases j with
      | zero => exact ⟨v, rfl, rfl⟩
      | succ j =>
        obtain ⟨x, h3, h4⟩ := h2 j (by omega)
        exact ⟨x, by simpa [nth] using h3, by simpa [nth] using h4⟩
  | v :: l, i + 1, n, vs, h => by
    simp only [cut] at h
    obtain ⟨h1, h2⟩ := cut_spec h
    refine ⟨h1, fun j hj => ?_⟩
    obtain ⟨x, h3, h4⟩ := h2 j hj
    exact ⟨x, by rw [show i + 1 + j = (i + j) + 1 by omega]; exact h3, h4⟩
/-- A list that is related cell by cell. -/
theorem vrs_of {σ : Sg} : ∀ (vs : List PV) (us : List Value), len vs = us.length → (∀ j v, nth vs j = some v → ∃ u, us[j]? = some u ∧ VR σ v u) → VRs σ vs us
  | [], [], _, _ => .nil
  | [], u :: us, h, _ => by simp [len] at h
  | v :: vs, [], h, _ => by simp [len] at h
  | v :: vs, u :: us, h, k => by
    obtain ⟨x, h1, h2⟩ := k 0 v rfl
    simp at h1
    subst h1
    exact .cons _ _ _ _ h2 (vrs_of vs us (by simpa [len] using h) fun j w hw => by simpa using k (j + 1) w hw)
theorem nth_lt : ∀ {cs : List PV} {i : Nat} {v : PV}, nth cs i = some v → i < len cs
  | [], i, v, h => by simp [nth] at h
  | _ :: l, 0, v, h => by simp [len]
  | _ :: l, i + 1, v, h => by simp only [nth] at h; have := nth_lt h; simp [len]; omega
theorem ldn_ok {H : Heap} {a : PA} {n : Nat} {K : List PV → Prop} (h : ldn cond H a n K) : ∃ vs, K vs ∧ len vs = n ∧ ∀ σ w rb, Sim σ w H → σ a.nm = some rb → ∃ us : List Value, VRs σ vs us ∧ us.length = n ∧ ∀ j u, us[j]? = some u → w.cell? ((a.at rb).add j) = some u := by
  unfold ldn at h
  cases hh : hget H a.nm with
  | none => rw [hh] at h; exact h.elim
  | some e =>
    obtain ⟨wr, b⟩ := e
    rw [hh] at h
    have gen : lds cond b a n K → ∃ vs, K vs ∧ len vs = n ∧ ∀ σ w rb, Sim σ w H → σ a.nm = some rb → ∃ us : List Value, VRs σ vs us ∧ us.length = n ∧ ∀ j u, us[j]? = some u → w.cell? ((a.at rb).add j) = some u := fun h => by
      obtain ⟨hd, vs, hk, hl, hv⟩ := lds_ok h
      refine ⟨vs, hk, hl, fun σ w rb hs hr => ?_⟩
      rcases hd with rfl | hd
      · cases vs with
        | nil => exact ⟨[], .nil, rfl, by simp⟩
        | cons => simp [len] at hl
      · obtain ⟨us, h1, h2, h3⟩ := hv σ w rb (hs.ent _ _ hh hd rb hr).2.1
        exact ⟨us, h1, h2, fun j u hu => by rw [at_add]; exact h3 j u hu⟩
    cases b with
    | cells cs =>
      simp only at h
      cases hc : cut cs (pos a) n with
      | none => rw [hc] at h; exact h.elim
      | some vs =>
        rw [hc] at h
        obtain ⟨h1, h2⟩ := cut_spec hc
        refine ⟨vs, h, h1, fun σ w rb hs hr => ?_⟩
        have hb : BlkR σ w rb (.cells cs) := (hs.ent _ _ hh (by simp) rb hr).2.1
        let us : List Value := (List.range n).map fun j => (w.cell? ⟨rb.blk, rb.base + (pos a + j), none⟩).getD undef
        have hus : ∀ j, j < n → ∃ v u, nth vs j = some v ∧ us[j]? = some u ∧ VR σ v u ∧ w.cell? ⟨rb.blk, rb.base + (pos a + j), none⟩ = some u := fun j hj => by
          obtain ⟨v, h3, h4⟩ := h2 j hj
          obtain ⟨u, hu, hvu⟩ := hb _ _ h3
          exact ⟨v, u, h4, by simp [us, hj, hu], hvu.1, hu⟩
        refine ⟨us, vrs_of _ _ (by simp [us, h1]) fun j v hv => ?_, by simp [us], fun j u hu => ?_⟩
        · obtain ⟨v', u, e1, e2, e3, e4⟩ := hus j (by have := nth_lt hv; omega)
          rw [hv] at e1
          cases e1
          exact ⟨u, e2, e3⟩
        · have hj : j < n := by have := (List.getElem?_eq_some_iff.1 hu).1; simpa [us] using this
          obtain ⟨v', u', e1, e2, e3, e4⟩ := hus j hj
          rw [hu] at e2
          cases e2
          rw [at_add]
          exact e4
    | rows st m F => exact gen h
    | ints k m f => exact gen h
    | cols m cs => exact gen h
    | dead => exact gen h

variable {E : Env} (ok : EnvOk P E)
include ok
theorem ldv_ok {t : TypeId} {H : Heap} {a : PA} {K : PV → Prop} (h : ldv cond E t H a K) : ∃ v, K v ∧ ∀ σ w rb, Sim σ w H → σ a.nm = some rb → ∃ u, (loadVar t (a.at rb)).run P w = .ok u w ∧ VR σ v u := by
  unfold ldv at h
  cases ht : nthT E.ty t with
  | none => rw [ht] at h; exact h.elim
  | some i =>
    rw [ht] at h
    have e := ok.ty t i ht
    subst e
    unfold ldT at h
    dsimp only at h
    cases ha : aggT (mkTy P t).d with
    | none => rw [ha] at h; exact h.elim
    | some b =>
      rw [ha] at h
      cases b with
      | true =>
        obtain ⟨I, hi, hsz, -, -, -⟩ := mk_info (P := P) (t := t) (by intro e; rw [e] at ha; cases ha)
        obtain ⟨vs, hk, hl, hv⟩ := ldn_ok h
        refine ⟨.agg vs, hk, fun σ w rb hs hr => ?_⟩
        obtain ⟨us, h1, h2, h3⟩ := hv σ w rb hs hr
        refine ⟨.agg us.toArray, ?_, .agg _ _ (by simpa using h1)⟩
        have hl := run_loadCells_list (P := P) w (a.at rb) us h3
        rw [h2, hsz] at hl
        simp [loadVar, run_isAgg w ha, run_size w hi, hl]
      | false =>
        obtain ⟨v, hk, hv⟩ := ld_ok h
        refine ⟨v, hk, fun σ w rb hs hr => ?_⟩
        obtain ⟨u, hu, hvu⟩ := hv σ w rb hs hr
        exact ⟨u, by simp [loadVar, run_isAgg w ha, hu], hvu⟩
end
end Go.Ev
