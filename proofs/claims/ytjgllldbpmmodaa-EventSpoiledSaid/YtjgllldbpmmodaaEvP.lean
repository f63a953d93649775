/-
  An operation of the reckoner, whole.
-/
import Derived.Test.YtjgllldbpmmodaaEvO9
namespace Go.Ev
open Go.RowKit
set_option linter.unusedSimpArgs false

def OpR (P : Program) (o : Oper) (T : Tmps) (H : Heap) (fr : Nat) (v : PV) (H' : Heap) (fr' : Nat) : Prop :=
  ∀ σ w (a : Act) next Q, (∀ x ∈ o.op.operands, VR σ (ev T x) (a.eval x)) → Sim σ w H → NoneIn σ fr fr' → (∀ σ' w' v', Out σ w H fr v H' fr' σ' w' v' → next (a.put o.dst v') w') → o.wp P a w next Q
def Step (P : Program) (o : Oper) (T : Tmps) (H : Heap) (fr : Nat) (K : Kon) : Prop := ∃ v H' fr', K v H' fr' ∧ Grow H H' fr fr' ∧ OpR P o T H fr v H' fr'
def CallR (P : Program) (f : FuncId) (args : List PV) (H : Heap) (fr : Nat) (v : PV) (H' : Heap) (fr' : Nat) : Prop :=
  ∀ σ w (vals : Array Value), VRs σ args vals.toList → Sim σ w H → NoneIn σ fr fr' → Calls P f vals w fun e w' => ∃ v' σ', e = .returned v' ∧ Out σ w H fr v H' fr' σ' w' v'
def HandOk (P : Program) (X : Handler) : Prop := ∀ f args H fr K, H ≠ [] → Names H fr → X f args H fr K → ∃ v H' fr', K v H' fr' ∧ Grow H H' fr fr' ∧ CallR P f args H fr v H' fr' ∧ ∃ F, P.funcs[f]? = some F ∧ F.body.isSome = true ∧ (F.name == "runtime.NumGoroutine") = false

section
variable {P : Program}
theorem wp_value {o : Oper} {a : Act} {w w' : World} {next : Act → World → Prop} {Q : Exit → Act → World → Prop} {v : Value} (h : (execOp a.eval o).run P w = .ok (.value v) w') (k : next (a.put o.dst v) w') : o.wp P a w next Q := by
  unfold Oper.wp
  rw [h]
  exact k
theorem wp_skip' {o : Oper} {a : Act} {w w' : World} {next : Act → World → Prop} {Q : Exit → Act → World → Prop} (h : (execOp a.eval o).run P w = .ok .skip w') (k : next (a.put o.dst undef) w') : o.wp P a w next Q := by
  unfold Oper.wp
  rw [h]
  exact k
theorem step_pure {o : Oper} {T : Tmps} {H : Heap} {fr : Nat} {r : PV} {K : Kon} (hk : K r H fr) (h : ∀ σ w (a : Act), (∀ x ∈ o.op.operands, VR σ (ev T x) (a.eval x)) → ∃ y, (execOp a.eval o).run P w = .ok (.value y) w ∧ VR σ r y) : Step P o T H fr K :=
  ⟨r, H, fr, hk, Grow.refl _ _, fun σ w a next Q ha hs _ hn => by
    obtain ⟨y, h1, h2⟩ := h σ w a ha
    exact wp_value h1 (hn σ w y (Out.same hs h2))⟩

variable {E : Env} (ok : EnvOk P E)
theorem minl_ok {σ : Sg} {w : World} {xs : List PV} {us : Array Value} {v : PV} (h : minl xs = some v) (hx : VRs σ xs us.toList) (ts : Array TypeId) (ty : TypeId) : ∃ y, (Builtin.min_ ts ty us).run P w = .ok y w ∧ VR σ v y := by
  have e : us = us.toList.toArray := by simp
  rw [e]
  generalize us.toList = l at hx
  unfold minl at h
  split at h
  · cases h
    cases hx with | cons _ _ _ _ h1 hl => cases hl; cases h1; exact ⟨_, by simp [Builtin.min_], .int _ _⟩
  · split at h
    · rename_i hk
      cases keq_eq hk
      cases h
      cases hx with | cons _ _ _ _ h1 hl => cases hl with | cons _ _ _ _ h2 hl => cases hl; cases h1; cases h2; exact ⟨_, by simp [Builtin.min_, Builtin.min2]; rfl, by rw [show ∀ a b : Int, (if b < a then b else a) = min a b from fun a b => by omega]; exact .int _ _⟩
    · cases h
  · split at h
    · rename_i h1 h2
      cases keq_eq h1
      cases keq_eq h2
      cases h
      cases hx with | cons _ _ _ _ h1 hl => cases hl with | cons _ _ _ _ h2 hl => cases hl with | cons _ _ _ _ h3 hl => cases hl; cases h1; cases h2; cases h3; exact ⟨_, by simp [Builtin.min_, Builtin.min2]; rfl, by simp only [show ∀ a b : Int, (if b < a then b else a) = min a b from fun a b => by omega]; exact .int _ _⟩
    · cases h
  · cases h
theorem maxl_ok {σ : Sg} {w : World} {xs : List PV} {us : Array Value} {v : PV} (h : maxl xs = some v) (hx : VRs σ xs us.toList) (ts : Array TypeId) (ty : TypeId) : ∃ y, (Builtin.max_ ts ty us).run P w = .ok y w ∧ VR σ v y := by
  have e : us = us.toList.toArray := by simp
  rw [e]
  generalize us.toList = l at hx
  unfold maxl at h
  split at h
  · cases h
    cases hx with | cons _ _ _ _ h1 hl => cases hl; cases h1; exact ⟨_, by simp [Builtin.max_], .int _ _⟩
  · split at h
    · rename_i hk
      cases keq_eq hk
      cases h
      cases hx with | cons _ _ _ _ h1 hl => cases hl with | cons _ _ _ _ h2 hl => cases hl; cases h1; cases h2; exact ⟨_, by simp [Builtin.max_, Builtin.max2]; rfl, by rw [show ∀ a b : Int, (if b > a then b else a) = max a b from fun a b => by omega]; exact .int _ _⟩
    · cases h
  · split at h
    · rename_i h1 h2
      cases keq_eq h1
      cases keq_eq h2
      cases h
      cases hx with | cons _ _ _ _ h1 hl => cases hl with | cons _ _ _ _ h2 hl => cases hl with | cons _ _ _ _ h3 hl => cases hl; cases h1; cases h2; cases h3; exact ⟨_, by simp [Builtin.max_, Builtin.max2]; rfl, by simp only [show ∀ a b : Int, (if b > a then b else a) = max a b from fun a b => by omega]; exact .int _ _⟩
    · cases h
  · cases h
theorem lenOf_ok {σ : Sg} {w : World} {t : TypeId} {x : PV} {u : Value} {n : Int} (h : lenOf (mkTy P t).d x = some n) (hx : VR σ x u) (ts : Array TypeId) (ht : ts[0]? = some t) (ty : TypeId) : (Builtin.len_ ts ty #[u]).run P w = .ok (.int .i64 n) w := by
  unfold lenOf at h
  split at h
  case h_9 => cases h
  all_goals
    rename_i hd
    cases h
  · have hu := mkD_string ((dOf (by simp [hd])).symm.trans hd)
    cases hx
    simp [Builtin.len_, ht, run_underlying hu, goInt]
  · have hu := mkD_array ((dOf (by simp [hd])).symm.trans hd)
    simp [Builtin.len_, ht, run_underlying hu, goInt]
  all_goals
    have hu := mkD_slice ((dOf (by simp [hd])).symm.trans hd)
    cases hx <;> simp [Builtin.len_, ht, run_underlying hu, goInt]

theorem capOf_ok {σ : Sg} {w : World} {t : TypeId} {x : PV} {u : Value} {n : Int} (h : capOf (mkTy P t).d x = some n) (hx : VR σ x u) (ts : Array TypeId) (ht : ts[0]? = some t) (ty : TypeId) : (Builtin.cap_ ts ty #[u]).run P w = .ok (.int .i64 n) w := by
  unfold capOf at h
  split at h
  case h_2 => cases h
  rename_i hd
  cases h
  have hu := mkD_slice ((dOf (by simp [hd])).symm.trans hd)
  cases hx
  simp [Builtin.cap_, ht, run_underlying hu, goInt]

theorem rep_add (z : List PV) (a b : Nat) : rep z (a + b) = rep z a ++ rep z b := by
  induction a with
  | zero => simp [rep]
  | succ a ih => rw [Nat.succ_add]; simp only [rep, ih, List.append_assoc]
theorem nth_append : ∀ {l m : List PV} {i : Nat} {v : PV}, nth l i = some v → nth (l ++ m) i = some v
  | [], m, i, v, h => by simp [nth] at h
  | _ :: l, m, 0, v, h => h
  | _ :: l, m, i + 1, v, h => by simp only [nth] at h; exact nth_append (l := l) h
theorem get_rep {σ : Sg} {z : List PV} {zs : List Value} (hz : VRs σ z zs) (ho : ones z = true) : ∀ {n j i : Nat}, j < n → i < len z → ∃ u, ((List.replicate n zs).flatten)[j * len z + i]? = some u ∧ VR1 σ (nthd z i) u
  | 0, j, i, h, _ => absurd h (by omega)
  | n + 1, 0, i, h, hi => by
    obtain ⟨v, hv⟩ := nth_some hi
    obtain ⟨u, h1, h2⟩ := hz.get hv
    refine ⟨u, ?_, by simp only [nthd, hv]; exact ⟨h2, ones_cell hz ho u (List.mem_of_getElem? h1)⟩⟩
    rw [List.replicate_succ, List.flatten_cons, Nat.zero_mul, Nat.zero_add, List.getElem?_append_left (by rw [hz.length]; exact hi)]
    exact h1
  | n + 1, j + 1, i, h, hi => by
    obtain ⟨u, h1, h2⟩ := get_rep hz ho (n := n) (j := j) (by omega) hi
    refine ⟨u, ?_, h2⟩
    rw [List.replicate_succ, List.flatten_cons, List.getElem?_append_right (by rw [hz.length, Nat.add_mul]; omega), hz.length]
    rw [Nat.add_mul, Nat.one_mul, show j * len z + len z + i - len z = j * len z + i by omega]
    exact h1

include ok
theorem elemT_ok {t e : TypeId} {j : TyI} (h : elemT E t = some (e, j)) : P.underlying t = some (.slice e) ∧ nthT E.ty e = some j ∧ j = mkTy P e := by
  unfold elemT at h
  split at h
  · rename_i i hi
    have e1 := ok.ty t i hi
    subst e1
    split at h
    · rename_i e' hd
      split at h
      · rename_i j' hj
        simp only [Option.some.injEq, Prod.mk.injEq] at h
        obtain ⟨rfl, rfl⟩ := h
        exact ⟨mkD_slice ((dOf (by simp [hd])).symm.trans hd), hj, ok.ty _ _ hj⟩
      · cases h
    · cases h
  · cases h
theorem oMake_ok {sy : Bool} {H : Heap} {fr : Nat} {t : TypeId} {l c : PV} {K : Kon} (h : oMake cond E sy H fr t l c K) : ∃ v H' fr', K v H' fr' ∧ Grow H H' fr fr' ∧ ∀ σ w lu cu, Sim σ w H → NoneIn σ fr fr' → VR σ l lu → VR σ c cu →
    ∃ v' σ' w', (Instr.makeSlice t lu cu).run P w = .ok v' w' ∧ Out σ w H fr v H' fr' σ' w' v' := by
  unfold oMake at h
  split at h
  · rename_i e j n m he
    obtain ⟨ht, hj, rfl⟩ := elemT_ok ok he
    split at h
    · exact h.elim
    rename_i z hz
    obtain ⟨J, hJ, hsz, hby, hzJ, -⟩ := mk_info_z hz
    obtain ⟨zv, hzv, hz1, hzr⟩ := mkZ_ok hzJ
    split at h
    · rename_i q1 q2 q3
      obtain ⟨hb, h⟩ := cond_t h
      have hb : 0 ≤ n ∧ n ≤ m ∧ m ≤ (most : Int) := by simpa using hb
      have hl := Nat.eq_of_beq_eq_true q1
      rw [hsz] at hl
      have hzs : zv.cells.size = J.size := by
        have := (hzr fun _ => none).length
        rw [← hl, ← this]
        rfl
      have h0 : 0 < J.size := by rw [← hsz]; simpa [Nat.blt_eq] using q2
      have hbb : J.bytes < 4097 := by rw [← hby]; simpa [Nat.blt_eq] using q3
      have hm : m ≤ 1000000 := hb.2.2
      have hbytes : (J.bytes : Int) * m ≤ 281474976710656 := by
        have : (J.bytes : Int) * m ≤ 4096 * 1000000 := Int.mul_le_mul (by omega) hm (by omega) (by omega)
        omega
      have hrun : ∀ w, (Instr.makeSlice t (.int .i64 n) (.int .i64 m)).run P w = .ok (.slice (some ⟨w.heap.size, 0, none⟩) n.toNat m.toNat) (w.alloc (.cells (madeCells zv.cells (m.toNat * J.size)) e)) := fun w =>
        run_make w t e J zv ht hJ hzv .i64 .i64 n m hb.1 hb.2.1 hbytes (by omega)
      have hvals : (madeCells zv.cells (m.toNat * J.size)).toList = (List.replicate m.toNat zv.cells.toList).flatten := by
        unfold madeCells
        rw [← hzs]
        exact made_eq zv.cells m.toNat (by omega)
      have hsize : (madeCells zv.cells (m.toNat * J.size)).size = m.toNat * J.size := by simp [madeCells]
      -- any block that says of the first elements what they are
      have gen : ∀ b, (∀ (σ : Sg) (w : World), BlkR σ (w.alloc (.cells (madeCells zv.cells (m.toNat * J.size)) e)) ⟨w.heap.size, 0, m.toNat * J.size⟩ b) → K (.own fr J.size n.toNat) (hput H fr (true, b)) (fr + 1) →
          ∃ v H' fr', K v H' fr' ∧ Grow H H' fr fr' ∧ ∀ σ w lu cu, Sim σ w H → NoneIn σ fr fr' → VR σ (.int .i64 n) lu → VR σ (.int .i64 m) cu → ∃ v' σ' w', (Instr.makeSlice t lu cu).run P w = .ok v' w' ∧ Out σ w H fr v H' fr' σ' w' v' := fun b hbk hk => by
        refine ⟨_, _, _, hk, Grow.put _ _ _ _ _ _ (by omega) (by omega) (.inl rfl) (.inl (by omega)), fun σ w lu cu hs hn h1 h2 => ?_⟩
        cases h1
        cases h2
        exact ⟨_, _, _, hrun w, out_new _ e (m.toNat * J.size) hs hn (by rw [hsize]; exact Nat.le_refl _) (hbk _ _) (.own fr J.size n.toNat ⟨w.heap.size, 0, m.toNat * J.size⟩ m.toNat (sset_same _ _ _) rfl (by omega) (Nat.le_refl _))⟩
      rw [hsz] at h
      have hcell : ∀ (w : World) (p : Nat), (w.alloc (.cells (madeCells zv.cells (m.toNat * J.size)) e)).cell? ⟨w.heap.size, p, none⟩ = ((List.replicate m.toNat zv.cells.toList).flatten)[p]? := fun w p => by
        rw [cell_alloc_new, ← hvals]
        simp
      have hrow : ∀ σ (w : World) j i, j < n.toNat → i < J.size → ∃ u, (w.alloc (.cells (madeCells zv.cells (m.toNat * J.size)) e)).cell? ⟨w.heap.size, j * J.size + i, none⟩ = some u ∧ VR1 σ (nthd z i) u := fun σ w j i hj hi => by
        rw [← hl] at hi
        obtain ⟨u, h1, h2⟩ := get_rep (hzr σ) hz1 (n := m.toNat) (j := j) (by omega) hi
        rw [hl] at h1
        exact ⟨u, (hcell w _).trans h1, h2⟩
      unfold oMake2 at h
      split at h
      · refine gen _ (fun σ w => ?_) h
        intro i v hi
        have hp : nth (rep z m.toNat) i = some v := by
          rw [show m.toNat = n.toNat + (m.toNat - n.toNat) by omega, rep_add]
          exact nth_append hi
        have hr := rep_ok (hzr σ) m.toNat
        obtain ⟨u, h1, h2⟩ := hr.get hp
        refine ⟨u, by rw [Nat.zero_add, hcell]; exact h1, h2, ?_⟩
        have hmem := List.mem_of_getElem? h1
        obtain ⟨l', hl', hu⟩ := List.mem_flatten.1 hmem
        rw [List.eq_of_mem_replicate hl'] at hu
        exact ones_cell (hzr σ) hz1 u hu
      · split at h
        · rename_i cs hcs
          refine gen _ (fun σ w => ?_) h
          obtain ⟨q1, _⟩ := colsOf_ok (σ := fun _ => none) hcs
          intro j i c hj hi
          have hil : i < J.size := by have := nthc_lt hi; omega
          obtain ⟨u, h1, h2⟩ := hrow σ w j i hj hil
          obtain ⟨v, hv⟩ := nth_some (cs := z) (i := i) (by omega)
          obtain ⟨d, hd, hd2⟩ := (colsOf_ok (σ := σ) hcs).2 i v hv
          rw [hi] at hd
          cases hd
          refine ⟨u, by simp only [Nat.zero_add]; rw [q1, hl]; exact h1, ?_⟩
          simp only [nthd, hv] at h2
          exact hd2 j u h2
        · refine gen _ (fun σ w => ?_) h
          intro j i hj hi
          obtain ⟨u, h1, h2⟩ := hrow σ w j i hj hi
          refine ⟨u, ?_, h2⟩
          simp only [Nat.zero_add]
          rw [pos_eq]
          simp only
          rw [Nat.add_comm i]
          exact h1
    · exact h.elim
  · exact h.elim
theorem oBuildSlice_ok {H : Heap} {fr : Nat} {t : TypeId} {n : Nat} {ps : List (Nat × PV)} {K : Kon} (h : oBuildSlice E H fr t n ps K) : ∃ v H' fr', K v H' fr' ∧ Grow H H' fr fr' ∧ ∀ σ w (qs : Array (Nat × Value)), Sim σ w H → NoneIn σ fr fr' → PRs σ ps qs.toList →
    ∃ v' σ' w', (Instr.buildSlice t n qs).run P w = .ok v' w' ∧ Out σ w H fr v H' fr' σ' w' v' := by
  unfold oBuildSlice at h
  split at h
  · exact h.elim
  rename_i e j he
  obtain ⟨ht, hj, rfl⟩ := elemT_ok ok he
  split at h
  · exact h.elim
  rename_i z hz
  obtain ⟨J, hJ, hsz, hby, hzJ, -⟩ := mk_info_z hz
  obtain ⟨zv, hzv, hz1, hzr⟩ := mkZ_ok hzJ
  split at h
  · rename_i q1 q2 q3
    split at h
    · rename_i cs hcs
      have hl := Nat.eq_of_beq_eq_true q1
      rw [hsz] at hl q2 q3 hcs h
      have h0 : 0 < J.size := by simpa [Nat.blt_eq] using q2
      have hbig : ¬ 16777216 < n * J.size := by
        have : n * J.size < 16777217 := by simpa [Nat.blt_eq] using q3
        omega
      have hzs : zv.cells.size = J.size := by
        have := (hzr fun _ => none).length
        rw [← hl, ← this]
        rfl
      cases ho : ones cs with
      | false => rw [ho] at h; exact h.elim
      | true =>
      rw [ho] at h
      refine ⟨_, _, _, h, Grow.put _ _ _ _ _ _ (by omega) (by omega) (.inl rfl) (.inl (by omega)), fun σ w qs hs hn hq => ?_⟩
      have hz0 : (zeroValue e).run P w = .ok zv w := by simp [zeroValue, typeInfo, hJ, hzv]
      have hbase : VRs σ (rep z n) ((Array.range (n * J.size)).map (zv.cells[· % zv.cells.size]!)).toList := by
        rw [← hzs, made_eq _ _ (by omega)]
        exact rep_ok (hzr σ) n
      obtain ⟨arr, a1, a2⟩ := fill_ok hq hbase hcs
      have hrun : (Instr.buildSlice t n qs).run P w = .ok (.slice (some ⟨w.heap.size, 0, none⟩) n n) (w.alloc (.cells arr e)) := by
        by_cases hn0 : n * J.size = 0
        · have : n = 0 := by
            rcases Nat.mul_eq_zero.1 hn0 with h | h
            · exact h
            · omega
          subst this
          have e0 : ∀ f : Nat → Value, (Array.range 0).map f = #[] := fun f => by apply Array.ext'; simp
          simp only [Nat.zero_mul, e0] at a1
          simp only [Instr.buildSlice, Sem.run_bind, run_underlying ht, run_size w hJ, Result.andThen_ok, Nat.zero_mul, e0]
          simp [a1, newRow]
        · simp [Instr.buildSlice, run_underlying ht, run_size w hJ, hbig, hn0, hz0, a1, newRow]
      have hlen : arr.size = n * J.size := by
        have h1 : arr.size = len cs := a2.length
        have h2 : ∀ (l : List (Nat × PV)) (c c' : List PV) (f : Nat → Option (Nat × Nat)), fillp f c l = some c' → len c' = len c := by
          intro l
          induction l with
          | nil => intro c c' f h; simp [fillp] at h; rw [h]
          | cons p l ih =>
            intro c c' f h
            obtain ⟨i, v⟩ := p
            unfold fillp at h
            split at h
            · split at h
              · split at h
                · rename_i c1 hs'
                  rw [ih _ _ _ h, (splice_spec hs').1]
                · cases h
              · cases h
            · cases h
        rw [h1, h2 _ _ _ _ hcs]
        have := hbase.length
        rw [← this]
        simp
      exact ⟨_, _, _, hrun, out_new arr e (n * J.size) hs hn (by omega) (blk_cells (a2.mono (sset_mono (hn fr (Nat.le_refl _) (by omega)))) ho) (.own fr J.size n ⟨w.heap.size, 0, n * J.size⟩ n (sset_same _ _ _) rfl (Nat.le_refl _) (Nat.le_refl _))⟩
    · exact h.elim
  · exact h.elim
end
end Go.Ev
