/-
  What the reckoner's operations on values say of the model's: equality, making slices, built-in functions.
-/
import Derived.Test.YtjgllldbpmmodaaEvO5
import Derived.Laws.Append
import Derived.Laws.MakeOwn
namespace Go.Ev
open Go.RowKit
set_option linter.unusedSimpArgs false

section
variable {P : Program} {E : Env} (ok : EnvOk P E)
include ok
omit ok in
theorem mk_eqok {t : TypeId} (h : (mkTy P t).eqok = true) : P.stoodInHeld t = false ∧ P.eqGuardType P.depth t = false ∧ plainNames P t = true := by
  unfold mkTy at h
  cases hi : P.info? t with
  | none => rw [hi] at h; cases h
  | some I => rw [hi] at h; simpa [and_assoc] using h
omit ok in
theorem dOf {t : TypeId} (h : (mkTy P t).d ≠ .other) : (mkTy P t).d = mkD P t := let ⟨_, _, _, _, _, h⟩ := mk_info h; h
omit ok in
theorem eq0_ok {σ : Sg} {w : World} {t : TypeId} {x y : PV} {u v : Value} {b : Bool} (h : eq0 (mkTy P t).d x y = some b) (hx : VR σ x u) (hy : VR σ y v) (d : Nat) : (Op.equalIn (d + 1) t u v).run P w = .ok b w := by
  unfold eq0 at h
  split at h
  case h_1 k0 k a k' c hd =>
    split at h
    · rename_i hk
      have := keq_eq hk
      subst this
      cases h
      cases hx
      cases hy
      exact run_equalIn_int w d t k _ _ _ (mkD_int ((dOf (by simp [hd])).symm.trans hd))
    · cases h
  case h_2 a c hd =>
    cases h
    cases hx
    cases hy
    exact run_equalIn_bool' w d t _ _ (mkD_bool ((dOf (by simp [hd])).symm.trans hd))
  case h_3 a c hd =>
    cases h
    cases hx
    cases hy
    exact run_equalIn_bool' w d t _ _ (mkD_bool ((dOf (by simp [hd])).symm.trans hd))
  case h_4 a c hd =>
    cases h
    cases hx
    cases hy
    exact run_equalIn_bool' w d t _ _ (mkD_bool ((dOf (by simp [hd])).symm.trans hd))
  case h_5 a c hd =>
    cases h
    cases hx
    cases hy
    exact run_equalIn_bool' w d t _ _ (mkD_bool ((dOf (by simp [hd])).symm.trans hd))
  case h_6 a c hd =>
    cases h
    cases hx
    cases hy
    exact run_equalIn_string w d t _ _ (mkD_string ((dOf (by simp [hd])).symm.trans hd))
  case h_18 => cases h
  all_goals
    cases h
    cases hx
    cases hy
    first
      | (have hu := mkD_slice ((dOf (by simp [‹(mkTy P t).d = _›])).symm.trans ‹(mkTy P t).d = _›); first | (simp [Op.equalIn, run_underlying hu]; done) | (rename_i A _ h; subst h; cases A <;> simp [Op.equalIn, run_underlying hu]; done))
      | (have hu := mkD_ptr ((dOf (by simp [‹(mkTy P t).d = _›])).symm.trans ‹(mkTy P t).d = _›); simp [Op.equalIn, run_underlying hu]; done)
      | (obtain ⟨_, _, _, hu⟩ := mkD_func ((dOf (by simp [‹(mkTy P t).d = _›])).symm.trans ‹(mkTy P t).d = _›); simp [Op.equalIn, run_underlying hu]; done)
def EqOk (P : Program) (d : Nat) (eq : TypeId → PV → PV → Option Bool) : Prop := ∀ σ w t x y u v b, eq t x y = some b → VR σ x u → VR σ y v → (Op.equalIn d t u v).run P w = .ok b w
theorem eqfs_ok {σ : Sg} {w : World} {d : Nat} {eq : TypeId → PV → PV → Option Bool} (he : EqOk P d eq) {xs ys : List PV} {us vs : Array Value} (hx : VRs σ xs us.toList) (hy : VRs σ ys vs.toList) :
    ∀ (fs : List Field) (b : Bool), (fs.all fun f => f.name != "_") = true → eqfs E eq (fs.map fun f => (f.offset, f.type)) xs ys = some b → (Op.eqFields d us vs fs).run P w = .ok b w
  | [], b, _, h => by simp [eqfs] at h; subst h; rfl
  | f :: l, b, hn, h => by
    simp only [List.map_cons, eqfs] at h
    simp only [List.all_cons, Bool.and_eq_true] at hn
    split at h
    · rename_i a c ha hc
      split at h
      · rename_i r s hr hs
        cases h
        obtain ⟨a', h1, h2⟩ := part_ok ok (w := w) hx ha
        obtain ⟨c', h3, h4⟩ := part_ok ok (w := w) hy hc
        have h5 := he σ w _ _ _ _ _ _ hr h2 h4
        have h6 := eqfs_ok (w := w) he hx hy l s hn.2 hs
        have h7 : f.name ≠ "_" := by simpa using hn.1
        simp only [Op.eqFields, if_pos h7, Sem.run_bind, h1, h3, h5, Result.andThen_ok]
        cases r
        · simp
        · simpa using h6
      · cases h
    · cases h
theorem eqas_ok {σ : Sg} {w : World} {d : Nat} {eq : TypeId → PV → PV → Option Bool} (he : EqOk P d eq) {xs ys : List PV} {us vs : Array Value} (hx : VRs σ xs us.toList) (hy : VRs σ ys vs.toList) {e : TypeId} {sz : Nat} :
    ∀ (n i : Nat) (b : Bool), eqas E eq e sz n i xs ys = some b → (Op.eqItems d e sz us vs (List.range' i n)).run P w = .ok b w
  | 0, i, b, h => by simp [eqas] at h; subst h; rfl
  | n + 1, i, b, h => by
    simp only [eqas] at h
    split at h
    · rename_i a c ha hc
      split at h
      · rename_i r s hr hs
        cases h
        obtain ⟨a', h1, h2⟩ := part_ok ok (w := w) hx ha
        obtain ⟨c', h3, h4⟩ := part_ok ok (w := w) hy hc
        have h5 := he σ w _ _ _ _ _ _ hr h2 h4
        have h6 := eqas_ok (w := w) he hx hy n (i + 1) s hs
        rw [List.range'_succ]
        simp only [Op.eqItems, Sem.run_bind, h1, h3, h5, Result.andThen_ok]
        cases r
        · simp
        · simpa using h6
      · cases h
    · cases h
theorem eqt_ok : ∀ (n d : Nat), n ≤ d → EqOk P d (eqt E n)
  | 0, d, _, σ, w, t, x, y, u, v, b, h, _, _ => by simp [eqt] at h
  | n + 1, 0, hd, _, _, _, _, _, _, _, _, _, _, _ => absurd hd (by omega)
  | n + 1, d + 1, hd, σ, w, t, x, y, u, v, b, h, hx, hy => by
    have ih := eqt_ok n d (by omega)
    simp only [eqt] at h
    split at h
    · cases h
    rename_i i hi
    have e := ok.ty t i hi
    subst e
    split at h
    · rename_i fs xs ys hd0
      split at h
      · rename_i hk
        obtain ⟨k1, k2, k3⟩ := mk_eqok hk
        obtain ⟨gs, hu, rfl⟩ := mkD_struct ((dOf (by simp [hd0])).symm.trans hd0)
        have hf : P.fieldsOf t = gs := by simp [Program.fieldsOf, hu]
        have k4 : (gs.toList.all fun f => f.name != "_") = true := by simpa [plainNames, hu] using k3
        cases hx with
        | agg _ us hus =>
        cases hy with
        | agg _ vs hvs =>
        rw [run_equalIn_struct w d t us vs (by rw [hf]; exact hu) k1, hf]
        exact eqfs_ok ok ih hus hvs gs.toList b k4 h
      · cases h
    · rename_i n' e' xs ys hd0
      split at h
      · rename_i sz hk hs
        have hu := mkD_array ((dOf (by simp [hd0])).symm.trans hd0)
        obtain ⟨J, hJ, hsz⟩ := szT_ok ok hs
        cases hx with
        | agg _ us hus =>
        cases hy with
        | agg _ vs hvs =>
        rw [run_equalIn_array w d us vs hu hJ, List.range_eq_range', show P.cellsOf e' = sz by simp [Program.cellsOf, hJ, hsz]]
        exact eqas_ok ok ih hus hvs n' 0 b h
      · cases h
    · exact eq0_ok h hx hy d

omit ok in
theorem guard_int (w : World) (op : BinOp) (t : TypeId) (x y : Operand) (k k' : IntKind) (a b : Int) : (eqGuard op t x y (.int k a) (.int k' b)).run P w = .ok () w := by cases op <;> simp [eqGuard]
/-- What an operator's two steps are. -/
def binRun (P : Program) (op : BinOp) (t : TypeId) (x y : Operand) (u v : Value) (w : World) : Result Value := (do eqGuard op t x y u v; Go.binOp op t u v : Sem Value).run P w
omit ok in
theorem litq_ok (σ : Sg) (x y : PV) (b : Bool) : VR σ (known x y b) (.bool b) := by
  unfold known
  split
  · exact .tf b
  · exact .bool b
theorem binX_ok {op : BinOp} {t : TypeId} {x y : PV} {K : PV → Prop} (h : binX E op t x y K) : ∃ r, K r ∧ ∀ σ w ox oy u v, VR σ x u → VR σ y v → ∃ z, binRun P op t ox oy u v w = .ok z w ∧ VR σ r z := by
  have main : ∀ b, eqt E 5 t x y = some b → ∀ σ w ox oy u v, VR σ x u → VR σ y v → binRun P .eql t ox oy u v w = .ok (.bool b) w ∧ binRun P .neq t ox oy u v w = .ok (.bool (!b)) w := by
    intro b hb σ w ox oy u v hx hy
    have he := eqt_ok ok 5 10000 (by omega) σ w t x y u v b hb hx hy
    simp only [eqt] at hb
    split at hb
    · cases hb
    rename_i i hi
    have e := ok.ty t i hi
    subst e
    split at hb
    · split at hb
      · rename_i hk
        obtain ⟨k1, k2, k3⟩ := mk_eqok hk
        cases hx with
        | agg _ us hus =>
        cases hy with
        | agg _ vs hvs =>
        have g := fun op => run_eqGuard_agg (P := P) w op t ox oy us vs k2
        exact ⟨by simp only [binRun, Sem.run_bind, g, Result.andThen_ok, run_eql_struct, he], by simp only [binRun, Sem.run_bind, g, Result.andThen_ok, run_neq_struct, he]⟩
      · cases hb
    · split at hb
      · rename_i hk _
        obtain ⟨k1, k2, k3⟩ := mk_eqok hk
        cases hx with
        | agg _ us hus =>
        cases hy with
        | agg _ vs hvs =>
        have g := fun op => run_eqGuard_agg (P := P) w op t ox oy us vs k2
        exact ⟨by simp only [binRun, Sem.run_bind, g, Result.andThen_ok, run_eql_struct, he], by simp only [binRun, Sem.run_bind, g, Result.andThen_ok, run_neq_struct, he]⟩
      · cases hb
    · unfold eq0 at hb
      split at hb
      case h_18 => cases hb
      case h_1 k0 k a k' c hd =>
        split at hb
        · rename_i hk
          have := keq_eq hk
          subst this
          cases hb
          cases hx
          cases hy
          exact ⟨by simp [binRun, eqGuard, Go.binOp, Op.intCmp], by simp [binRun, eqGuard, Go.binOp, Op.intCmp, bne]⟩
        · cases hb
      case h_6 a c hd =>
        cases hb
        cases hx
        cases hy
        exact ⟨by simp [binRun, eqGuard, Go.binOp, Op.stringOp], by simp [binRun, eqGuard, Go.binOp, Op.stringOp]⟩
      all_goals
        cases hb
        cases hx
        cases hy
        exact ⟨by simp [binRun, eqGuard, Go.binOp, Op.equal, Op.maxDepth, he], by simp [binRun, eqGuard, Go.binOp, Op.equal, Op.maxDepth, he]⟩
  unfold binX at h
  split at h
  · split at h
    · rename_i b hb
      exact ⟨_, h, fun σ w ox oy u v hx hy => ⟨_, (main b hb σ w ox oy u v hx hy).1, litq_ok _ _ _ _⟩⟩
    · exact h.elim
  · split at h
    · rename_i b hb
      exact ⟨_, h, fun σ w ox oy u v hx hy => ⟨_, (main b hb σ w ox oy u v hx hy).2, litq_ok _ _ _ _⟩⟩
    · exact h.elim
  · exact h.elim
omit ok in
theorem isNil_ok {op : BinOp} {n : Nat} {K : PV → Prop} (h : isNil cond op n K) : 0 < n ∧ ((op = .eql ∧ K (.tf false)) ∨ (op = .neq ∧ K (.tf true))) := by
  cases op <;> simp only [isNil] at h <;> try exact h.elim
  · obtain ⟨h0, h⟩ := cond_t h
    exact ⟨by simpa using h0, .inl ⟨rfl, h⟩⟩
  · obtain ⟨h0, h⟩ := cond_t h
    exact ⟨by simpa using h0, .inr ⟨rfl, h⟩⟩
omit ok in
theorem nil_run {w : World} {t : TypeId} {d : TypeId} (hu : P.underlying t = some (.slice d)) (ox oy : Operand) (a : Addr) (n c : Nat) : binRun P .eql t ox oy (.slice (some a) n c) (.slice none 0 0) w = .ok (.bool false) w ∧ binRun P .neq t ox oy (.slice (some a) n c) (.slice none 0 0) w = .ok (.bool true) w ∧
    binRun P .eql t ox oy (.slice none 0 0) (.slice (some a) n c) w = .ok (.bool false) w ∧ binRun P .neq t ox oy (.slice none 0 0) (.slice (some a) n c) w = .ok (.bool true) w := by
  have e1 : ∀ d : Nat, (Op.equalIn (d + 1) t (.slice (some a) n c) (.slice none 0 0)).run P w = .ok false w := fun d => by simp [Op.equalIn, run_underlying hu]
  have e2 : ∀ d : Nat, (Op.equalIn (d + 1) t (.slice none 0 0) (.slice (some a) n c)).run P w = .ok false w := fun d => by simp [Op.equalIn, run_underlying hu]
  have e1 := e1 9999
  have e2 := e2 9999
  simp only [Nat.reduceAdd] at e1 e2
  refine ⟨?_, ?_, ?_, ?_⟩ <;> simp [binRun, eqGuard, Go.binOp, Op.equal, Op.maxDepth, e1, e2]
theorem binN_ok {op : BinOp} {t : TypeId} {x y : PV} {n : Nat} {a : PA} {K : PV → Prop} (h : binN cond E op t n K) (hs : (spanOf x = some (a, n) ∧ y = .nils) ∨ (x = .nils ∧ spanOf y = some (a, n))) : ∃ r, K r ∧ ∀ σ w ox oy u v, VR σ x u → VR σ y v → ∃ z, binRun P op t ox oy u v w = .ok z w ∧ VR σ r z := by
  unfold binN at h
  split at h
  · rename_i i hi
    have e := ok.ty t i hi
    subst e
    split at h
    · rename_i d hd
      have hu := mkD_slice ((dOf (by simp [hd])).symm.trans hd)
      obtain ⟨h0, hk⟩ := isNil_ok h
      have key : ∀ σ u v, VR σ x u → VR σ y v → ∃ A c, (u = .slice (some A) n c ∧ v = .slice none 0 0) ∨ (u = .slice none 0 0 ∧ v = .slice (some A) n c) := by
        intro σ u v hx hy
        rcases hs with ⟨hs, rfl⟩ | ⟨rfl, hs⟩
        · obtain ⟨A, c, rfl, _, hA⟩ := span_ok hs hx
          obtain ⟨rb, _, rfl⟩ := hA h0
          cases hy
          exact ⟨_, c, .inl ⟨rfl, rfl⟩⟩
        · obtain ⟨A, c, rfl, _, hA⟩ := span_ok hs hy
          obtain ⟨rb, _, rfl⟩ := hA h0
          cases hx
          exact ⟨_, c, .inr ⟨rfl, rfl⟩⟩
      rcases hk with ⟨rfl, hk⟩ | ⟨rfl, hk⟩
      all_goals
        refine ⟨_, hk, fun σ w ox oy u v hx hy => ?_⟩
        obtain ⟨A, c, ⟨rfl, rfl⟩ | ⟨rfl, rfl⟩⟩ := key σ u v hx hy
        all_goals
          obtain ⟨q1, q2, q3, q4⟩ := nil_run (P := P) (w := w) hu ox oy A n c
          exact ⟨_, by first | exact q1 | exact q2 | exact q3 | exact q4, .tf _⟩
    · exact h.elim
  · exact h.elim
theorem bin_ok {op : BinOp} {t : TypeId} {x y : PV} {K : PV → Prop} (h : bin cond E op t x y K) : ∃ r, K r ∧ ∀ σ w ox oy u v, VR σ x u → VR σ y v → ∃ z, binRun P op t ox oy u v w = .ok z w ∧ VR σ r z := by
  unfold bin at h
  split at h
  · exact binN_ok ok h (.inl ⟨rfl, rfl⟩)
  · exact binN_ok ok h (.inl ⟨rfl, rfl⟩)
  · exact binN_ok ok h (.inr ⟨rfl, rfl⟩)
  · exact binN_ok ok h (.inr ⟨rfl, rfl⟩)
  · rename_i k a k' b
    split at h
    · obtain ⟨r, h1, h2⟩ := shI_ok (P := P) h
      refine ⟨r, h1, fun σ w ox oy u v hx hy => ?_⟩
      cases hx
      cases hy
      obtain ⟨z, h3, h4⟩ := h2 k' σ w t
      exact ⟨z, by simp only [binRun, Sem.run_bind, guard_int, Result.andThen_ok, h3], h4⟩
    · rename_i hk
      have := keq_eq hk
      subst this
      obtain ⟨r, h1, h2⟩ := binI_ok (P := P) h
      refine ⟨r, h1, fun σ w ox oy u v hx hy => ?_⟩
      cases hx
      cases hy
      obtain ⟨z, h3, h4⟩ := h2 σ w t
      exact ⟨z, by simp only [binRun, Sem.run_bind, guard_int, Result.andThen_ok, h3], h4⟩
  · obtain ⟨r, h1, h2⟩ := binS_ok (P := P) h
    refine ⟨r, h1, fun σ w ox oy u v hx hy => ?_⟩
    cases hx
    cases hy
    obtain ⟨z, h3, h4⟩ := h2 σ w t
    have g : ∀ a b : ByteArray, (eqGuard op t ox oy (.string a) (.string b)).run P w = .ok () w := fun a b => by cases op <;> simp [eqGuard]
    exact ⟨z, by simp only [binRun, Sem.run_bind, g, Result.andThen_ok, h3], h4⟩
  · exact binX_ok ok h
theorem binW_ok {sy : Bool} {op : BinOp} {t : TypeId} {x y : PV} {K : PV → Prop} (h : binW cond E sy op t x y K) : ∃ r, K r ∧ ∀ σ w ox oy u v, VR σ x u → VR σ y v → ∃ z, binRun P op t ox oy u v w = .ok z w ∧ VR σ r z := by
  unfold binW at h
  split at h
  · rename_i k a k' b
    split at h
    · rename_i hk
      have := keq_eq hk
      subst this
      cases hl : lim k (a + b) with
      | true =>
        rw [hl] at h
        refine ⟨_, h, fun σ w ox oy u v hx hy => ?_⟩
        cases hx
        cases hy
        exact ⟨.int k (a + b), by simp [binRun, Sem.run_bind, guard_int, Result.andThen_ok, Go.binOp, Op.intArith, lim_wrap hl], .int _ _⟩
      | false =>
        rw [hl] at h
        refine ⟨_, h, fun σ w ox oy u v hx hy => ?_⟩
        cases hx
        cases hy
        exact ⟨.int k (S.wrapI k (a + b)), by simp [binRun, Sem.run_bind, guard_int, Result.andThen_ok, Go.binOp, Op.intArith, S.wrapI], .int _ _⟩
    · exact h.elim
  · exact bin_ok ok h
end
end Go.Ev
