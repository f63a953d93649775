/-
  The run of the reckoner says where the machine comes to.
-/
import Derived.Test.YtjgllldbpmmodaaEvQ
namespace Go.Ev
set_option linter.unusedVariables false
set_option linter.unusedSectionVars false
open Go.RowKit
set_option linter.unusedSimpArgs false

def itm : It → Item
  | .cd c => .code c
  | .ib id => .inBlock id
  | .il c => .inLoop c
  | .sc c => .inScope c
  | .rg all rest => .inRegion all.toArray (List.range' (all.length - rest.length) rest.length)
def ItOk : It → Prop
  | .rg all rest => ∃ p, all = p ++ rest
  | _ => True

/-- The temporaries of an activation. -/
structure AR (E : Env) (f : FuncId) (σ : Sg) (T : Tmps) (a : Act) : Prop where
  defers : a.defers = []
  size : ∀ fn, nthFn E.fs f = some fn → fn.nt ≤ a.tmps.size
  get : ∀ t, VR σ (tget T t) (a.tmps.getD t undef)

theorem AR.mono {E : Env} {f : FuncId} {σ τ : Sg} {T : Tmps} {a : Act} (h : AR E f σ T a) (m : Mono σ τ) : AR E f τ T a := ⟨h.defers, h.size, fun t => (h.get t).mono m⟩
theorem AR.ev {E : Env} {f : FuncId} {σ : Sg} {T : Tmps} {a : Act} (h : AR E f σ T a) (x : Operand) : VR σ (ev T x) (a.eval x) := by
  cases x with
  | tmp t => exact h.get t
  | const v => exact ofV_ok σ 1 v
  | global g => exact .unk _
  | func f => exact .fn _ _ _ _ _ .nil .nil
theorem tget_cons (d : Nat) (v : PV) (T : Tmps) (t : Nat) : tget ((d, v) :: T) t = if d = t then v else tget T t := by
  simp only [tget]
  by_cases h : d = t
  · subst h; simp
  · have : Nat.beq d t = false := by cases hb : Nat.beq d t; rfl; exact absurd (Nat.eq_of_beq_eq_true hb) h
    simp [this, h]
theorem AR.put {E : Env} {f : FuncId} {σ : Sg} {T : Tmps} {a : Act} {fn : FnI} {d : Nat} {v : PV} {u : Value} (h : AR E f σ T a) (hf : nthFn E.fs f = some fn) (hd : d < fn.nt) (hv : VR σ v u) : AR E f σ ((d, v) :: T) (a.put (some d) u) := by
  refine ⟨h.defers, fun fn' h' => by simpa [Act.put] using h.size fn' h', fun t => ?_⟩
  rw [tget_cons]
  have hs : d < a.tmps.size := Nat.lt_of_lt_of_le hd (h.size fn hf)
  by_cases e : d = t
  · subst e
    simp [Act.put, hs, hv]
  · have := h.get t
    simp only [e, if_false]
    simpa [Act.put, Array.getElem?_setIfInBounds_ne e] using this
theorem AR.tset {E : Env} {f : FuncId} {T : Tmps} {d : Option Tmp} {v : PV} {K : Tmps → Prop} (h : tset E f T d v K) : ∃ T', K T' ∧ ∀ (τ : Sg) (b : Act) (x : Value), AR E f τ T b → VR τ v x → AR E f τ T' (b.put d x) := by
  unfold Ev.tset at h
  cases d with
  | none => exact ⟨T, h, fun σ a u ha _ => ha⟩
  | some d =>
    simp only at h
    split at h
    · rename_i fn hf
      split at h
      · rename_i hd
        exact ⟨_, h, fun σ a u ha hv => ha.put hf (by simpa [Nat.blt_eq] using hd) hv⟩
      · exact h.elim
    · exact h.elim

theorem Out.trans {σ σ1 σ2 : Sg} {w w1 w2 : World} {H H1 H2 : Heap} {fr fr1 fr2 : Nat} {v1 v : PV} {u1 u : Value} (h : Out σ w H fr v1 H1 fr1 σ1 w1 u1) (k : Out σ1 w1 H1 fr1 v H2 fr2 σ2 w2 u) (a : fr ≤ fr1) (b : fr1 ≤ fr2) : Out σ w H fr v H2 fr2 σ2 w2 u where
  v := k.v
  sim := k.sim
  mon := h.mon.trans k.mon
  ext n hn := (k.ext n (by omega)).trans (h.ext n (by omega))
  frm := h.frm.trans k.frm
theorem Out.forget {σ σ1 : Sg} {w w1 : World} {H H1 : Heap} {fr fr1 : Nat} {v : PV} {u : Value} (h : Out σ w H fr v H1 fr1 σ1 w1 u) (u' : Value) : Out σ w H fr .unk H1 fr1 σ1 w1 u' := ⟨.unk _, h.sim, h.mon, h.ext, h.frm⟩
theorem NoneIn.cut {σ : Sg} {fr fr1 fr2 : Nat} (h : NoneIn σ fr fr2) (b : fr1 ≤ fr2) : NoneIn σ fr fr1 := fun n h1 h2 => h n h1 (by omega)
theorem NoneIn.rest {σ σ1 : Sg} {w w1 : World} {H H1 : Heap} {fr fr1 fr2 : Nat} {v : PV} {u : Value} (h : NoneIn σ fr fr2) (a : fr ≤ fr1) (k : Out σ w H fr v H1 fr1 σ1 w1 u) : NoneIn σ1 fr1 fr2 := fun n h1 h2 => (k.ext n (by omega)).trans (h n (by omega) h2)
theorem Grow.ne {H H' : Heap} {fr fr' : Nat} (h : Grow H H' fr fr') (hne : H ≠ []) : H' ≠ [] := by
  obtain ⟨_, ⟨l, h2, _⟩, _⟩ := h
  cases H with
  | nil => exact absurd rfl hne
  | cons h0 t => rw [h2 h0 t rfl]; simp

section
variable (P : Program) (E : Env)
def Moves (c c' : Cfg) : Prop :=
  c'.fn = c.fn ∧ Grow c.H c'.H c.fr c'.fr ∧ ((∀ i ∈ c.todo, ItOk i) → ∀ i ∈ c'.todo, ItOk i) ∧
  ∀ σ w a (b : Frame) cs, AR E c.fn σ c.T a → Sim σ w c.H → NoneIn σ c.fr c'.fr → b.fn = c.fn → ∃ σ' w' a', Steps P (lone (b.at a (c.todo.map itm)) cs w) (lone (b.at a' (c'.todo.map itm)) cs w') ∧ AR E c.fn σ' c'.T a' ∧ Out σ w c.H c.fr .unk c'.H c'.fr σ' w' undef
def Ends (c : Cfg) (v : PV) (H' : Heap) (fr' : Nat) : Prop :=
  Grow c.H H' c.fr fr' ∧ ∀ σ w a (b : Frame) cs, AR E c.fn σ c.T a → Sim σ w c.H → NoneIn σ c.fr fr' → b.fn = c.fn → b.kind = .normal → ∃ σ' w' v' fm, Steps P (lone (b.at a (c.todo.map itm)) cs w) (lone fm cs w') ∧ fm.fn = c.fn ∧ fm.leaving P w' (.returned v') ∧ Out σ w c.H c.fr v H' fr' σ' w' v'
def LeafOk (c : Cfg) : Leaf → Prop
  | .ret v H' fr' => Ends P E c v H' fr'
  | .stop _ c' => Moves P E c c'
def ExtOk (X : Ext) : Prop := ∀ f args H fr K no, H ≠ [] → Names H fr → X f args H fr K no → (∃ v H' fr', K v H' fr' ∧ Grow H H' fr fr' ∧ CallR P f args H fr v H' fr' ∧ ∃ F, P.funcs[f]? = some F ∧ F.body.isSome = true ∧ (F.name == "runtime.NumGoroutine") = false) ∨ no
def DrawnOk : Prop := ∀ (sy : Bool) (Y : Handler) (f : FuncId) (T : Tmps) (H : Heap) (all : List Oper) (fr : Nat) (K : Tmps → Heap → Nat → Prop), HandOk P Y → H ≠ [] → Names H fr → drawn cond E sy Y f T H all all [] [] 0 fr K →
  ∃ T' H' fr', K T' H' fr' ∧ Grow H H' fr fr' ∧ ∀ σ w a (b : Frame) cs k id, AR E f σ T a → Sim σ w H → NoneIn σ fr fr' → b.fn = f → ∃ σ' w' a', Steps P (lone (b.at a (.code (.region id all.toArray true) :: k)) cs w) (lone (b.at a' k) cs w') ∧ AR E f σ' T' a' ∧ Out σ w H fr .unk H' fr' σ' w' undef
end

section
variable {P : Program} {E : Env}
theorem Moves.ctl {f : FuncId} {k k' : List It} {T : Tmps} {H : Heap} {fr : Nat} (hk : (∀ i ∈ k, ItOk i) → ∀ i ∈ k', ItOk i)
    (h : ∀ σ w a (b : Frame) cs, AR E f σ T a → step P (lone (b.at a (k.map itm)) cs w) = .next (lone (b.at a (k'.map itm)) cs w)) : Moves P E ⟨f, k, T, H, fr⟩ ⟨f, k', T, H, fr⟩ :=
  ⟨rfl, Grow.refl _ _, hk, fun σ w a b cs ha hs _ _ => ⟨σ, w, a, .one (h σ w a b cs ha), ha, Out.same hs (.unk _)⟩⟩
theorem LeafOk.head {c c1 : Cfg} {l : Leaf} (h : Moves P E c c1) (k : LeafOk P E c1 l) : LeafOk P E c l := by
  obtain ⟨h1, h2, h3, h4⟩ := h
  cases l with
  | ret v H' fr' =>
    obtain ⟨k1, k2⟩ := k
    refine ⟨h2.trans k1, fun σ w a b cs ha hs hn hb hk => ?_⟩
    obtain ⟨σ1, w1, a1, q1, q2, q3⟩ := h4 σ w a b cs ha hs (hn.cut k1.1) hb
    obtain ⟨σ2, w2, v2, fm, r1, r2, r3, r4⟩ := k2 σ1 w1 a1 b cs (h1 ▸ q2) q3.sim (hn.rest h2.1 q3) (hb.trans h1.symm) hk
    exact ⟨σ2, w2, v2, fm, q1.trans r1, r2.trans h1, r3, q3.trans r4 h2.1 k1.1⟩
  | stop j c' =>
    obtain ⟨k0, k1, k2, k3⟩ := k
    refine ⟨k0.trans h1, h2.trans k1, fun hi => k2 (h3 hi), fun σ w a b cs ha hs hn hb => ?_⟩
    obtain ⟨σ1, w1, a1, q1, q2, q3⟩ := h4 σ w a b cs ha hs (hn.cut k1.1) hb
    obtain ⟨σ2, w2, a2, r1, r2, r3⟩ := k3 σ1 w1 a1 b cs (h1 ▸ q2) q3.sim (hn.rest h2.1 q3) (hb.trans h1.symm)
    exact ⟨σ2, w2, a2, q1.trans r1, h1 ▸ r2, q3.trans r3 h2.1 k1.1⟩

theorem step_oper {ops : Array Oper} {i : Nat} {o : Oper} {rest : List Nat} {a : Act} {w : World} {next : Act → World → Prop} (ho : ops[i]? = some o) (hw : Region.wanted o (yielded ops a.tmps) = true) (hd : ∀ a' w', next a' w' → a'.defers = [])
    (h : o.wp P a w next fun _ _ _ => False) (b : Frame) (k : List Item) (cs : List Frame) : ∃ a' w', next a' w' ∧ Steps P (lone (b.at a (.inRegion ops (i :: rest) :: k)) cs w) (lone (b.at a' (.inRegion ops rest :: k)) cs w') := by
  have hg := stepG_op (P := P) (b := b) (k := k) (cs := cs) (w := w) (rest := rest) ho hw
  have hfin : ∀ v, (b.at a (.inRegion ops (i :: rest) :: k)).finish v = b.at (a.put o.dst v) (.inRegion ops rest :: k) := by
    intro v; rw [Frame.finish_at, ho]; rfl
  simp only [Oper.wp, Oper.upon] at h
  split at h
  · rename_i v w' hr
    refine ⟨_, _, h, .one (step_lone_go ?_)⟩
    rw [hg, ← hfin]; simp [stepG.apply, hr]
  · rename_i w' hr
    refine ⟨_, _, h, .one (step_lone_go ?_)⟩
    rw [hg, ← hfin]; simp [stepG.apply, hr]
  · rename_i d w' hr
    have := hd _ _ h
    cases ho' : o.dst <;> simp [Act.put, ho'] at this
  · rename_i f args w' hr
    obtain ⟨e, w'', fr, hR, hsteps, _, hleave⟩ := h (b.at a (.inRegion ops (i :: rest) :: k) :: cs)
    have henter : step P (lone (b.at a (.inRegion ops (i :: rest) :: k)) cs w) =
        .next (lone (Frame.enter P f args .normal) (b.at a (.inRegion ops (i :: rest) :: k) :: cs) w') :=
      step_lone_go (by rw [hg]; simp [stepG.apply, hr, Frame.at])
    cases e with
    | returned v =>
      refine ⟨_, _, hR, .head henter (hsteps.trans (.one ?_))⟩
      rw [← hfin]; exact step_leave_returned hleave
    | panicked chain => exact hR.elim
    | outgrown => obtain ⟨_, _, hq⟩ := hR; exact hq.elim
  · rename_i row args w' hr
    obtain ⟨v, w'', hR, hsteps⟩ := h (b.at a (.inRegion ops (i :: rest) :: k)) cs
    have henter : step P (lone (b.at a (.inRegion ops (i :: rest) :: k)) cs w) =
        .next (lone (Frame.ofRow P row args .normal) (b.at a (.inRegion ops (i :: rest) :: k) :: cs) w') :=
      step_lone_go (by rw [hg]; simp [stepG.apply, hr, Frame.at])
    refine ⟨_, _, hR, .head henter ?_⟩
    rw [← hfin]; exact hsteps
  · exact h.elim
  · exact h.elim

theorem exit_ok {id : Nat} : ∀ {k k' : List It}, exitI id k = some k' → exitTo id (k.map itm) = some (k'.map itm) ∧ ∀ i ∈ k', i ∈ k
  | [], k', h => by simp [exitI] at h
  | x :: k, k', h => by
    cases x <;> simp only [exitI] at h
    case ib id' =>
      split at h
      · rename_i hb
        cases h
        have := Nat.eq_of_beq_eq_true hb
        subst this
        exact ⟨by simp [itm, exitTo], fun i hi => List.mem_cons_of_mem _ hi⟩
      · rename_i hb
        obtain ⟨h1, h2⟩ := exit_ok h
        have : (id' == id) = false := by simp; intro e; subst e; rw [Nat.beq_refl] at hb; cases hb
        exact ⟨by simp [itm, exitTo, this, h1], fun i hi => List.mem_cons_of_mem _ (h2 i hi)⟩
    all_goals
      obtain ⟨h1, h2⟩ := exit_ok h
      exact ⟨by simp [itm, exitTo, h1], fun i hi => List.mem_cons_of_mem _ (h2 i hi)⟩

def resV (a : Act) : ResultVar → Sem Value
  | .tmp t => pure (a.tmps.getD t undef)
  | .cell x t => do loadVar t (← asAddr (a.tmps.getD x undef))
theorem resV_tmp {a : Act} {t : Tmp} {w : World} : (resV a (.tmp t)).run P w = .ok (a.tmps.getD t undef) w := rfl
theorem resV_cell {a : Act} {x : Tmp} {t : TypeId} {w : World} {p : Addr} (h : a.tmps.getD x undef = .pointer (some p)) : (resV a (.cell x t)).run P w = (loadVar t p).run P w := by simp only [resV, h]; rfl
theorem results_eq (F : Func) (a : Act) (w : World) : (results F a.tmps).run P w = (do let vs ← F.results.mapM (resV a); pure (if h : vs.size = 1 then vs[0] else .tuple vs) : Sem Value).run P w := rfl
variable (ok : EnvOk P E)
include ok
theorem resl_ok {T : Tmps} {H : Heap} : ∀ {l : List ResultVar} {K : List PV → Prop}, resl cond E T H l K → ∃ vs, K vs ∧ ∀ σ w (a : Act) f, AR E f σ T a → Sim σ w H → ∃ us : List Value, VRs σ vs us ∧ (l.mapM (resV a)).run P w = .ok us w
  | [], K, h => ⟨[], h, fun σ w a f _ _ => ⟨[], .nil, by simp⟩⟩
  | .tmp t :: l, K, h => by
    simp only [resl] at h
    obtain ⟨vs, h1, h2⟩ := resl_ok h
    refine ⟨_, h1, fun σ w a f ha hs => ?_⟩
    obtain ⟨us, q1, q2⟩ := h2 σ w a f ha hs
    refine ⟨_, .cons _ _ _ _ (ha.get t) q1, ?_⟩
    rw [List.mapM_cons]
    simp [resV_tmp, q2]
  | .cell x t :: l, K, h => by
    simp only [resl] at h
    split at h
    · rename_i p hp
      obtain ⟨v, h1, hv⟩ := ldv_ok ok h
      obtain ⟨vs, h1, h2⟩ := resl_ok h1
      refine ⟨_, h1, fun σ w a f ha hs => ?_⟩
      obtain ⟨us, q1, q2⟩ := h2 σ w a f ha hs
      have hx := ha.get x
      rw [hp] at hx
      generalize hq : a.tmps.getD x undef = q at hx
      cases hx with
      | ptr _ rb hr =>
      obtain ⟨u, r1, r2⟩ := hv σ w rb hs hr
      refine ⟨_, .cons _ _ _ _ r2 q1, ?_⟩
      rw [List.mapM_cons]
      simp [resV_cell hq, r1, q2]
    · exact h.elim
theorem fin_ok {c : Cfg} {K : Leaf → Prop} (hc : c.todo = [] ∨ ∃ k, c.todo = .cd .ret :: k) (h : fin cond E c K) : ∃ l, K l ∧ LeafOk P E c l := by
  unfold fin at h
  split at h
  · rename_i fn hf
    obtain ⟨F, hF, hb, hnt, hres, -⟩ := ok.fs _ _ hf
    obtain ⟨vs, h1, h2⟩ := resl_ok ok h
    refine ⟨_, h1, Grow.refl _ _, fun σ w a b cs ha hs hn hbf hbk => ?_⟩
    obtain ⟨us, q1, q2⟩ := h2 σ w a _ ha hs
    have hr : ∃ v', (results F a.tmps).run P w = .ok v' w ∧ VR σ (tupl vs) v' := by
      have hm : (F.results.mapM (resV a)).run P w = .ok us.toArray w := by
        rw [Array.mapM_eq_mapM_toList, hres]
        simp [q2]
      refine ⟨_, by rw [results_eq, Sem.run_bind, hm]; rfl, ?_⟩
      have hl := q1.length
      cases q1 with
      | nil => exact .tup _ _ .nil
      | cons v u l m hv hl' =>
        cases hl' with
        | nil => exact hv
        | cons v' u' l' m' hv' hl'' => exact .tup _ _ (.cons _ _ _ _ hv (.cons _ _ _ _ hv' hl''))
    obtain ⟨v', hr, hv⟩ := hr
    refine ⟨σ, w, v', { b.at a (c.todo.map itm) with mode := .returning }, ?_, hbf, ⟨rfl, ha.defers, hbk, F, by simp only [Frame.at]; rw [hbf]; exact hF, hr⟩, Out.same hs hv⟩
    rcases hc with hc | ⟨k, hc⟩
    · rw [hc]; exact .one step_end
    · rw [hc]; exact .one step_ret
  · exact h.elim

omit ok in
theorem opAt_get : ∀ {l : List Oper} {i : Nat} {o : Oper}, opAt l i = some o → l[i]? = some o
  | [], i, o, h => by simp [opAt] at h
  | _ :: l, 0, o, h => by simpa [opAt] using h
  | _ :: l, i + 1, o, h => by simp only [opAt] at h; simpa using opAt_get h
omit ok in
theorem guarded_ok {o : Oper} {all : List Oper} {T : Tmps} {yes no : Prop} (h : guarded cond o.guard all T yes no) :
    (yes ∧ ∀ σ (a : Act) f, AR E f σ T a → Region.wanted o (yielded all.toArray a.tmps) = true) ∨ (no ∧ ∀ σ (a : Act) f, AR E f σ T a → Region.wanted o (yielded all.toArray a.tmps) = false) := by
  unfold guarded at h
  unfold Region.wanted
  split at h
  · rename_i hg
    rw [hg]
    exact .inl ⟨h, fun _ _ _ _ => rfl⟩
  · rename_i j want hg
    rw [hg]
    split at h
    · rename_i oj hj
      split at h
      · rename_i tj ht
        split at h
        · rename_i b hb
          have hy : ∀ σ (a : Act) f, AR E f σ T a → yielded all.toArray a.tmps j = some b := fun σ a f ha => by
            have h1 := ha.get tj
            rw [hb] at h1
            unfold yielded
            have h2 : all.toArray[j]? = some oj := by simpa using opAt_get hj
            rw [h2]
            simp only [Option.bind_some, ht]
            generalize hq : a.tmps.getD tj undef = q at h1
            cases h1
            cases ht2 : a.tmps[tj]? with
            | none => simp [ht2, undef] at hq
            | some x =>
              simp [ht2] at hq
              subst hq
              rfl
          cases hbw : b == want with
          | true =>
            rw [hbw] at h
            refine .inl ⟨h, fun σ a f ha => ?_⟩
            simp only [hy σ a f ha]
            simpa using hbw
          | false =>
            rw [hbw] at h
            refine .inr ⟨h, fun σ a f ha => ?_⟩
            simp only [hy σ a f ha]
            simpa using hbw
        · rename_i b hb
          have hy : ∀ σ (a : Act) f, AR E f σ T a → yielded all.toArray a.tmps j = some b := fun σ a f ha => by
            have h1 := ha.get tj
            rw [hb] at h1
            unfold yielded
            have h2 : all.toArray[j]? = some oj := by simpa using opAt_get hj
            rw [h2]
            simp only [Option.bind_some, ht]
            generalize hq : a.tmps.getD tj undef = q at h1
            cases h1
            cases ht2 : a.tmps[tj]? with
            | none => simp [ht2, undef] at hq
            | some x =>
              simp [ht2] at hq
              subst hq
              rfl
          cases b <;> cases want
          · exact .inl ⟨h, fun σ a f ha => by simp [hy σ a f ha]⟩
          · exact .inr ⟨h, fun σ a f ha => by simp [hy σ a f ha]⟩
          · exact .inr ⟨h, fun σ a f ha => by simp [hy σ a f ha]⟩
          · exact .inl ⟨h, fun σ a f ha => by simp [hy σ a f ha]⟩
        · rename_i l hb
          have hy : ∀ σ (a : Act) f, AR E f σ T a → yielded all.toArray a.tmps j = none := fun σ a f ha => by
            have h1 := ha.get tj
            rw [hb] at h1
            unfold yielded
            have h2 : all.toArray[j]? = some oj := by simpa using opAt_get hj
            rw [h2]
            simp only [Option.bind_some, ht]
            generalize hq : a.tmps.getD tj undef = q at h1
            cases h1
            cases ht2 : a.tmps[tj]? with
            | none => rfl
            | some x =>
              simp [ht2] at hq
              subst hq
              rfl
          exact .inr ⟨h, fun σ a f ha => by simp [hy σ a f ha]⟩
        · exact h.elim
      · exact h.elim
    · exact h.elim

omit ok in
theorem moves_op {f : FuncId} {all p rest : List Oper} {o : Oper} {k : List It} {T T' : Tmps} {H H' : Heap} {fr fr' : Nat} {v : PV} (hall : all = p ++ o :: rest) (hw : ∀ σ (a : Act) f, AR E f σ T a → Region.wanted o (yielded all.toArray a.tmps) = true)
    (hg : Grow H H' fr fr') (ho : OpR P o T H fr v H' fr') (ht : ∀ (τ : Sg) (b : Act) (x : Value), AR E f τ T b → VR τ v x → AR E f τ T' (b.put o.dst x)) :
    Moves P E ⟨f, .rg all (o :: rest) :: k, T, H, fr⟩ ⟨f, .rg all rest :: k, T', H', fr'⟩ := by
  refine ⟨rfl, hg, fun hi => ?_, fun σ w a b cs ha hs hn hb => ?_⟩
  · intro i hi'
    rcases List.mem_cons.1 hi' with rfl | hi'
    · exact ⟨p ++ [o], by simp [hall]⟩
    · exact hi i (List.mem_cons_of_mem _ hi')
  · have hget : all.toArray[p.length]? = some o := by simp [hall]
    have h1 := ho σ w a (fun a' w' => ∃ σ' x, a' = a.put o.dst x ∧ AR E f σ' T' a' ∧ Out σ w H fr .unk H' fr' σ' w' undef) (fun _ _ _ => False) (fun x _ => ha.ev x) hs hn (fun σ' w' v' hout => ⟨σ', v', rfl, ht σ' a v' (ha.mono hout.mon) hout.v, hout.forget undef⟩)
    obtain ⟨a', w', ⟨σ', x, e1, q1, q2⟩, q3⟩ := step_oper hget (hw σ a f ha) (fun a' w' ⟨σ', x, _, h, _⟩ => h.defers) h1 b (rest := List.range' (p.length + 1) rest.length) (k.map itm) cs
    refine ⟨σ', w', a', ?_, q1, q2⟩
    have e2 : itm (.rg all (o :: rest)) = .inRegion all.toArray (p.length :: List.range' (p.length + 1) rest.length) := by
      simp only [itm, List.length_cons, List.range'_succ]
      rw [show all.length - (rest.length + 1) = p.length by simp [hall]]
    have e3 : itm (.rg all rest) = .inRegion all.toArray (List.range' (p.length + 1) rest.length) := by
      simp only [itm]
      rw [show all.length - rest.length = p.length + 1 by simp [hall]; omega]
    simp only [List.map_cons, e2, e3]
    exact q3
omit ok in
theorem moves_skip {f : FuncId} {all p rest : List Oper} {o : Oper} {k : List It} {T T' : Tmps} {H : Heap} {fr : Nat} (hall : all = p ++ o :: rest) (hw : ∀ σ (a : Act) f, AR E f σ T a → Region.wanted o (yielded all.toArray a.tmps) = false)
    (ht : ∀ (τ : Sg) (b : Act) (x : Value), AR E f τ T b → VR τ (.tup []) x → AR E f τ T' (b.put o.dst x)) :
    Moves P E ⟨f, .rg all (o :: rest) :: k, T, H, fr⟩ ⟨f, .rg all rest :: k, T', H, fr⟩ := by
  refine ⟨rfl, Grow.refl _ _, fun hi => ?_, fun σ w a b cs ha hs hn hb => ?_⟩
  · intro i hi'
    rcases List.mem_cons.1 hi' with rfl | hi'
    · exact ⟨p ++ [o], by simp [hall]⟩
    · exact hi i (List.mem_cons_of_mem _ hi')
  · have hget : all.toArray[p.length]? = some o := by simp [hall]
    refine ⟨σ, w, a.put o.dst undef, ?_, ht σ a undef ha (.tup _ _ .nil), Out.same hs (.unk _)⟩
    have e2 : itm (.rg all (o :: rest)) = .inRegion all.toArray (p.length :: List.range' (p.length + 1) rest.length) := by
      simp only [itm, List.length_cons, List.range'_succ]
      rw [show all.length - (rest.length + 1) = p.length by simp [hall]]
    have e3 : itm (.rg all rest) = .inRegion all.toArray (List.range' (p.length + 1) rest.length) := by
      simp only [itm]
      rw [show all.length - rest.length = p.length + 1 by simp [hall]; omega]
    simp only [List.map_cons, e2, e3]
    have hs := step_op_skip (P := P) (b := b) (a := a) (k := k.map itm) (cs := cs) (w := w) (ops := all.toArray) (i := p.length) (rest := List.range' (p.length + 1) rest.length) (by rw [hget]; simpa using hw σ a f ha)
    rw [hget] at hs
    exact .one hs

omit ok in
theorem tget_arg : ∀ (l : List PV) (n t : Nat), tget (argT n l) t = if n ≤ t then (l[t - n]?).getD .unk else .unk
  | [], n, t => by simp [argT, tget]
  | v :: l, n, t => by
    simp only [argT]
    rw [tget_cons, tget_arg l (n + 1) t]
    by_cases h : n = t
    · subst h; simp
    · by_cases h2 : n ≤ t
      · have h3 : n + 1 ≤ t := by omega
        have h4 : t - n = (t - (n + 1)) + 1 := by omega
        simp [h, h2, h3, h4]
      · have h3 : ¬ n + 1 ≤ t := by omega
        simp [h, h2, h3]
omit ok in
theorem VRs.unkget {σ : Sg} : ∀ {vs : List PV} {us : List Value}, VRs σ vs us → ∀ i : Nat, VR σ ((vs[i]?).getD .unk) ((us[i]?).getD undef)
  | _, _, .nil, i => by simpa using VR.unk _
  | _, _, .cons _ _ _ _ h hl, 0 => by simpa using h
  | _, _, .cons _ _ _ _ h hl, i + 1 => by simpa using hl.unkget i
theorem arg_ar {f : FuncId} {fn : FnI} {F : Func} {σ : Sg} {args : List PV} {vals : Array Value} (hf : nthFn E.fs f = some fn) (hF : P.funcs[f]? = some F) (hnt : F.ntmps = fn.nt) (h : VRs σ args vals.toList) :
    AR E f σ (argT 0 args) ⟨vals ++ Array.replicate (F.ntmps - vals.size) undef, []⟩ := by
  refine ⟨rfl, fun fn' h' => ?_, fun t => ?_⟩
  · rw [hf] at h'
    cases h'
    simp
    omega
  · rw [tget_arg]
    simp only [Nat.zero_le, if_true, Nat.sub_zero]
    have h1 := h.unkget t
    have h2 : (vals ++ Array.replicate (F.ntmps - vals.size) undef).getD t undef = (vals.toList[t]?).getD undef := by
      simp only [Array.getD_eq_getD_getElem?, Array.getElem?_append, Array.getElem?_replicate]
      by_cases ht : t < vals.size
      · simp [ht]
      · simp [ht]
        split <;> rfl
    rw [h2]
    exact h1

variable {X : Ext} (hX : ExtOk P X) (hD : DrawnOk P E) {sy : Bool}
include hX
theorem handle_ok {self : Self} (hs : ∀ c K, (∀ i ∈ c.todo, ItOk i) → c.H ≠ [] → Names c.H c.fr → self c K → ∃ l, K l ∧ LeafOk P E c l) : HandOk P (handle E X self) := by
  intro f args H fr K hne hN h
  unfold handle at h
  rcases hX _ _ _ _ _ _ hne hN h with h | h
  · exact h
  · unfold enter at h
    split at h
    · rename_i fn hf
      obtain ⟨F, hF, hb, hnt, hres, hname⟩ := ok.fs _ _ hf
      obtain ⟨l, hl, hok⟩ := hs _ _ (by intro i hi; simp at hi; subst hi; trivial) (by simp) (fun n e hn => hN n e (by simpa [hget, lget] using hn)) h
      cases l with
      | stop j c' => exact hl.elim
      | ret v H1 fr' =>
      cases H1 with
      | nil => exact hl.elim
      | cons l0 H' =>
      obtain ⟨hg, hrun⟩ := hok
      obtain ⟨g1, ⟨l1, g2, g3⟩, g4⟩ := hg
      have e0 := g2 [] H rfl
      simp only [List.append_nil, List.cons.injEq] at e0
      obtain ⟨e1, rfl⟩ := e0
      subst e1
      have hcong : ∀ n, hget (hmerge l0 H') n = hget (l0 :: H') n := fun n => by
        cases H' with
        | nil => exact absurd rfl hne
        | cons h t =>
          simp only [hmerge]
          rw [hget_merge]
          rfl
      refine ⟨v, hmerge l0 H', fr', hl, ⟨g1, ⟨l0, fun h t e => by subst e; rfl, g3⟩, fun n e hn => by rw [hcong] at hn; simpa [hget, lget] using g4 n e hn⟩, fun σ w vals hv hsim hn => ?_, F, hF, by simp [hb], hname⟩
      intro cs
      let b : Frame := { (default : Frame) with fn := f, kind := .normal }
      have henter : Frame.enter P f vals .normal = b.at { tmps := vals ++ Array.replicate (F.ntmps - vals.size) undef, defers := [] } [.code fn.body] := by
        simp [Frame.enter, Frame.at, hF, hb, b]
      have hsim' : Sim σ w ([] :: H') := hsim.congr fun n => by simp [hget, lget]
      obtain ⟨σ', w', v', fm, q1, q2, q3, q4⟩ := hrun σ w _ b cs (arg_ar ok hf hF hnt hv) hsim' hn rfl rfl
      refine ⟨.returned v', w', fm, ⟨v', σ', rfl, q4.v, q4.sim.congr hcong, q4.mon, q4.ext, ?_⟩, ?_, q2, q3⟩
      · exact q4.frm.mono (fun k hk => OwnB.congr (fun n => by simp [hget, lget]) hk) (fun k hk => OwnB.congr hcong hk)
      · rw [henter]
        exact q1
    · exact h.elim
include hD
theorem run_ok : ∀ (n : Nat) (stop : Bool) (c : Cfg) (K : Leaf → Prop), (∀ i ∈ c.todo, ItOk i) → c.H ≠ [] → Names c.H c.fr → run cond E sy X stop n c K → ∃ l, K l ∧ LeafOk P E c l
  | 0, _, _, _, _, _, _, h => by simp [run] at h
  | n + 1, stop, ⟨f, todo, T, H, fr⟩, K, hi, hne, hN, h => by
    have ih := run_ok n stop
    have hH := handle_ok ok hX (self := run cond E sy X false n) fun c K => run_ok n false c K
    have go : ∀ {k' : List It}, ((∀ i ∈ todo, ItOk i) → ∀ i ∈ k', ItOk i) → (∀ σ w a (b : Frame) cs, AR E f σ T a → step P (lone (b.at a (todo.map itm)) cs w) = .next (lone (b.at a (k'.map itm)) cs w)) → run cond E sy X stop n ⟨f, k', T, H, fr⟩ K → ∃ l, K l ∧ LeafOk P E ⟨f, todo, T, H, fr⟩ l := fun {k'} h1 h2 h3 => by
      obtain ⟨l, q1, q2⟩ := ih ⟨f, k', T, H, fr⟩ K (h1 hi) hne hN h3
      exact ⟨l, q1, LeafOk.head (Moves.ctl h1 h2) q2⟩
    simp only [run] at h
    cases todo with
    | nil => exact fin_ok ok (.inl rfl) h
    | cons x k =>
    have hk : ∀ {y : List It}, (∀ i ∈ y, ItOk i) → (∀ i ∈ x :: k, ItOk i) → ∀ i ∈ y ++ k, ItOk i := fun hy hx i hi' => by
      rcases List.mem_append.1 hi' with h1 | h1
      · exact hy i h1
      · exact hx i (List.mem_cons_of_mem _ h1)
    cases x with
    | ib id => exact go (hk (y := []) (by simp)) (fun σ w a b cs ha => step_inBlock) h
    | sc c => exact go (hk (y := []) (by simp)) (fun σ w a b cs ha => step_lone_go (by simp [stepG, stepG.exec, Frame.at, itm])) h
    | il b =>
      have h1 := hk (y := [.cd b, .il b]) (by intro i hi'; simp at hi'; rcases hi' with rfl | rfl <;> trivial)
      cases stop with
      | true => exact ⟨_, h, Moves.ctl h1 fun σ w a b cs ha => step_inLoop⟩
      | false => exact go h1 (fun σ w a b cs ha => step_inLoop) h
    | rg all rest =>
      simp only [stepRg] at h
      obtain ⟨p, hp⟩ := hi _ List.mem_cons_self
      cases rest with
      | nil => exact go (hk (y := []) (by simp)) (fun σ w a b cs ha => by simpa [itm] using step_region_end) h
      | cons o rest =>
        simp only at h
        rcases guarded_ok (E := E) h with ⟨h, hw⟩ | ⟨h, hw⟩
        · obtain ⟨v, H', fr', h1, hg, h2⟩ := opx_ok ok hH hne hN h
          obtain ⟨T', h3, ht⟩ := AR.tset h1
          have hm := moves_op (P := P) (k := k) hp hw hg h2 ht
          obtain ⟨l, q1, q2⟩ := ih ⟨f, .rg all rest :: k, T', H', fr'⟩ K (hm.2.2.1 hi) (hg.ne hne) (hN.grow hg hne) h3
          exact ⟨l, q1, LeafOk.head hm q2⟩
        · obtain ⟨T', h3, ht⟩ := AR.tset h
          have hm := moves_skip (P := P) (k := k) (H := H) (fr := fr) hp hw ht
          obtain ⟨l, q1, q2⟩ := ih ⟨f, .rg all rest :: k, T', H, fr⟩ K (hm.2.2.1 hi) hne hN h3
          exact ⟨l, q1, LeafOk.head hm q2⟩
    | cd cd =>
      simp only at h
      unfold stepCd at h
      cases cd <;> simp only at h <;> try exact h.elim
      case skip => exact go (hk (y := []) (by simp)) (fun σ w a b cs ha => step_skip) h
      case label l => exact go (hk (y := []) (by simp)) (fun σ w a b cs ha => step_label) h
      case seq x y => exact go (hk (y := [.cd x, .cd y]) (by intro i hi'; simp at hi'; rcases hi' with rfl | rfl <;> trivial)) (fun σ w a b cs ha => step_seq) h
      case cond x y z =>
        split at h
        · rename_i t ht
          have hev : ∀ σ (a : Act), AR E f σ T a → a.eval x = .bool t := fun σ a ha => by
            have := ha.ev x
            rw [ht] at this
            generalize a.eval x = q at this
            cases this
            rfl
          cases t with
          | true => exact go (hk (y := [.cd y]) (by intro i hi'; simp at hi'; subst hi'; trivial)) (fun σ w a b cs ha => by simpa [itm] using step_cond (hev σ a ha)) h
          | false => exact go (hk (y := [.cd z]) (by intro i hi'; simp at hi'; subst hi'; trivial)) (fun σ w a b cs ha => by simpa [itm] using step_cond (hev σ a ha)) h
        · rename_i t ht
          have hev : ∀ σ (a : Act), AR E f σ T a → a.eval x = .bool t := fun σ a ha => by
            have := ha.ev x
            rw [ht] at this
            generalize a.eval x = q at this
            cases this
            rfl
          cases t with
          | true => exact go (hk (y := [.cd y]) (by intro i hi'; simp at hi'; subst hi'; trivial)) (fun σ w a b cs ha => by simpa [itm] using step_cond (hev σ a ha)) h
          | false => exact go (hk (y := [.cd z]) (by intro i hi'; simp at hi'; subst hi'; trivial)) (fun σ w a b cs ha => by simpa [itm] using step_cond (hev σ a ha)) h
        · exact h.elim
      case block id b => exact go (hk (y := [.cd b, .ib id]) (by intro i hi'; simp at hi'; rcases hi' with rfl | rfl <;> trivial)) (fun σ w a b cs ha => step_block) h
      case scope b => exact go (hk (y := [.cd b, .sc b]) (by intro i hi'; simp at hi'; rcases hi' with rfl | rfl <;> trivial)) (fun σ w a b cs ha => step_lone_go (by simp [stepG, stepG.exec, Frame.at, itm])) h
      case loop b =>
        have h1 := hk (y := [.cd b, .il b]) (by intro i hi'; simp at hi'; rcases hi' with rfl | rfl <;> trivial)
        cases stop with
        | true => exact ⟨_, h, Moves.ctl h1 fun σ w a b cs ha => step_loop⟩
        | false => exact go h1 (fun σ w a b cs ha => step_loop) h
      case exit id =>
        split at h
        · rename_i k' hk'
          obtain ⟨e1, e2⟩ := exit_ok hk'
          exact go (fun hx i hi' => hx i (List.mem_cons_of_mem _ (e2 i hi'))) (fun σ w a b cs ha => step_exit e1) h
        · exact h.elim
      case ret => exact fin_ok ok (.inr ⟨k, rfl⟩) h
      case region id ops d =>
        cases d with
        | false =>
          refine go (hk (y := [.rg ops.toList ops.toList]) (by intro i hi'; simp at hi'; subst hi'; exact ⟨[], rfl⟩)) (fun σ w a b cs ha => ?_) h
          have e : itm (.rg ops.toList ops.toList) = .inRegion ops (List.range ops.size) := by simp [itm, List.range_eq_range']
          simp only [List.map_cons, List.cons_append, List.nil_append, e]
          exact step_region
        | true =>
          obtain ⟨T', H', fr', h1, hg, h2⟩ := hD sy _ f T H ops.toList fr _ hH hne hN h
          have h3 := hk (y := []) (by simp)
          obtain ⟨l, q1, q2⟩ := ih ⟨f, k, T', H', fr'⟩ K (h3 hi) (hg.ne hne) (hN.grow hg hne) h1
          refine ⟨l, q1, LeafOk.head (c1 := ⟨f, k, T', H', fr'⟩) ⟨rfl, hg, h3, fun σ w a b cs ha hs hn hb => ?_⟩ q2⟩
          have := h2 σ w a b cs (k.map itm) id ha hs hn hb
          simpa [itm] using this
end
end Go.Ev
