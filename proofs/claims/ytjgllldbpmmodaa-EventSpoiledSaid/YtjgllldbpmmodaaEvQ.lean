/-
  An operation of the reckoner, whole: the cases.
-/
import Derived.Test.YtjgllldbpmmodaaEvP
import Derived.Test.YtjgllldbpmmodaaEvCq
import Derived.Test.YtjgllldbpmmodaaEvCs
import Derived.Test.YtjgllldbpmmodaaEvTl
namespace Go.Ev
open Go.RowKit
set_option linter.unusedSimpArgs false
section
variable {P : Program} {E : Env} (ok : EnvOk P E)
include ok
omit ok in
theorem guardless {o : Oper} {T : Tmps} {H : Heap} {fr : Nat} {K : Kon} {v : PV} {H' : Heap} {fr' : Nat} (hk : K v H' fr') (hg : Grow H H' fr fr')
    (h : ∀ σ w (a : Act), (∀ x ∈ o.op.operands, VR σ (ev T x) (a.eval x)) → Sim σ w H → NoneIn σ fr fr' → ∃ y σ' w', (execOp a.eval o).run P w = .ok (.value y) w' ∧ Out σ w H fr v H' fr' σ' w' y) : Step P o T H fr K :=
  ⟨v, H', fr', hk, hg, fun σ w a next Q ha hs hn hnext => by
    obtain ⟨y, σ', w', h1, h2⟩ := h σ w a ha hs hn
    exact wp_value h1 (hnext σ' w' y h2)⟩
theorem opx0_ok {sy : Bool} {X : Handler} (hX : HandOk P X) {o : Oper} {T : Tmps} {H : Heap} {fr : Nat} {K : Kon} (hne : H ≠ []) (hN : Names H fr) (h : opx0 cond E sy X T H fr o.op K) : Step P o T H fr K := by
  obtain ⟨dst, op, type, ps, after, guard⟩ := o
  cases op <;> simp only [opx0] at h <;> try exact h.elim
  case move x => exact step_pure h fun σ w a ha => ⟨_, by simp [execOp], ha x (by simp [Op.operands])⟩
  case assign x => exact step_pure h fun σ w a ha => ⟨_, by simp [execOp], ha x (by simp [Op.operands])⟩
  case pick c x y =>
    unfold oPick at h
    split at h
    · rename_i t ht
      have hc : ∀ σ (a : Act), (∀ z ∈ (Op.pick c x y).operands, VR σ (ev T z) (a.eval z)) → a.eval c = .bool t := fun σ a ha => by
        have := ha c (by simp [Op.operands])
        rw [ht] at this
        generalize a.eval c = u at this
        cases this
        rfl
      cases t with
      | true => exact step_pure h fun σ w a ha => ⟨_, by simp [execOp, hc σ a ha, asBool], ha x (by simp [Op.operands])⟩
      | false => exact step_pure h fun σ w a ha => ⟨_, by simp [execOp, hc σ a ha, asBool], ha y (by simp [Op.operands])⟩
    · rename_i t ht
      have hc : ∀ σ (a : Act), (∀ z ∈ (Op.pick c x y).operands, VR σ (ev T z) (a.eval z)) → a.eval c = .bool t := fun σ a ha => by
        have := ha c (by simp [Op.operands])
        rw [ht] at this
        generalize a.eval c = u at this
        cases this
        rfl
      cases t with
      | true => exact step_pure h fun σ w a ha => ⟨_, by simp [execOp, hc σ a ha, asBool], ha x (by simp [Op.operands])⟩
      | false => exact step_pure h fun σ w a ha => ⟨_, by simp [execOp, hc σ a ha, asBool], ha y (by simp [Op.operands])⟩
    · exact h.elim
  case alloc e =>
    unfold oAlloc at h
    split at h
    · rename_i i hi
      have e1 := ok.ty e i hi
      subst e1
      split at h
      · rename_i cs hz
        obtain ⟨J, hJ, -, -, hzJ, -⟩ := mk_info_z hz
        obtain ⟨zv, hzv, hz1, hzr⟩ := mkZ_ok hzJ
        refine guardless h (Grow.put _ _ _ _ _ _ (by omega) (by omega) (.inl rfl) (.inl (by omega))) fun σ w a ha hs hn => ?_
        obtain ⟨q1, σ', q2⟩ := newVar_ok (P := P) e hs hn (hzr σ) hz1
        exact ⟨_, σ', _, by simp [execOp, Instr.alloc, zeroValue, typeInfo, hJ, hzv, q1], q2⟩
      · exact h.elim
    · exact h.elim
  case box e x =>
    unfold oBox at h
    split at h
    · rename_i cs hc
      split at h
      · rename_i ho
        refine guardless h (Grow.put _ _ _ _ _ _ (by omega) (by omega) (.inl rfl) (.inl (by omega))) fun σ w a ha hs hn => ?_
        have hv := ha x (by simp [Op.operands])
        obtain ⟨q1, σ', q2⟩ := newVar_ok (P := P) e hs hn (pcells_ok hv hc) ho
        exact ⟨_, σ', _, by simp [execOp, Instr.box, q1], q2⟩
      · exact h.elim
    · exact h.elim
  case build t l =>
    obtain ⟨v, h1, h2⟩ := oBuild_ok ok h
    refine step_pure h1 fun σ w a ha => ?_
    have hp := parts_ok (σ := σ) (T := T) (ρ := a.eval) l.toList fun p hp => ha p.2 (by simp [Op.operands]; exact ⟨p.1, by simpa using hp⟩)
    obtain ⟨u, q1, q2⟩ := h2 σ w (l.map fun (i, x) => (i, a.eval x)) (by simpa using hp)
    exact ⟨u, by simp [execOp, q1], q2⟩
  case buildSlice t n l =>
    obtain ⟨v, H', fr', h1, hg, h2⟩ := oBuildSlice_ok ok h
    refine guardless h1 hg fun σ w a ha hs hn => ?_
    have hp := parts_ok (σ := σ) (T := T) (ρ := a.eval) l.toList fun p hp => ha p.2 (by simp [Op.operands]; exact ⟨p.1, by simpa using hp⟩)
    obtain ⟨u, σ', w', q1, q2⟩ := h2 σ w (l.map fun (i, x) => (i, a.eval x)) hs hn (by simpa using hp)
    exact ⟨u, σ', w', by simp [execOp, q1], q2⟩
  case load t x =>
    unfold oLoad at h
    split at h
    · rename_i p hp
      obtain ⟨v, h1, h2⟩ := ldv_ok ok h
      refine guardless h1 (Grow.refl _ _) fun σ w a ha hs hn => ?_
      have hx := ha x (by simp [Op.operands])
      rw [hp] at hx
      generalize hq : a.eval x = q at hx
      cases hx with
      | ptr _ rb hr =>
      obtain ⟨u, q1, q2⟩ := h2 σ w rb hs hr
      exact ⟨u, σ, w, by simp [execOp, hq, Instr.loadAt, Instr.sureAddr, q1], Out.same hs q2⟩
    · exact h.elim
  case store t x y =>
    unfold oStore at h
    split at h
    · rename_i p cs i hp hc hi
      split at h
      · rename_i hl
        obtain ⟨b, h1, ⟨e, he⟩, h2⟩ := stn_ok (P := P) fr h
        refine ⟨_, _, _, h1, Grow.put _ _ _ _ _ _ (Nat.le_refl _) (hN _ _ he) (.inl rfl) (.inr ⟨_, he⟩), fun σ w a next Q ha hs hn hnext => ?_⟩
        have hx := ha x (by simp [Op.operands])
        have hy := pcells_ok (ha y (by simp [Op.operands])) hc
        rw [hp] at hx
        generalize hq : a.eval x = q at hx
        cases hx with
        | ptr _ rb hr =>
        obtain ⟨w', q1, q2⟩ := h2 σ w rb _ hs hr hy
        obtain ⟨I, hI, hsz⟩ := szT_ok ok hi
        have hlen : (a.eval y).cells.size = I.size := by
          have h3 : (a.eval y).cells.size = len cs := hy.length
          rw [h3, hsz]
          exact Nat.eq_of_beq_eq_true hl
        exact wp_skip' (by simp [execOp, hq, Instr.storeAt, Instr.sureAddr, storeVar, run_size w hI, hlen, q1]) (hnext _ _ _ q2)
      · exact h.elim
    · exact h.elim
  case nilCheck x =>
    unfold oNil at h
    have hx : ∀ σ (a : Act), (∀ z ∈ (Op.nilCheck x).operands, VR σ (ev T z) (a.eval z)) → VR σ (ev T x) (a.eval x) := fun σ a ha => ha x (by simp [Op.operands])
    split at h
    · rename_i p hp
      refine step_pure h fun σ w a ha => ?_
      have h1 := hx σ a ha
      rw [hp] at h1
      generalize hq : a.eval x = q at h1
      cases h1 with
      | ptr _ rb hr => exact ⟨_, by simp [execOp, hq], .ptr p rb hr⟩
    · rename_i f l m hp
      refine step_pure h fun σ w a ha => ?_
      have h1 := hx σ a ha
      rw [hp] at h1
      generalize hq : a.eval x = q at h1
      cases h1 with
      | fn _ _ _ va vb ha hb => exact ⟨_, by simp [execOp, hq], .fn _ _ _ va vb ha hb⟩
    · exact h.elim
  case binOp op t x y ty =>
    obtain ⟨r, h1, h2⟩ := binW_ok ok h
    refine step_pure h1 fun σ w a ha => ?_
    obtain ⟨z, q1, q2⟩ := h2 σ w x y _ _ (ha x (by simp [Op.operands])) (ha y (by simp [Op.operands]))
    unfold binRun at q1
    refine ⟨z, ?_, q2⟩
    simp only [execOp]
    rw [Sem.run_bind, q1]
    rfl
  case unOp op t x =>
    obtain ⟨r, h1, h2⟩ := oUn_ok (P := P) h
    refine step_pure h1 fun σ w a ha => ?_
    obtain ⟨z, q1, q2⟩ := h2 σ w _ (ha x (by simp [Op.operands]))
    exact ⟨z, by simp [execOp, q1], q2⟩
  case convert src dst x =>
    obtain ⟨v, H', fr', h1, hg, h2⟩ := oConvert_ok ok h
    refine guardless h1 hg fun σ w a ha hs hn => ?_
    obtain ⟨u, σ', w', q1, q2⟩ := h2 σ w _ hs hn (ha x (by simp [Op.operands]))
    exact ⟨u, σ', w', by simp [execOp, q1], q2⟩
  case makeFunc f l m =>
    refine step_pure h fun σ w a ha => ?_
    have hl := evs_ok (σ := σ) (T := T) (ρ := a.eval) l.toList fun x hx => ha x (by simp [Op.operands]; exact .inl (by simpa using hx))
    have hm := evs_ok (σ := σ) (T := T) (ρ := a.eval) m.toList fun x hx => ha x (by simp [Op.operands]; exact .inr (by simpa using hx))
    exact ⟨.func f (l.map a.eval) (m.map a.eval), by simp [execOp, Instr.makeFunc], .fn f _ _ _ _ (by simpa using hl) (by simpa using hm)⟩
  case makeSlice t x y =>
    obtain ⟨v, H', fr', h1, hg, h2⟩ := oMake_ok ok h
    refine guardless h1 hg fun σ w a ha hs hn => ?_
    obtain ⟨u, σ', w', q1, q2⟩ := h2 σ w _ _ hs hn (ha x (by simp [Op.operands])) (ha y (by simp [Op.operands]))
    exact ⟨u, σ', w', by simp [execOp, q1], q2⟩
  case slice t x lo hi mx =>
    rcases oTail_ok ok hN h with h | ⟨v, H', fr', h1, hg, h2⟩
    case inr =>
      refine guardless h1 hg fun σ w a ha hs hn => ?_
      obtain ⟨u, σ', q1, q2⟩ := h2 σ w a.eval (ha x (by simp [Op.operands])) (fun y hy => ha y (by simp [Op.operands, hy])) hs hn
      exact ⟨u, σ', w, by simp [execOp, q1], q2⟩
    obtain ⟨r, h1, h2⟩ := oSlice_ok ok h
    refine step_pure h1 fun σ w a ha => ?_
    obtain ⟨z, q1, q2⟩ := h2 σ w a.eval (ha x (by simp [Op.operands])) (fun y hy => ha y (by simp [Op.operands, hy])) (fun y hy => ha y (by simp [Op.operands, hy])) (fun y hy => ha y (by simp [Op.operands, hy]))
    exact ⟨z, by simp [execOp, q1], q2⟩
  case fieldAddr s x i =>
    obtain ⟨r, h1, h2⟩ := oFieldAddr_ok ok h
    refine step_pure h1 fun σ w a ha => ?_
    obtain ⟨z, q1, q2⟩ := h2 σ w _ (ha x (by simp [Op.operands]))
    exact ⟨z, by simp [execOp, q1], q2⟩
  case field s x i =>
    obtain ⟨r, h1, h2⟩ := oField_ok ok h
    refine step_pure h1 fun σ w a ha => ?_
    obtain ⟨z, q1, q2⟩ := h2 σ w _ (ha x (by simp [Op.operands]))
    exact ⟨z, by simp [execOp, q1], q2⟩
  case indexAddr t x y =>
    obtain ⟨r, h1, h2⟩ := oIndexAddr_ok ok h
    refine step_pure h1 fun σ w a ha => ?_
    obtain ⟨z, q1, q2⟩ := h2 σ w _ _ (ha x (by simp [Op.operands])) (ha y (by simp [Op.operands]))
    exact ⟨z, by simp [execOp, q1], q2⟩
  case index t x y =>
    obtain ⟨r, h1, h2⟩ := oIndex_ok ok h
    refine step_pure h1 fun σ w a ha => ?_
    obtain ⟨z, q1, q2⟩ := h2 σ w _ _ (ha x (by simp [Op.operands])) (ha y (by simp [Op.operands]))
    exact ⟨z, by simp [execOp, q1], q2⟩
  case extract x i =>
    obtain ⟨r, h1, h2⟩ := oExtract_ok (P := P) h
    refine step_pure h1 fun σ w a ha => ?_
    obtain ⟨z, q1, q2⟩ := h2 σ w _ (ha x (by simp [Op.operands]))
    exact ⟨z, by simp [execOp, q1], q2⟩
  case call c =>
    obtain ⟨callee, args, argTypes⟩ := c
    obtain ⟨args⟩ := args
    obtain ⟨argTypes⟩ := argTypes
    unfold oCall at h
    cases callee with
    | invoke r m => exact h.elim
    | value f =>
      simp only at h
      split at h
      · rename_i g l m hf
        obtain ⟨v, H', fr', h1, hg, h2, F, hF, hFb, hFn⟩ := hX _ _ _ _ _ hne hN h
        refine ⟨v, H', fr', h1, hg, fun σ w a next Q ha hs hn hnext => ?_⟩
        have hfv := ha f (by simp [Op.operands, Call.operands])
        rw [hf] at hfv
        generalize hq : a.eval f = q at hfv
        cases hfv with
        | fn _ _ _ va vb hva hvb =>
        have hargs := evs_ok (σ := σ) (T := T) (ρ := a.eval) args fun x hx => ha x (by simp [Op.operands, Call.operands]; exact .inr hx)
        have hvals := (hva.append hargs).append hvb
        have hrun : (execOp a.eval ⟨dst, .call ⟨.value f, ⟨args⟩, ⟨argTypes⟩⟩, type, ps, after, guard⟩).run P w = .ok (.enter g (va ++ (args.map a.eval).toArray ++ vb)) w := by
          have hnone : ¬ F.body = none := by cases hb : F.body <;> simp_all
          have hname : ¬ F.name = "runtime.NumGoroutine" := by simpa using hFn
          simp [execOp, resolve, hq, Deferred.ofValue, invoke, callFunc, program, Sem.run, hF, hname, hnone]
        unfold Oper.wp
        rw [hrun]
        refine Calls.mono (h2 σ w (va ++ (args.map a.eval).toArray ++ vb) (by simpa using hvals) hs hn) fun e w' he => ?_
        obtain ⟨v', σ', rfl, ho⟩ := he
        exact hnext σ' w' v' ho
      · exact h.elim
    | builtin b =>
      simp only at h
      unfold oBuiltin at h
      split at h
      · split at h
        · rename_i x t ts
          split at h
          · rename_i i hi
            have e1 := ok.ty t i hi
            subst e1
            split at h
            · rename_i n hn
              refine step_pure h fun σ w a ha => ⟨_, ?_, .int .i64 n⟩
              have := lenOf_ok (P := P) (w := w) hn (ha x (by simp [Op.operands, Call.operands])) (⟨t :: ts⟩ : Array TypeId) (by simp) type
              simp [execOp, resolve, invoke, builtin, this]
            · exact h.elim
          · exact h.elim
        · exact h.elim
      · split at h
        · rename_i v hv
          refine step_pure h fun σ w a ha => ?_
          have hargs := evs_ok (σ := σ) (T := T) (ρ := a.eval) args fun x hx => ha x (by simp [Op.operands, Call.operands]; exact hx)
          obtain ⟨y, q1, q2⟩ := minl_ok (P := P) (w := w) hv (us := (args.map a.eval).toArray) (by simpa using hargs) ⟨argTypes⟩ type
          exact ⟨y, by simp [execOp, resolve, invoke, builtin, q1], q2⟩
        · exact h.elim
      · split at h
        · rename_i v hv
          refine step_pure h fun σ w a ha => ?_
          have hargs := evs_ok (σ := σ) (T := T) (ρ := a.eval) args fun x hx => ha x (by simp [Op.operands, Call.operands]; exact hx)
          obtain ⟨y, q1, q2⟩ := maxl_ok (P := P) (w := w) hv (us := (args.map a.eval).toArray) (by simpa using hargs) ⟨argTypes⟩ type
          exact ⟨y, by simp [execOp, resolve, invoke, builtin, q1], q2⟩
        · exact h.elim
      · split at h
        · rename_i s x t u
          split at h
          · rename_i e j he
            obtain ⟨ht, hj, rfl⟩ := elemT_ok ok he
            split at h
            · rename_i z h0 hby hz
              split at h
              · rename_i hl
                obtain ⟨J, hJ, hsz, hbJ, hzJ, -⟩ := mk_info_z hz
                have hl := Nat.eq_of_beq_eq_true hl
                rw [hsz] at hl h h0
                split at h
                · rename_i htu
                  have htu := Nat.eq_of_beq_eq_true htu
                  subst htu
                  obtain ⟨v, H', fr', h1, hg, h2⟩ := app_ok hN ht hJ hzJ hl (by rw [← hbJ]; simpa [Nat.blt_eq] using hby) h
                  refine guardless h1 hg fun σ w a ha hs hn => ?_
                  obtain ⟨u, σ', w', q1, q2⟩ := h2 σ w _ _ type hs hn (ha s (by simp [Op.operands, Call.operands])) (ha x (by simp [Op.operands, Call.operands]))
                  exact ⟨u, σ', w', by simp [execOp, resolve, invoke, builtin, q1], q2⟩
                · split at h
                  · rename_i i hi
                    have e1 := ok.ty u i hi
                    subst e1
                    split at h
                    · rename_i k hk
                      obtain ⟨v, H', fr', h1, hg, h2⟩ := appZ_ok ht (mkD_int ((mk_info (by rw [hk]; simp)).choose_spec.2.2.2.2.symm.trans hk)) hJ hzJ hl (by simpa [Nat.blt_eq] using h0) (by rw [← hbJ]; simpa [Nat.blt_eq] using hby) h
                      refine guardless h1 hg fun σ w a ha hs hn => ?_
                      obtain ⟨u, σ', w', q1, q2⟩ := h2 σ w _ _ type hs hn (ha s (by simp [Op.operands, Call.operands])) (ha x (by simp [Op.operands, Call.operands]))
                      exact ⟨u, σ', w', by simp [execOp, resolve, invoke, builtin, q1], q2⟩
                    · exact h.elim
                  · exact h.elim
              · exact h.elim
            · exact h.elim
          · exact h.elim
        · exact h.elim
      · split at h
        · rename_i d s t ts
          split at h
          · rename_i e j he
            obtain ⟨ht, hj, rfl⟩ := elemT_ok ok he
            split at h
            · rename_i z hz
              obtain ⟨J, hJ, hsz, hbJ, hzJ, -⟩ := mk_info_z hz
              rw [hsz] at h
              obtain ⟨v, H', h1, hg, h2⟩ := cpy_ok hN ht hJ h
              refine guardless h1 hg fun σ w a ha hs hn => ?_
              obtain ⟨u, w', q1, q2⟩ := h2 σ w _ _ type ⟨t :: ts⟩ (by simp) hs (ha d (by simp [Op.operands, Call.operands])) (ha s (by simp [Op.operands, Call.operands]))
              exact ⟨u, σ, w', by simp [execOp, resolve, invoke, builtin, q1], q2⟩
            · exact h.elim
          · exact h.elim
        · exact h.elim
      · split at h
        · rename_i x t ts
          split at h
          · rename_i i hi
            have e1 := ok.ty t i hi
            subst e1
            split at h
            · rename_i n hn
              refine step_pure h fun σ w a ha => ⟨_, ?_, .int .i64 n⟩
              have := capOf_ok (P := P) (w := w) hn (ha x (by simp [Op.operands, Call.operands])) (⟨t :: ts⟩ : Array TypeId) (by simp) type
              simp [execOp, resolve, invoke, builtin, this]
            · exact h.elim
          · exact h.elim
        · exact h.elim
      · exact h.elim
omit ok in
theorem spl_ok {v : PV} {K : PV → Prop} (h : spl cond v K) : ∃ u, K u ∧ ∀ σ x, VR σ v x → VR σ u x := by
  unfold spl at h
  split at h
  · rename_i b
    cases b with
    | true => exact ⟨_, h, fun σ x hx => by cases hx; exact .tf true⟩
    | false => exact ⟨_, h, fun σ x hx => by cases hx; exact .tf false⟩
  · exact ⟨_, h, fun σ x hx => hx⟩
theorem opx_ok {sy : Bool} {X : Handler} (hX : HandOk P X) {o : Oper} {T : Tmps} {H : Heap} {fr : Nat} {K : Kon} (hne : H ≠ []) (hN : Names H fr) (h : opx cond E sy X T H fr o.op K) : Step P o T H fr K := by
  unfold opx at h
  obtain ⟨v, H', fr', h1, h2, h3⟩ := opx0_ok ok hX hne hN h
  obtain ⟨u, h4, h5⟩ := spl_ok h1
  exact ⟨u, H', fr', h4, h2, fun σ w a next Q ha hs hn hnext => h3 σ w a next Q ha hs hn fun σ' w' v' ho => hnext σ' w' v' ⟨h5 _ _ ho.v, ho.sim, ho.mon, ho.ext, ho.frm⟩⟩
end
end Go.Ev
