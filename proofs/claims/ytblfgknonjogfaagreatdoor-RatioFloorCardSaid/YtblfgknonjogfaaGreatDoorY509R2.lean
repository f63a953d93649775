/-
  The reckoner, 2 of 3: what this statement needs of it.
-/
import Derived.Test.YtblfgknonjogfaaGreatDoorY509R1
set_option linter.unusedVariables false
set_option linter.unusedSimpArgs false
set_option linter.unusedSectionVars false
namespace Go.Ev
open Go.RowKit
section
variable {P:Program} {E:Env} (ok:xa P E)
include ok
omit ok in
theorem xF {o:Oper} {T:yC} {H:zQ} {fr:Nat} {K:Kon} {v:PV} {H':zQ} {fr':Nat} (hk:K v H' fr') (hg:Grow H H' fr fr')
    (h: ∀ σ w (a:Act),(∀ x ∈ o.op.operands,VR σ (ev T x) (a.eval x))→Sim σ w H→NoneIn σ fr fr'→ ∃ y σ' w',(execOp a.eval o).run P w= .ok (.value y) w'∧Out σ w H fr v H' fr' σ' w' y):jU P o T H fr K:=
  ⟨v,H',fr',hk,hg,fun σ w a next Q ha hs hn hnext=>by
   obtain ⟨y,σ',w',h1,h2⟩:=h σ w a ha hs hn
   exact qv h1 (hnext σ' w' y h2)⟩
theorem ja {sy : Bool} {X:xN} (hX:sh P X) {o:Oper} {T:yC} {H:zQ} {fr:Nat} {K:Kon} (hne:H≠ []) (hN:Names H fr) (h:ir cond E sy X T H fr o.op K):jU P o T H fr K:=by
 obtain ⟨dst,op,type,ps,after,guard⟩:=o
 cases op<;>simp only [ir] at h<;>try exact h.elim
 case move x=>exact z6 h fun σ w a ha=>⟨_,by simp [execOp],ha x (by simp [Op.operands])⟩
 case assign x=>exact z6 h fun σ w a ha=>⟨_,by simp [execOp],ha x (by simp [Op.operands])⟩
 case pick c x y=>
  unfold js at h
  split at h
  · rename_i t ht
    have hc: ∀ σ (a:Act),(∀ z ∈ (Op.pick c x y).operands,VR σ (ev T z) (a.eval z))→a.eval c= .bool t:=fun σ a ha=>by
     have:=ha c (by simp [Op.operands])
     rw [ht] at this
     generalize a.eval c=u at this
     cases this
     rfl
    cases t with
    |true=>exact z6 h fun σ w a ha=>⟨_,by simp [execOp,hc σ a ha,asBool],ha x (by simp [Op.operands])⟩
    |false=>exact z6 h fun σ w a ha=>⟨_,by simp [execOp,hc σ a ha,asBool],ha y (by simp [Op.operands])⟩
  · rename_i t ht
    have hc: ∀ σ (a:Act),(∀ z ∈ (Op.pick c x y).operands,VR σ (ev T z) (a.eval z))→a.eval c= .bool t:=fun σ a ha=>by
     have:=ha c (by simp [Op.operands])
     rw [ht] at this
     generalize a.eval c=u at this
     cases this
     rfl
    cases t with
    |true=>exact z6 h fun σ w a ha=>⟨_,by simp [execOp,hc σ a ha,asBool],ha x (by simp [Op.operands])⟩
    |false=>exact z6 h fun σ w a ha=>⟨_,by simp [execOp,hc σ a ha,asBool],ha y (by simp [Op.operands])⟩
  · exact h.elim
 case alloc e=>
  unfold kh at h
  split at h
  · rename_i i hi
    have e1:=ok.ty e i hi
    subst e1
    split at h
    · rename_i cs hz
      obtain ⟨J,hJ,-,-,hzJ,-⟩:=wE hz
      obtain ⟨zv,hzv,hz1,hzr⟩:=ux hzJ
      refine xF h (Grow.put _ _ _ _ _ _ (by omega) (by omega) (.inl rfl) (.inl (by omega))) fun σ w a ha hs hn=> ?_
      obtain ⟨q1,σ',q2⟩:=rO (P:=P) e hs hn (hzr σ) hz1
      exact ⟨_,σ',_,by simp [execOp,Instr.alloc,zeroValue,typeInfo,hJ,hzv,q1],q2⟩
    · exact h.elim
  · exact h.elim
 case box e x=>
  unfold gn at h
  split at h
  · rename_i cs hc
    split at h
    · rename_i ho
      refine xF h (Grow.put _ _ _ _ _ _ (by omega) (by omega) (.inl rfl) (.inl (by omega))) fun σ w a ha hs hn=> ?_
      have hv:=ha x (by simp [Op.operands])
      obtain ⟨q1,σ',q2⟩:=rO (P:=P) e hs hn (vf hv hc) ho
      exact ⟨_,σ',_,by simp [execOp,Instr.box,q1],q2⟩
    · exact h.elim
  · exact h.elim
 case build t l=>
  obtain ⟨v,h1,h2⟩:=nv ok h
  refine z6 h1 fun σ w a ha=> ?_
  have hp:=sF (σ:=σ) (T:=T) (ρ:=a.eval) l.toList fun p hp=>ha p.2 (by simp [Op.operands]; exact ⟨p.1,by simpa using hp⟩)
  obtain ⟨u,q1,q2⟩:=h2 σ w (l.map fun (i,x)=>(i,a.eval x)) (by simpa using hp)
  exact ⟨u,by simp [execOp,q1],q2⟩
 case buildSlice t n l=>
  obtain ⟨v,H',fr',h1,hg,h2⟩:=sU ok h
  refine xF h1 hg fun σ w a ha hs hn=> ?_
  have hp:=sF (σ:=σ) (T:=T) (ρ:=a.eval) l.toList fun p hp=>ha p.2 (by simp [Op.operands]; exact ⟨p.1,by simpa using hp⟩)
  obtain ⟨u,σ',w',q1,q2⟩:=h2 σ w (l.map fun (i,x)=>(i,a.eval x)) hs hn (by simpa using hp)
  exact ⟨u,σ',w',by simp [execOp,q1],q2⟩
 case load t x=>
  unfold iH at h
  split at h
  · rename_i p hp
    obtain ⟨v,h1,h2⟩:=mn ok h
    refine xF h1 (Grow.refl _ _) fun σ w a ha hs hn=> ?_
    have hx:=ha x (by simp [Op.operands])
    rw [hp] at hx
    generalize hq:a.eval x=q at hx
    cases hx with
    |ptr _ rb hr=>
    obtain ⟨u,q1,q2⟩:=h2 σ w rb hs hr
    exact ⟨u,σ,w,by simp [execOp,hq,Instr.loadAt,Instr.sureAddr,q1],Out.same hs q2⟩
  · exact h.elim
 case store t x y=>
  unfold kX at h
  split at h
  · rename_i p cs i hp hc hi
    split at h
    · rename_i hl
      obtain ⟨b,h1,⟨e,he⟩,h2⟩:=iY (P:=P) fr h
      refine ⟨_,_,_,h1,Grow.put _ _ _ _ _ _ (Nat.le_refl _) (hN _ _ he) (.inl rfl) (.inr ⟨_,he⟩),fun σ w a next Q ha hs hn hnext=> ?_⟩
      have hx:=ha x (by simp [Op.operands])
      have hy:=vf (ha y (by simp [Op.operands])) hc
      rw [hp] at hx
      generalize hq:a.eval x=q at hx
      cases hx with
      |ptr _ rb hr=>
      obtain ⟨w',q1,q2⟩:=h2 σ w rb _ hs hr hy
      obtain ⟨I,hI,hsz⟩:=xm ok hi
      have hlen:(a.eval y).cells.size=I.size:=by
       have h3:(a.eval y).cells.size=len cs:=hy.length
       rw [h3,hsz]
       exact Nat.eq_of_beq_eq_true hl
      exact md (by simp [execOp,hq,Instr.storeAt,Instr.sureAddr,storeVar,yL w hI,hlen,q1]) (hnext _ _ _ q2)
    · exact h.elim
  · exact h.elim
 case nilCheck x=>
  unfold gz at h
  have hx: ∀ σ (a:Act),(∀ z ∈ (Op.nilCheck x).operands,VR σ (ev T z) (a.eval z))→VR σ (ev T x) (a.eval x):=fun σ a ha=>ha x (by simp [Op.operands])
  split at h
  · rename_i p hp
    refine z6 h fun σ w a ha=> ?_
    have h1:=hx σ a ha
    rw [hp] at h1
    generalize hq:a.eval x=q at h1
    cases h1 with
    |ptr _ rb hr=>exact ⟨_,by simp [execOp,hq],.ptr p rb hr⟩
  · rename_i f l m hp
    refine z6 h fun σ w a ha=> ?_
    have h1:=hx σ a ha
    rw [hp] at h1
    generalize hq:a.eval x=q at h1
    cases h1 with
    |fn _ _ _ va vb ha hb=>exact ⟨_,by simp [execOp,hq],.fn _ _ _ va vb ha hb⟩
  · exact h.elim
 case binOp op t x y ty=>
  obtain ⟨r,h1,h2⟩:=ic ok h
  refine z6 h1 fun σ w a ha=> ?_
  obtain ⟨z,q1,q2⟩:=h2 σ w x y _ _ (ha x (by simp [Op.operands])) (ha y (by simp [Op.operands]))
  unfold yb at q1
  refine ⟨z,?_,q2⟩
  simp only [execOp]
  rw [Sem.run_bind,q1]
  rfl
 case unOp op t x=>
  obtain ⟨r,h1,h2⟩:=gI (P:=P) h
  refine z6 h1 fun σ w a ha=> ?_
  obtain ⟨z,q1,q2⟩:=h2 σ w _ (ha x (by simp [Op.operands]))
  exact ⟨z,by simp [execOp,q1],q2⟩
 case convert src dst x=>
  obtain ⟨v,H',fr',h1,hg,h2⟩:=pM ok h
  refine xF h1 hg fun σ w a ha hs hn=> ?_
  obtain ⟨u,σ',w',q1,q2⟩:=h2 σ w _ hs hn (ha x (by simp [Op.operands]))
  exact ⟨u,σ',w',by simp [execOp,q1],q2⟩
 case makeFunc f l m=>
  refine z6 h fun σ w a ha=> ?_
  have hl:=tE (σ:=σ) (T:=T) (ρ:=a.eval) l.toList fun x hx=>ha x (by simp [Op.operands]; exact .inl (by simpa using hx))
  have hm:=tE (σ:=σ) (T:=T) (ρ:=a.eval) m.toList fun x hx=>ha x (by simp [Op.operands]; exact .inr (by simpa using hx))
  exact ⟨.func f (l.map a.eval) (m.map a.eval),by simp [execOp,Instr.makeFunc],.fn f _ _ _ _ (by simpa using hl) (by simpa using hm)⟩
 case makeSlice t x y=>
  obtain ⟨v,H',fr',h1,hg,h2⟩:=lf ok h
  refine xF h1 hg fun σ w a ha hs hn=> ?_
  obtain ⟨u,σ',w',q1,q2⟩:=h2 σ w _ _ hs hn (ha x (by simp [Op.operands])) (ha y (by simp [Op.operands]))
  exact ⟨u,σ',w',by simp [execOp,q1],q2⟩
 case slice t x lo hi mx=>
  obtain ⟨r,h1,h2⟩:=mA ok h
  refine z6 h1 fun σ w a ha=> ?_
  obtain ⟨z,q1,q2⟩:=h2 σ w a.eval (ha x (by simp [Op.operands])) (fun y hy=>ha y (by simp [Op.operands,hy])) (fun y hy=>ha y (by simp [Op.operands,hy])) (fun y hy=>ha y (by simp [Op.operands,hy]))
  exact ⟨z,by simp [execOp,q1],q2⟩
 case fieldAddr s x i=>
  obtain ⟨r,h1,h2⟩:=s9 ok h
  refine z6 h1 fun σ w a ha=> ?_
  obtain ⟨z,q1,q2⟩:=h2 σ w _ (ha x (by simp [Op.operands]))
  exact ⟨z,by simp [execOp,q1],q2⟩
 case field s x i=>
  obtain ⟨r,h1,h2⟩:=nf ok h
  refine z6 h1 fun σ w a ha=> ?_
  obtain ⟨z,q1,q2⟩:=h2 σ w _ (ha x (by simp [Op.operands]))
  exact ⟨z,by simp [execOp,q1],q2⟩
 case indexAddr t x y=>
  obtain ⟨r,h1,h2⟩:=rA ok h
  refine z6 h1 fun σ w a ha=> ?_
  obtain ⟨z,q1,q2⟩:=h2 σ w _ _ (ha x (by simp [Op.operands])) (ha y (by simp [Op.operands]))
  exact ⟨z,by simp [execOp,q1],q2⟩
 case index t x y=>
  obtain ⟨r,h1,h2⟩:=mI ok h
  refine z6 h1 fun σ w a ha=> ?_
  obtain ⟨z,q1,q2⟩:=h2 σ w _ _ (ha x (by simp [Op.operands])) (ha y (by simp [Op.operands]))
  exact ⟨z,by simp [execOp,q1],q2⟩
 case extract x i=>
  obtain ⟨r,h1,h2⟩:=pb (P:=P) h
  refine z6 h1 fun σ w a ha=> ?_
  obtain ⟨z,q1,q2⟩:=h2 σ w _ (ha x (by simp [Op.operands]))
  exact ⟨z,by simp [execOp,q1],q2⟩
 case call c =>
  obtain ⟨callee,args,argTypes⟩:=c
  obtain ⟨args⟩:=args
  obtain ⟨argTypes⟩:=argTypes
  unfold j8 at h
  cases callee with
  |invoke r m=>exact h.elim
  | value f=>
   simp only at h
   split at h
   · rename_i g l m hf
     obtain ⟨v,H',fr',h1,hg,h2,F,hF,hFb,hFn⟩:=hX _ _ _ _ _ hne hN h
     refine ⟨v,H',fr',h1,hg,fun σ w a next Q ha hs hn hnext=> ?_⟩
     have hfv:=ha f (by simp [Op.operands,Call.operands])
     rw [hf] at hfv
     generalize hq:a.eval f=q at hfv
     cases hfv with
     |fn _ _ _ va vb hva hvb=>
     have hargs:=tE (σ:=σ) (T:=T) (ρ:=a.eval) args fun x hx=>ha x (by simp [Op.operands,Call.operands]; exact .inr hx)
     have hvals:=(hva.append hargs).append hvb
     have hrun:(execOp a.eval ⟨dst,.call ⟨.value f,⟨args⟩,⟨argTypes⟩⟩,type,ps,after,guard⟩).run P w= .ok (.enter g (va++(args.map a.eval).toArray++vb)) w:=by
      have hnone: ¬ F.body=none:=by cases hb:F.body<;>simp_all
      have hname: ¬ F.name= "runtime.NumGoroutine" :=by simpa using hFn
      simp [execOp,resolve,hq,Deferred.ofValue,invoke,callFunc,program,Sem.run,hF,hname,hnone]
     unfold Oper.wp
     rw [hrun]
     refine Calls.mono (h2 σ w (va++(args.map a.eval).toArray++vb) (by simpa using hvals) hs hn) fun e w' he=> ?_
     obtain ⟨v',σ',rfl,ho⟩:=he
     exact hnext σ' w' v' ho
   · exact h.elim
  | builtin b =>
   simp only at h
   unfold pi at h
   split at h
   · split at h
     · rename_i x t ts
       split at h
       · rename_i i hi
         have e1:=ok.ty t i hi
         subst e1
         split at h
         · rename_i n hn
           refine z6 h fun σ w a ha=>⟨_,?_,.int .i64 n⟩
           have:=mf (P:=P) (w:=w) hn (ha x (by simp [Op.operands,Call.operands])) (⟨t::ts⟩:Array TypeId) (by simp) type
           simp [execOp,resolve,invoke,builtin,this]
         · exact h.elim
       · exact h.elim
     · exact h.elim
   · split at h
     · rename_i v hv
       refine z6 h fun σ w a ha=> ?_
       have hargs:=tE (σ:=σ) (T:=T) (ρ:=a.eval) args fun x hx=>ha x (by simp [Op.operands,Call.operands]; exact hx)
       obtain ⟨y,q1,q2⟩:=jh (P:=P) (w:=w) hv (us:=(args.map a.eval).toArray) (by simpa using hargs) ⟨argTypes⟩ type
       exact ⟨y,by simp [execOp,resolve,invoke,builtin,q1],q2⟩
     · exact h.elim
   · split at h
     · rename_i v hv
       refine z6 h fun σ w a ha=> ?_
       have hargs:=tE (σ:=σ) (T:=T) (ρ:=a.eval) args fun x hx=>ha x (by simp [Op.operands,Call.operands]; exact hx)
       obtain ⟨y,q1,q2⟩:=jH (P:=P) (w:=w) hv (us:=(args.map a.eval).toArray) (by simpa using hargs) ⟨argTypes⟩ type
       exact ⟨y,by simp [execOp,resolve,invoke,builtin,q1],q2⟩
     · exact h.elim
   · split at h
     · rename_i s x t u
       split at h
       · rename_i e j he
         obtain ⟨ht,hj,rfl⟩:=uP ok he
         split at h
         · rename_i z h0 hby hz
           split at h
           · rename_i hl
             obtain ⟨J,hJ,hsz,hbJ,hzJ,-⟩:=wE hz
             have hl:=Nat.eq_of_beq_eq_true hl
             rw [hsz] at hl h h0
             split at h
             · rename_i htu
               have htu:=Nat.eq_of_beq_eq_true htu
               subst htu
               obtain ⟨v,H',fr',h1,hg,h2⟩:=gG hN ht hJ hzJ hl (by rw [← hbJ]; simpa [Nat.blt_eq] using hby) h
               refine xF h1 hg fun σ w a ha hs hn=> ?_
               obtain ⟨u,σ',w',q1,q2⟩:=h2 σ w _ _ type hs hn (ha s (by simp [Op.operands,Call.operands])) (ha x (by simp [Op.operands,Call.operands]))
               exact ⟨u,σ',w',by simp [execOp,resolve,invoke,builtin,q1],q2⟩
             · split at h
               · rename_i i hi
                 have e1:=ok.ty u i hi
                 subst e1
                 split at h
                 · rename_i k hk
                   obtain ⟨v,H',fr',h1,hg,h2⟩:=jA ht (vn ((yv (by rw [hk]; simp)).choose_spec.2.2.2.2.symm.trans hk)) hJ hzJ hl (by simpa [Nat.blt_eq] using h0) (by rw [← hbJ]; simpa [Nat.blt_eq] using hby) h
                   refine xF h1 hg fun σ w a ha hs hn=> ?_
                   obtain ⟨u,σ',w',q1,q2⟩:=h2 σ w _ _ type hs hn (ha s (by simp [Op.operands,Call.operands])) (ha x (by simp [Op.operands,Call.operands]))
                   exact ⟨u,σ',w',by simp [execOp,resolve,invoke,builtin,q1],q2⟩
                 · exact h.elim
               · exact h.elim
           · exact h.elim
         · exact h.elim
       · exact h.elim
     · exact h.elim
   · split at h
     · rename_i d s t ts
       split at h
       · rename_i e j he
         obtain ⟨ht,hj,rfl⟩:=uP ok he
         split at h
         · rename_i z hz
           obtain ⟨J,hJ,hsz,hbJ,hzJ,-⟩:=wE hz
           rw [hsz] at h
           obtain ⟨v,H',h1,hg,h2⟩:=hZ hN ht hJ h
           refine xF h1 hg fun σ w a ha hs hn=> ?_
           obtain ⟨u,w',q1,q2⟩:=h2 σ w _ _ type ⟨t::ts⟩ (by simp) hs (ha d (by simp [Op.operands,Call.operands])) (ha s (by simp [Op.operands,Call.operands]))
           exact ⟨u,σ,w',by simp [execOp,resolve,invoke,builtin,q1],q2⟩
         · exact h.elim
       · exact h.elim
     · exact h.elim
   · split at h
     · rename_i x t ts
       split at h
       · rename_i i hi
         have e1:=ok.ty t i hi
         subst e1
         split at h
         · rename_i n hn
           refine z6 h fun σ w a ha=>⟨_,?_,.int .i64 n⟩
           have:=kj (P:=P) (w:=w) hn (ha x (by simp [Op.operands,Call.operands])) (⟨t::ts⟩:Array TypeId) (by simp) type
           simp [execOp,resolve,invoke,builtin,this]
         · exact h.elim
       · exact h.elim
     · exact h.elim
   · exact h.elim
omit ok in
theorem iy {v:PV} {K:PV→Prop} (h:spl cond v K): ∃ u,K u∧ ∀ σ x,VR σ v x→VR σ u x:=by
 unfold spl at h
 split at h
 · rename_i b
   cases b with
   |true=>exact ⟨_,h,fun σ x hx=>by cases hx; exact .tf true⟩
   |false=>exact ⟨_,h,fun σ x hx=>by cases hx; exact .tf false⟩
 · exact ⟨_,h,fun σ x hx=>hx⟩
theorem ls {sy:Bool} {X:xN} (hX:sh P X) {o:Oper} {T:yC} {H:zQ} {fr:Nat} {K:Kon} (hne:H≠ []) (hN:Names H fr) (h:opx cond E sy X T H fr o.op K):jU P o T H fr K:=by
 unfold opx at h
 obtain ⟨v,H',fr',h1,h2,h3⟩:=ja ok hX hne hN h
 obtain ⟨u,h4,h5⟩:=iy h1
 exact ⟨u,H',fr',h4,h2,fun σ w a next Q ha hs hn hnext=>h3 σ w a next Q ha hs hn fun σ' w' v' ho=>hnext σ' w' v' ⟨h5 _ _ ho.v,ho.sim,ho.mon,ho.ext,ho.frm⟩⟩
end
end Go.Ev
namespace Go.Ev
open Go.RowKit
def itm:It→Item
  | .cd c=> .code c
  | .ib id=> .inBlock id
  | .il c=> .inLoop c
  | .sc c=> .inScope c
  | .rg all rest=> .inRegion all.toArray (List.range' (all.length-rest.length) rest.length)
def ug:It→Prop
  | .rg all rest=> ∃ p,all=p++rest
  |_=>True
structure AR (E:Env) (f:FuncId) (σ:Sg) (T:yC) (a:Act):Prop where
 defers:a.defers= []
 size: ∀ fn,xG E.fs f=some fn→fn.nt≤a.tmps.size
 get: ∀ t,VR σ (xi T t) (a.tmps.getD t undef)
theorem AR.mono {E:Env} {f:FuncId} {σ τ:Sg} {T:yC} {a:Act} (h:AR E f σ T a) (m:Mono σ τ):AR E f τ T a:=⟨h.defers,h.size,fun t=>(h.get t).mono m⟩
theorem AR.ev {E:Env} {f:FuncId} {σ:Sg} {T:yC} {a:Act} (h:AR E f σ T a) (x:Operand):VR σ (ev T x) (a.eval x):=by
 cases x with
 |tmp t=>exact h.get t
 |const v=>exact p5 σ 1 v
 |global g=>exact .unk _
 |func f=>exact .fn _ _ _ _ _ .nil .nil
theorem xE (d:Nat) (v:PV) (T:yC) (t:Nat):xi ((d,v)::T) t=if d=t then v else xi T t:=by
 simp only [xi]
 by_cases h:d=t
 · subst h; simp
 · have:Nat.beq d t=false:=by cases hb:Nat.beq d t; rfl; exact absurd (Nat.eq_of_beq_eq_true hb) h
   simp [this,h]
theorem AR.put {E:Env} {f:FuncId} {σ:Sg} {T:yC} {a:Act} {fn:FnI} {d:Nat} {v:PV} {u:Value} (h:AR E f σ T a) (hf:xG E.fs f=some fn) (hd:d<fn.nt) (hv:VR σ v u):AR E f σ ((d,v)::T) (a.put (some d) u):=by
 refine ⟨h.defers,fun fn' h'=>by simpa [Act.put] using h.size fn' h',fun t=> ?_⟩
 rw [xE]
 have hs:d<a.tmps.size:=Nat.lt_of_lt_of_le hd (h.size fn hf)
 by_cases e:d=t
 · subst e
   simp [Act.put,hs,hv]
 · have:=h.get t
   simp only [e,if_false]
   simpa [Act.put,Array.getElem?_setIfInBounds_ne e] using this
theorem AR.tset {E:Env} {f:FuncId} {T:yC} {d:Option Tmp} {v:PV} {K:yC→Prop} (h:tset E f T d v K): ∃ T',K T'∧ ∀ (τ:Sg) (b:Act) (x:Value),AR E f τ T b→VR τ v x→AR E f τ T' (b.put d x):=by
 unfold Ev.tset at h
 cases d with
 |none=>exact ⟨T,h,fun σ a u ha _=>ha⟩
 | some d=>
  simp only at h
  split at h
  · rename_i fn hf
    split at h
    · rename_i hd
      exact ⟨_,h,fun σ a u ha hv=>ha.put hf (by simpa [Nat.blt_eq] using hd) hv⟩
    · exact h.elim
  · exact h.elim
theorem Out.trans {σ σ1 σ2:Sg} {w w1 w2:World} {H H1 H2:zQ} {fr fr1 fr2:Nat} {v1 v:PV} {u1 u:Value} (h:Out σ w H fr v1 H1 fr1 σ1 w1 u1) (k:Out σ1 w1 H1 fr1 v H2 fr2 σ2 w2 u) (a:fr≤fr1) (b:fr1≤fr2):Out σ w H fr v H2 fr2 σ2 w2 u where
 v:=k.v
 sim:=k.sim
 mon:=h.mon.trans k.mon
 ext n hn:=(k.ext n (by omega)).trans (h.ext n (by omega))
 frm:=h.frm.trans k.frm
theorem Out.forget {σ σ1:Sg} {w w1:World} {H H1:zQ} {fr fr1:Nat} {v:PV} {u:Value} (h:Out σ w H fr v H1 fr1 σ1 w1 u) (u':Value):Out σ w H fr .unk H1 fr1 σ1 w1 u':=⟨.unk _,h.sim,h.mon,h.ext,h.frm⟩
theorem NoneIn.cut {σ:Sg} {fr fr1 fr2:Nat} (h:NoneIn σ fr fr2) (b:fr1≤fr2):NoneIn σ fr fr1:=fun n h1 h2=>h n h1 (by omega)
theorem NoneIn.rest {σ σ1:Sg} {w w1:World} {H H1:zQ} {fr fr1 fr2:Nat} {v:PV} {u:Value} (h:NoneIn σ fr fr2) (a:fr≤fr1) (k:Out σ w H fr v H1 fr1 σ1 w1 u):NoneIn σ1 fr1 fr2:=fun n h1 h2=>(k.ext n (by omega)).trans (h n (by omega) h2)
theorem Grow.ne {H H':zQ} {fr fr':Nat} (h:Grow H H' fr fr') (hne:H≠ []):H'≠ []:=by
 obtain ⟨_,⟨l,h2,_⟩,_⟩:=h
 cases H with
 |nil=>exact absurd rfl hne
 |cons h0 t=>rw [h2 h0 t rfl]; simp
section
variable (P:Program) (E:Env)
def Moves (c c':Cfg):Prop:=
 c'.fn=c.fn∧Grow c.H c'.H c.fr c'.fr∧((∀ i ∈ c.todo,ug i)→ ∀ i ∈ c'.todo,ug i)∧
 ∀ σ w a (b:Frame) cs,AR E c.fn σ c.T a→Sim σ w c.H→NoneIn σ c.fr c'.fr→b.fn=c.fn→ ∃ σ' w' a',Steps P (lone (b.at a (c.todo.map itm)) cs w) (lone (b.at a' (c'.todo.map itm)) cs w')∧AR E c.fn σ' c'.T a'∧Out σ w c.H c.fr .unk c'.H c'.fr σ' w' undef
def Ends (c:Cfg) (v:PV) (H':zQ) (fr':Nat):Prop:=
 Grow c.H H' c.fr fr'∧ ∀ σ w a (b:Frame) cs,AR E c.fn σ c.T a→Sim σ w c.H→NoneIn σ c.fr fr'→b.fn=c.fn→b.kind= .normal→ ∃ σ' w' v' fm,Steps P (lone (b.at a (c.todo.map itm)) cs w) (lone fm cs w')∧fm.fn=c.fn∧fm.leaving P w' (.returned v')∧Out σ w c.H c.fr v H' fr' σ' w' v'
def LeafOk (c:Cfg):rC→Prop
  | .ret v H' fr'=>Ends P E c v H' fr'
  | .stop _ c'=>Moves P E c c'
def yZ (X:Ext):Prop:= ∀ f args H fr K no,H≠ []→Names H fr→X f args H fr K no→(∃ v H' fr',K v H' fr'∧Grow H H' fr fr'∧zn P f args H fr v H' fr'∧ ∃ F,P.funcs[f]? =some F∧F.body.isSome=true∧(F.name== "runtime.NumGoroutine")=false)∨no
def o5:Prop:= ∀ (sy:Bool) (Y:xN) (f:FuncId) (T:yC) (H:zQ) (all:List Oper) (fr:Nat) (K:yC→zQ→Nat→Prop),sh P Y→H≠ []→Names H fr→sK cond E sy Y f T H all all [] [] 0 fr K→
 ∃ T' H' fr',K T' H' fr'∧Grow H H' fr fr'∧ ∀ σ w a (b:Frame) cs k id,AR E f σ T a→Sim σ w H→NoneIn σ fr fr'→b.fn=f→ ∃ σ' w' a',Steps P (lone (b.at a (.code (.region id all.toArray true)::k)) cs w) (lone (b.at a' k) cs w')∧AR E f σ' T' a'∧Out σ w H fr .unk H' fr' σ' w' undef
end
section
variable {P:Program} {E:Env}
theorem Moves.ctl {f:FuncId} {k k':List It} {T:yC} {H:zQ} {fr:Nat} (hk:(∀ i ∈ k,ug i)→ ∀ i ∈ k',ug i)
    (h: ∀ σ w a (b:Frame) cs,AR E f σ T a→step P (lone (b.at a (k.map itm)) cs w)= .next (lone (b.at a (k'.map itm)) cs w)):Moves P E ⟨f,k,T,H,fr⟩ ⟨f,k',T,H,fr⟩:=
  ⟨rfl,Grow.refl _ _,hk,fun σ w a b cs ha hs _ _=>⟨σ,w,a,.one (h σ w a b cs ha),ha,Out.same hs (.unk _)⟩⟩
theorem LeafOk.head {c c1:Cfg} {l:rC} (h:Moves P E c c1) (k:LeafOk P E c1 l):LeafOk P E c l:=by
 obtain ⟨h1,h2,h3,h4⟩:=h
 cases l with
 |ret v H' fr'=>
  obtain ⟨k1,k2⟩:=k
  refine ⟨h2.trans k1,fun σ w a b cs ha hs hn hb hk=> ?_⟩
  obtain ⟨σ1,w1,a1,q1,q2,q3⟩:=h4 σ w a b cs ha hs (hn.cut k1.1) hb
  obtain ⟨σ2,w2,v2,fm,r1,r2,r3,r4⟩:=k2 σ1 w1 a1 b cs (h1 ▸ q2) q3.sim (hn.rest h2.1 q3) (hb.trans h1.symm) hk
  exact ⟨σ2,w2,v2,fm,q1.trans r1,r2.trans h1,r3,q3.trans r4 h2.1 k1.1⟩
 |stop j c'=>
  obtain ⟨k0,k1,k2,k3⟩:=k
  refine ⟨k0.trans h1,h2.trans k1,fun hi=>k2 (h3 hi),fun σ w a b cs ha hs hn hb=> ?_⟩
  obtain ⟨σ1,w1,a1,q1,q2,q3⟩:=h4 σ w a b cs ha hs (hn.cut k1.1) hb
  obtain ⟨σ2,w2,a2,r1,r2,r3⟩:=k3 σ1 w1 a1 b cs (h1 ▸ q2) q3.sim (hn.rest h2.1 q3) (hb.trans h1.symm)
  exact ⟨σ2,w2,a2,q1.trans r1,h1 ▸ r2,q3.trans r3 h2.1 k1.1⟩
theorem ny {ops:Array Oper} {i:Nat} {o:Oper} {rest:List Nat} {a:Act} {w:World} {next:Act→World→Prop} (ho:ops[i]? =some o) (hw:Region.wanted o (yielded ops a.tmps)=true) (hd: ∀ a' w',next a' w'→a'.defers= [])
    (h:o.wp P a w next fun _ _ _=>False) (b:Frame) (k:List Item) (cs:List Frame): ∃ a' w',next a' w'∧Steps P (lone (b.at a (.inRegion ops (i::rest)::k)) cs w) (lone (b.at a' (.inRegion ops rest::k)) cs w'):=by
  have hg:=stepG_op (P:=P) (b:=b) (k:=k) (cs:=cs) (w:=w) (rest:=rest) ho hw
  have hfin: ∀ v,(b.at a (.inRegion ops (i::rest)::k)).finish v=b.at (a.put o.dst v) (.inRegion ops rest::k):=by
   intro v; rw [Frame.finish_at,ho]; rfl
  simp only [Oper.wp,Oper.upon] at h
  split at h
  · rename_i v w' hr
    refine ⟨_,_,h,.one (step_lone_go ?_)⟩
    rw [hg,← hfin]; simp [stepG.apply,hr]
  · rename_i w' hr
    refine ⟨_,_,h,.one (step_lone_go ?_)⟩
    rw [hg,← hfin]; simp [stepG.apply,hr]
  · rename_i d w' hr
    have:=hd _ _ h
    cases ho':o.dst<;>simp [Act.put,ho'] at this
  · rename_i f args w' hr
    obtain ⟨e,w'',fr,hR,hsteps,_,hleave⟩:=h (b.at a (.inRegion ops (i::rest)::k)::cs)
    have henter:step P (lone (b.at a (.inRegion ops (i::rest)::k)) cs w)=
     .next (lone (Frame.enter P f args .normal) (b.at a (.inRegion ops (i::rest)::k)::cs) w'):=
     step_lone_go (by rw [hg]; simp [stepG.apply,hr,Frame.at])
    cases e with
    |returned v=>
     refine ⟨_,_,hR,.head henter (hsteps.trans (.one ?_))⟩
     rw [← hfin]; exact step_leave_returned hleave
    |panicked chain=>exact hR.elim
    |outgrown=>obtain ⟨_,_,hq⟩:=hR; exact hq.elim
  · rename_i row args w' hr
    obtain ⟨v,w'',hR,hsteps⟩:=h (b.at a (.inRegion ops (i::rest)::k)) cs
    have henter:step P (lone (b.at a (.inRegion ops (i::rest)::k)) cs w)=
     .next (lone (Frame.ofRow P row args .normal) (b.at a (.inRegion ops (i::rest)::k)::cs) w'):=
     step_lone_go (by rw [hg]; simp [stepG.apply,hr,Frame.at])
    refine ⟨_,_,hR,.head henter ?_⟩
    rw [← hfin]; exact hsteps
  · exact h.elim
  · exact h.elim
theorem rj {id:Nat}: ∀ {k k':List It},rX id k=some k'→exitTo id (k.map itm)=some (k'.map itm)∧ ∀ i ∈ k',i ∈ k
  | [],k',h=>by simp [rX] at h
  | x ::k,k',h=>by
   cases x<;>simp only [rX] at h
   case ib id'=>
    split at h
    · rename_i hb
      cases h
      have:=Nat.eq_of_beq_eq_true hb
      subst this
      exact ⟨by simp [itm,exitTo],fun i hi=>List.mem_cons_of_mem _ hi⟩
    · rename_i hb
      obtain ⟨h1,h2⟩:=rj h
      have:(id'==id)=false:=by simp; intro e; subst e; rw [Nat.beq_refl] at hb; cases hb
      exact ⟨by simp [itm,exitTo,this,h1],fun i hi=>List.mem_cons_of_mem _ (h2 i hi)⟩
   all_goals
     obtain ⟨h1,h2⟩:=rj h
     exact ⟨by simp [itm,exitTo,h1],fun i hi=>List.mem_cons_of_mem _ (h2 i hi)⟩
def nn (a:Act):ResultVar→Sem Value
  | .tmp t=>pure (a.tmps.getD t undef)
  | .cell x t=>do loadVar t (← asAddr (a.tmps.getD x undef))
theorem mz {a:Act} {t:Tmp} {w:World}:(nn a (.tmp t)).run P w= .ok (a.tmps.getD t undef) w:=rfl
theorem n6 {a:Act} {x:Tmp} {t:TypeId} {w:World} {p:Addr} (h:a.tmps.getD x undef= .pointer (some p)):(nn a (.cell x t)).run P w=(loadVar t p).run P w:=by simp only [nn,h]; rfl
theorem p9 (F:Func) (a:Act) (w:World):(results F a.tmps).run P w=(do let vs ← F.results.mapM (nn a); pure (if h:vs.size=1 then vs[0] else .tuple vs):Sem Value).run P w:=rfl
variable (ok:xa P E)
include ok
theorem qE {T:yC} {H:zQ}: ∀ {l:List ResultVar} {K:List PV→Prop},mD cond E T H l K→ ∃ vs,K vs∧ ∀ σ w (a:Act) f,AR E f σ T a→Sim σ w H→ ∃ us:List Value,VRs σ vs us∧(l.mapM (nn a)).run P w= .ok us w
  | [],K,h=>⟨[],h,fun σ w a f _ _=>⟨[],.nil,by simp⟩⟩
  | .tmp t::l,K,h=>by
   simp only [mD] at h
   obtain ⟨vs,h1,h2⟩:=qE h
   refine ⟨_,h1,fun σ w a f ha hs=> ?_⟩
   obtain ⟨us,q1,q2⟩:=h2 σ w a f ha hs
   refine ⟨_,.cons _ _ _ _ (ha.get t) q1,?_⟩
   rw [List.mapM_cons]
   simp [mz,q2]
  | .cell x t::l,K,h=>by
   simp only [mD] at h
   split at h
   · rename_i p hp
     obtain ⟨v,h1,hv⟩:=mn ok h
     obtain ⟨vs,h1,h2⟩:=qE h1
     refine ⟨_,h1,fun σ w a f ha hs=> ?_⟩
     obtain ⟨us,q1,q2⟩:=h2 σ w a f ha hs
     have hx:=ha.get x
     rw [hp] at hx
     generalize hq:a.tmps.getD x undef=q at hx
     cases hx with
     |ptr _ rb hr=>
     obtain ⟨u,r1,r2⟩:=hv σ w rb hs hr
     refine ⟨_,.cons _ _ _ _ r2 q1,?_⟩
     rw [List.mapM_cons]
     simp [n6 hq,r1,q2]
   · exact h.elim
theorem mm {c:Cfg} {K:rC→Prop} (hc:c.todo= []∨ ∃ k,c.todo= .cd .ret::k) (h:fin cond E c K): ∃ l,K l∧LeafOk P E c l:=by
 unfold fin at h
 split at h
 · rename_i fn hf
   obtain ⟨F,hF,hb,hnt,hres,-⟩:=ok.fs _ _ hf
   obtain ⟨vs,h1,h2⟩:=qE ok h
   refine ⟨_,h1,Grow.refl _ _,fun σ w a b cs ha hs hn hbf hbk=> ?_⟩
   obtain ⟨us,q1,q2⟩:=h2 σ w a _ ha hs
   have hr: ∃ v',(results F a.tmps).run P w= .ok v' w∧VR σ (gr vs) v':=by
    have hm:(F.results.mapM (nn a)).run P w= .ok us.toArray w:=by
     rw [Array.mapM_eq_mapM_toList,hres]
     simp [q2]
    refine ⟨_,by rw [p9,Sem.run_bind,hm]; rfl,?_⟩
    have hl:=q1.length
    cases q1 with
    |nil=>exact .tup _ _ .nil
    |cons v u l m hv hl'=>
     cases hl' with
     |nil=>exact hv
     |cons v' u' l' m' hv' hl''=>exact .tup _ _ (.cons _ _ _ _ hv (.cons _ _ _ _ hv' hl''))
   obtain ⟨v',hr,hv⟩:=hr
   refine ⟨σ,w,v',{b.at a (c.todo.map itm) with mode:= .returning},?_,hbf,⟨rfl,ha.defers,hbk,F,by simp only [Frame.at]; rw [hbf]; exact hF,hr⟩,Out.same hs hv⟩
   rcases hc with hc|⟨k,hc⟩
   · rw [hc]; exact .one step_end
   · rw [hc]; exact .one step_ret
 · exact h.elim
omit ok in
theorem xx: ∀ {l:List Oper} {i:Nat} {o:Oper},oF l i=some o→l[i]? =some o
  | [],i,o,h=>by simp [oF] at h
  |_::l,0,o,h=>by simpa [oF] using h
  |_::l,i+1,o,h=>by simp only [oF] at h; simpa using xx h
omit ok in
theorem oM {o :Oper} {all:List Oper} {T:yC} {yes no:Prop} (h:vh cond o.guard all T yes no):
    (yes∧ ∀ σ (a:Act) f,AR E f σ T a→Region.wanted o (yielded all.toArray a.tmps)=true)∨(no∧ ∀ σ (a:Act) f,AR E f σ T a→Region.wanted o (yielded all.toArray a.tmps)=false):=by
  unfold vh at h
  unfold Region.wanted
  split at h
  · rename_i hg
    rw [hg]
    exact .inl ⟨h,fun _ _ _ _=>rfl⟩
  · rename_i j want hg
    rw [hg]
    split at h
    · rename_i oj hj
      split at h
      · rename_i tj ht
        split at h
        · rename_i b hb
          have hy: ∀ σ (a:Act) f,AR E f σ T a→yielded all.toArray a.tmps j=some b:=fun σ a f ha=>by
           have h1:=ha.get tj
           rw [hb] at h1
           unfold yielded
           have h2:all.toArray[j]? =some oj:=by simpa using xx hj
           rw [h2]
           simp only [Option.bind_some,ht]
           generalize hq:a.tmps.getD tj undef=q at h1
           cases h1
           cases ht2:a.tmps[tj]? with
           |none=>simp [ht2,undef] at hq
           |some x=>
            simp [ht2] at hq
            subst hq
            rfl
          cases hbw:b==want with
          |true=>
           rw [hbw] at h
           refine .inl ⟨h,fun σ a f ha=> ?_⟩
           simp only [hy σ a f ha]
           simpa using hbw
          |false=>
           rw [hbw] at h
           refine .inr ⟨h,fun σ a f ha=> ?_⟩
           simp only [hy σ a f ha]
           simpa using hbw
        · rename_i b hb
          have hy: ∀ σ (a:Act) f,AR E f σ T a→yielded all.toArray a.tmps j=some b:=fun σ a f ha=>by
           have h1:=ha.get tj
           rw [hb] at h1
           unfold yielded
           have h2:all.toArray[j]? =some oj:=by simpa using xx hj
           rw [h2]
           simp only [Option.bind_some,ht]
           generalize hq:a.tmps.getD tj undef=q at h1
           cases h1
           cases ht2:a.tmps[tj]? with
           |none=>simp [ht2,undef] at hq
           |some x=>
            simp [ht2] at hq
            subst hq
            rfl
          cases b<;>cases want
          · exact .inl ⟨h,fun σ a f ha=>by simp [hy σ a f ha]⟩
          · exact .inr ⟨h,fun σ a f ha=>by simp [hy σ a f ha]⟩
          · exact .inr ⟨h,fun σ a f ha=>by simp [hy σ a f ha]⟩
          · exact .inl ⟨h,fun σ a f ha=>by simp [hy σ a f ha]⟩
        · rename_i l hb
          have hy: ∀ σ (a:Act) f,AR E f σ T a→yielded all.toArray a.tmps j=none:=fun σ a f ha=>by
           have h1:=ha.get tj
           rw [hb] at h1
           unfold yielded
           have h2:all.toArray[j]? =some oj:=by simpa using xx hj
           rw [h2]
           simp only [Option.bind_some,ht]
           generalize hq:a.tmps.getD tj undef=q at h1
           cases h1
           cases ht2:a.tmps[tj]? with
           |none=>rfl
           |some x=>
            simp [ht2] at hq
            subst hq
            rfl
          exact .inr ⟨h,fun σ a f ha=>by simp [hy σ a f ha]⟩
        · exact h.elim
      · exact h.elim
    · exact h.elim
omit ok in
theorem kG {f:FuncId} {all p rest:List Oper} {o:Oper} {k:List It} {T T':yC} {H H':zQ} {fr fr':Nat} {v:PV} (hall:all=p++o::rest) (hw: ∀ σ (a:Act) f,AR E f σ T a→Region.wanted o (yielded all.toArray a.tmps)=true)
    (hg:Grow H H' fr fr') (ho:OpR P o T H fr v H' fr') (ht: ∀ (τ:Sg) (b:Act) (x:Value),AR E f τ T b→VR τ v x→AR E f τ T' (b.put o.dst x)):
    Moves P E ⟨f,.rg all (o::rest)::k,T,H,fr⟩ ⟨f,.rg all rest::k,T',H',fr'⟩:=by
  refine ⟨rfl,hg,fun hi=> ?_,fun σ w a b cs ha hs hn hb=> ?_⟩
  · intro i hi'
    rcases List.mem_cons.1 hi' with rfl|hi'
    · exact ⟨p++ [o],by simp [hall]⟩
    · exact hi i (List.mem_cons_of_mem _ hi')
  · have hget:all.toArray[p.length]? =some o:=by simp [hall]
    have h1:=ho σ w a (fun a' w'=> ∃ σ' x,a'=a.put o.dst x∧AR E f σ' T' a'∧Out σ w H fr .unk H' fr' σ' w' undef) (fun _ _ _=>False) (fun x _=>ha.ev x) hs hn (fun σ' w' v' hout=>⟨σ',v',rfl,ht σ' a v' (ha.mono hout.mon) hout.v,hout.forget undef⟩)
    obtain ⟨a',w',⟨σ',x,e1,q1,q2⟩,q3⟩:=ny hget (hw σ a f ha) (fun a' w' ⟨σ',x,_,h,_⟩=>h.defers) h1 b (rest:=List.range' (p.length+1) rest.length) (k.map itm) cs
    refine ⟨σ',w',a',?_,q1,q2⟩
    have e2:itm (.rg all (o::rest))= .inRegion all.toArray (p.length::List.range' (p.length+1) rest.length):=by
     simp only [itm,List.length_cons,List.range'_succ]
     rw [show all.length-(rest.length+1)=p.length by simp [hall]]
    have e3:itm (.rg all rest)= .inRegion all.toArray (List.range' (p.length+1) rest.length):=by
     simp only [itm]
     rw [show all.length-rest.length=p.length+1 by simp [hall]; omega]
    simp only [List.map_cons,e2,e3]
    exact q3
omit ok in
theorem oW {f:FuncId} {all p rest:List Oper} {o:Oper} {k:List It} {T T':yC} {H:zQ} {fr:Nat} (hall:all=p++o::rest) (hw: ∀ σ (a:Act) f,AR E f σ T a→Region.wanted o (yielded all.toArray a.tmps)=false)
    (ht: ∀ (τ:Sg) (b:Act) (x:Value),AR E f τ T b→VR τ (.tup []) x→AR E f τ T' (b.put o.dst x)):
    Moves P E ⟨f,.rg all (o::rest)::k,T,H,fr⟩ ⟨f,.rg all rest::k,T',H,fr⟩:=by
  refine ⟨rfl,Grow.refl _ _,fun hi=> ?_,fun σ w a b cs ha hs hn hb=> ?_⟩
  · intro i hi'
    rcases List.mem_cons.1 hi' with rfl|hi'
    · exact ⟨p++ [o],by simp [hall]⟩
    · exact hi i (List.mem_cons_of_mem _ hi')
  · have hget:all.toArray[p.length]? =some o:=by simp [hall]
    refine ⟨σ,w,a.put o.dst undef,?_,ht σ a undef ha (.tup _ _ .nil),Out.same hs (.unk _)⟩
    have e2:itm (.rg all (o::rest))= .inRegion all.toArray (p.length::List.range' (p.length+1) rest.length):=by
     simp only [itm,List.length_cons,List.range'_succ]
     rw [show all.length-(rest.length+1)=p.length by simp [hall]]
    have e3:itm (.rg all rest)= .inRegion all.toArray (List.range' (p.length+1) rest.length):=by
     simp only [itm]
     rw [show all.length-rest.length=p.length+1 by simp [hall]; omega]
    simp only [List.map_cons,e2,e3]
    have hs:=step_op_skip (P:=P) (b:=b) (a:=a) (k:=k.map itm) (cs:=cs) (w:=w) (ops:=all.toArray) (i:=p.length) (rest:=List.range' (p.length+1) rest.length) (by rw [hget]; simpa using hw σ a f ha)
    rw [hget] at hs
    exact .one hs
omit ok in
theorem qt: ∀ (l:List PV) (n t:Nat),xi (yD n l) t=if n≤t then (l[t-n]?).getD .unk else .unk
  | [],n,t=>by simp [yD,xi]
  | v ::l,n,t=>by
   simp only [yD]
   rw [xE,qt l (n+1) t]
   by_cases h:n=t
   · subst h; simp
   · by_cases h2:n≤t
     · have h3:n+1≤t:=by omega
       have h4:t-n=(t-(n+1))+1:=by omega
       simp [h,h2,h3,h4]
     · have h3: ¬ n+1≤t:=by omega
       simp [h,h2,h3]
omit ok in
theorem VRs.unkget {σ:Sg}: ∀ {vs:List PV} {us:List Value},VRs σ vs us→ ∀ i:Nat,VR σ ((vs[i]?).getD .unk) ((us[i]?).getD undef)
  |_,_,.nil,i=>by simpa using VR.unk _
  |_,_,.cons _ _ _ _ h hl,0=>by simpa using h
  |_,_,.cons _ _ _ _ h hl,i+1=>by simpa using hl.unkget i
theorem kP {f:FuncId} {fn:FnI} {F:Func} {σ:Sg} {args:List PV} {vals:Array Value} (hf:xG E.fs f=some fn) (hF:P.funcs[f]? =some F) (hnt:F.ntmps=fn.nt) (h:VRs σ args vals.toList):
    AR E f σ (yD 0 args) ⟨vals++Array.replicate (F.ntmps-vals.size) undef,[]⟩:=by
  refine ⟨rfl,fun fn' h'=> ?_,fun t=> ?_⟩
  · rw [hf] at h'
    cases h'
    simp
    omega
  · rw [qt]
    simp only [Nat.zero_le,if_true,Nat.sub_zero]
    have h1:=h.unkget t
    have h2:(vals++Array.replicate (F.ntmps-vals.size) undef).getD t undef=(vals.toList[t]?).getD undef:=by
     simp only [Array.getD_eq_getD_getElem?,Array.getElem?_append,Array.getElem?_replicate]
     by_cases ht:t<vals.size
     · simp [ht]
     · simp [ht]
       split<;>rfl
    rw [h2]
    exact h1
variable {X:Ext} (hX:yZ P X) (hD:o5 P E) {sy:Bool}
include hX
theorem ni {self:ka} (hs: ∀ c K,(∀ i ∈ c.todo,ug i)→c.H≠ []→Names c.H c.fr→self c K→ ∃ l,K l∧LeafOk P E c l):sh P (qp E X self):=by
 intro f args H fr K hne hN h
 unfold qp at h
 rcases hX _ _ _ _ _ _ hne hN h with h|h
 · exact h
 · unfold enter at h
   split at h
   · rename_i fn hf
     obtain ⟨F,hF,hb,hnt,hres,hname⟩:=ok.fs _ _ hf
     obtain ⟨l,hl,hok⟩:=hs _ _ (by intro i hi; simp at hi; subst hi; trivial) (by simp) (fun n e hn=>hN n e (by simpa [hget,zp] using hn)) h
     cases l with
     |stop j c'=>exact hl.elim
     |ret v H1 fr'=>
     cases H1 with
     |nil=>exact hl.elim
     |cons l0 H'=>
     obtain ⟨hg,hrun⟩:=hok
     obtain ⟨g1,⟨l1,g2,g3⟩,g4⟩:=hg
     have e0:=g2 [] H rfl
     simp only [List.append_nil,List.cons.injEq] at e0
     obtain ⟨e1,rfl⟩:=e0
     subst e1
     have hcong: ∀ n,hget (wu l0 H') n=hget (l0::H') n:=fun n=>by
      cases H' with
      |nil=>exact absurd rfl hne
      |cons h t=>
       simp only [wu]
       rw [wk]
       rfl
     refine ⟨v,wu l0 H',fr',hl,⟨g1,⟨l0,fun h t e=>by subst e; rfl,g3⟩,fun n e hn=>by rw [hcong] at hn; simpa [hget,zp] using g4 n e hn⟩,fun σ w vals hv hsim hn=> ?_,F,hF,by simp [hb],hname⟩
     intro cs
     let b:Frame:= {(default:Frame) with fn:=f,kind:= .normal}
     have henter:Frame.enter P f vals .normal=b.at {tmps:=vals++Array.replicate (F.ntmps-vals.size) undef,defers:= []} [.code fn.body]:=by
      simp [Frame.enter,Frame.at,hF,hb,b]
     have hsim':Sim σ w ([]::H'):=hsim.congr fun n=>by simp [hget,zp]
     obtain ⟨σ',w',v',fm,q1,q2,q3,q4⟩:=hrun σ w _ b cs (kP ok hf hF hnt hv) hsim' hn rfl rfl
     refine ⟨.returned v',w',fm,⟨v',σ',rfl,q4.v,q4.sim.congr hcong,q4.mon,q4.ext,?_⟩,?_,q2,q3⟩
     · exact q4.frm.mono (fun k hk=>OwnB.congr (fun n=>by simp [hget,zp]) hk) (fun k hk=>OwnB.congr hcong hk)
     · rw [henter]
       exact q1
   · exact h.elim
include hD
theorem sf : ∀ (n:Nat) (stop:Bool) (c:Cfg) (K:rC→Prop),(∀ i ∈ c.todo,ug i)→c.H≠ []→Names c.H c.fr→run cond E sy X stop n c K→ ∃ l,K l∧LeafOk P E c l
  |0,_,_,_,_,_,_,h=>by simp [run] at h
  | n + 1, stop,⟨f,todo,T,H,fr⟩,K,hi,hne,hN,h=>by
   have ih:=sf n stop
   have hH:=ni ok hX (self:=run cond E sy X false n) fun c K=>sf n false c K
   have go: ∀ {k':List It},((∀ i ∈ todo,ug i)→ ∀ i ∈ k',ug i)→(∀ σ w a (b:Frame) cs,AR E f σ T a→step P (lone (b.at a (todo.map itm)) cs w)= .next (lone (b.at a (k'.map itm)) cs w))→run cond E sy X stop n ⟨f,k',T,H,fr⟩ K→ ∃ l,K l∧LeafOk P E ⟨f,todo,T,H,fr⟩ l:=fun {k'} h1 h2 h3=>by
    obtain ⟨l,q1,q2⟩:=ih ⟨f,k',T,H,fr⟩ K (h1 hi) hne hN h3
    exact ⟨l,q1,LeafOk.head (Moves.ctl h1 h2) q2⟩
   simp only [run] at h
   cases todo with
   |nil=>exact mm ok (.inl rfl) h
   |cons x k=>
   have hk: ∀ {y:List It},(∀ i ∈ y,ug i)→(∀ i ∈ x::k,ug i)→ ∀ i ∈ y++k,ug i:=fun hy hx i hi'=>by
    rcases List.mem_append.1 hi' with h1|h1
    · exact hy i h1
    · exact hx i (List.mem_cons_of_mem _ h1)
   cases x with
   |ib id=>exact go (hk (y:= []) (by simp)) (fun σ w a b cs ha=>step_inBlock) h
   |sc c=>exact go (hk (y:= []) (by simp)) (fun σ w a b cs ha=>step_lone_go (by simp [stepG,stepG.exec,Frame.at,itm])) h
   |il b=>
    have h1:=hk (y:= [.cd b,.il b]) (by intro i hi'; simp at hi'; rcases hi' with rfl|rfl<;>trivial)
    cases stop with
    |true=>exact ⟨_,h,Moves.ctl h1 fun σ w a b cs ha=>step_inLoop⟩
    |false=>exact go h1 (fun σ w a b cs ha=>step_inLoop) h
   | rg all rest=>
    simp only [mR] at h
    obtain ⟨p,hp⟩:=hi _ List.mem_cons_self
    cases rest with
    |nil=>exact go (hk (y:= []) (by simp)) (fun σ w a b cs ha=>by simpa [itm] using step_region_end) h
    | cons o rest=>
     simp only at h
     rcases oM (E:=E) h with ⟨h,hw⟩|⟨h,hw⟩
     · obtain ⟨v,H',fr',h1,hg,h2⟩:=ls ok hH hne hN h
       obtain ⟨T',h3,ht⟩:=AR.tset h1
       have hm:=kG (P:=P) (k:=k) hp hw hg h2 ht
       obtain ⟨l,q1,q2⟩:=ih ⟨f,.rg all rest::k,T',H',fr'⟩ K (hm.2.2.1 hi) (hg.ne hne) (hN.grow hg hne) h3
       exact ⟨l,q1,LeafOk.head hm q2⟩
     · obtain ⟨T',h3,ht⟩:=AR.tset h
       have hm:=oW (P:=P) (k:=k) (H:=H) (fr:=fr) hp hw ht
       obtain ⟨l,q1,q2⟩:=ih ⟨f,.rg all rest::k,T',H,fr⟩ K (hm.2.2.1 hi) hne hN h3
       exact ⟨l,q1,LeafOk.head hm q2⟩
   | cd cd =>
    simp only at h
    unfold mj at h
    cases cd<;>simp only at h<;>try exact h.elim
    case skip=>exact go (hk (y:= []) (by simp)) (fun σ w a b cs ha=>step_skip) h
    case label l=>exact go (hk (y:= []) (by simp)) (fun σ w a b cs ha=>step_label) h
    case seq x y=>exact go (hk (y:= [.cd x,.cd y]) (by intro i hi'; simp at hi'; rcases hi' with rfl|rfl<;>trivial)) (fun σ w a b cs ha=>step_seq) h
    case cond x y z=>
     split at h
     · rename_i t ht
       have hev: ∀ σ (a:Act),AR E f σ T a→a.eval x= .bool t:=fun σ a ha=>by
        have:=ha.ev x
        rw [ht] at this
        generalize a.eval x=q at this
        cases this
        rfl
       cases t with
       |true=>exact go (hk (y:= [.cd y]) (by intro i hi'; simp at hi'; subst hi'; trivial)) (fun σ w a b cs ha=>by simpa [itm] using step_cond (hev σ a ha)) h
       |false=>exact go (hk (y:= [.cd z]) (by intro i hi'; simp at hi'; subst hi'; trivial)) (fun σ w a b cs ha=>by simpa [itm] using step_cond (hev σ a ha)) h
     · rename_i t ht
       have hev: ∀ σ (a:Act),AR E f σ T a→a.eval x= .bool t:=fun σ a ha=>by
        have:=ha.ev x
        rw [ht] at this
        generalize a.eval x=q at this
        cases this
        rfl
       cases t with
       |true=>exact go (hk (y:= [.cd y]) (by intro i hi'; simp at hi'; subst hi'; trivial)) (fun σ w a b cs ha=>by simpa [itm] using step_cond (hev σ a ha)) h
       |false=>exact go (hk (y:= [.cd z]) (by intro i hi'; simp at hi'; subst hi'; trivial)) (fun σ w a b cs ha=>by simpa [itm] using step_cond (hev σ a ha)) h
     · exact h.elim
    case block id b=>exact go (hk (y:= [.cd b,.ib id]) (by intro i hi'; simp at hi'; rcases hi' with rfl|rfl<;>trivial)) (fun σ w a b cs ha=>step_block) h
    case scope b=>exact go (hk (y:= [.cd b,.sc b]) (by intro i hi'; simp at hi'; rcases hi' with rfl|rfl<;>trivial)) (fun σ w a b cs ha=>step_lone_go (by simp [stepG,stepG.exec,Frame.at,itm])) h
    case loop b=>
     have h1:=hk (y:= [.cd b,.il b]) (by intro i hi'; simp at hi'; rcases hi' with rfl|rfl<;>trivial)
     cases stop with
     |true=>exact ⟨_,h,Moves.ctl h1 fun σ w a b cs ha=>step_loop⟩
     |false=>exact go h1 (fun σ w a b cs ha=>step_loop) h
    case exit id=>
     split at h
     · rename_i k' hk'
       obtain ⟨e1,e2⟩:=rj hk'
       exact go (fun hx i hi'=>hx i (List.mem_cons_of_mem _ (e2 i hi'))) (fun σ w a b cs ha=>step_exit e1) h
     · exact h.elim
    case ret=>exact mm ok (.inr ⟨k,rfl⟩) h
    case region id ops d=>
     cases d with
     |false=>
      refine go (hk (y:= [.rg ops.toList ops.toList]) (by intro i hi'; simp at hi'; subst hi'; exact ⟨[],rfl⟩)) (fun σ w a b cs ha=> ?_) h
      have e:itm (.rg ops.toList ops.toList)= .inRegion ops (List.range ops.size):=by simp [itm,List.range_eq_range']
      simp only [List.map_cons,List.cons_append,List.nil_append,e]
      exact step_region
     |true=>
      obtain ⟨T',H',fr',h1,hg,h2⟩:=hD sy _ f T H ops.toList fr _ hH hne hN h
      have h3:=hk (y:= []) (by simp)
      obtain ⟨l,q1,q2⟩:=ih ⟨f,k,T',H',fr'⟩ K (h3 hi) (hg.ne hne) (hN.grow hg hne) h1
      refine ⟨l,q1,LeafOk.head (c1:=⟨f,k,T',H',fr'⟩) ⟨rfl,hg,h3,fun σ w a b cs ha hs hn hb=> ?_⟩ q2⟩
      have:=h2 σ w a b cs (k.map itm) id ha hs hn hb
      simpa [itm] using this
end
end Go.Ev
namespace Go.Ev
open Go.RowKit
structure Rec where
 o:Oper
 m:Nat
 d:tH
 fr:Nat
 fr':Nat
def dn:List Rec→Nat→Option Rec
  | [],_=>none
  |r::rs,j=>if j=rs.length then some r else dn rs j
def yi (p:Nat→Bool) (T:yC):List Rec→yC
  | []=>T
  |r::rs=>match p rs.length,r.d.dst with
   |true,some t=>(t,r.d.v)::yi p T rs
   |_,_=>yi p T rs
def zr (p:Nat→Bool):List Rec→Lvl
  | []=> []
  |r::rs=>match p rs.length with
   |true=>r.d.l++zr p rs
   |false=>zr p rs
def xH (rs:List Rec):List Nat:=(rs.map (·.m)).reverse
def ua (fr0:Nat):List Rec→Nat
  | []=>fr0
  |r::_=>r.fr'
def xj (rs:List Rec):List tH:=rs.map (·.d)
theorem vK: ∀ {rs:List Rec} {i:Nat} {r:Rec},dn rs i=some r→i<rs.length
  | [],i,r,h=>by simp [dn] at h
  |s::rs,i,r,h=>by
   simp only [dn] at h
   split at h
   · rename_i e; subst e; simp
   · have:=vK h; simp; omega
theorem vN: ∀ {rs:List Rec} {i:Nat},i<rs.length→ ∃ r,dn rs i=some r
  | [],i,h=>by simp at h
  | s ::rs,i,h=>by
   simp only [dn]
   split
   · exact ⟨_,rfl⟩
   · rename_i e
     exact vN (by simp at h; omega)
theorem rK (m:Nat) (T:yC): ∀ rs:List Rec,wG m T (xj rs) rs.length=yi (ze m) T rs
  | []=>rfl
  |r::rs=>by
   simp only [xj,List.map_cons,List.length_cons,wG,yi,Nat.add_sub_cancel]
   have:=rK m T rs
   simp only [xj] at this
   rw [this]
   cases ze m rs.length<;>cases r.d.dst<;>rfl
theorem rT (m:Nat): ∀ rs:List Rec,xz m (xj rs) rs.length=zr (ze m) rs
  | []=>rfl
  |r::rs=>by
   simp only [xj,List.map_cons,List.length_cons,xz,zr,Nat.add_sub_cancel]
   have:=rT m rs
   simp only [xj] at this
   rw [this]
   cases ze m rs.length<;>rfl
theorem nA (T:yC): ∀ rs:List Rec,mQ T (xj rs)=yi (fun _=>true) T rs
  | []=>rfl
  |r::rs=>by
   simp only [xj,List.map_cons,mQ,yi]
   have:=nA T rs
   simp only [xj] at this
   rw [this]
   cases r.d.dst<;>rfl
theorem od: ∀ rs:List Rec,jn (xj rs)=zr (fun _=>true) rs
  | []=>rfl
  |r::rs=>by
   simp only [xj,List.map_cons,jn,zr]
   have:=od rs
   simp only [xj] at this
   rw [this]
theorem xl {p q:Nat→Bool} (T:yC): ∀ {rs:List Rec},(∀ i,i<rs.length→p i=q i)→yi p T rs=yi q T rs
  | [],_=>rfl
  |r::rs,h=>by
   simp only [yi]
   rw [h rs.length (by simp),xl T fun i hi=>h i (by simp; omega)]
theorem xS {p q:Nat→Bool}: ∀ {rs:List Rec},(∀ i,i<rs.length→p i=q i)→zr p rs=zr q rs
  | [],_=>rfl
  |r::rs,h=>by
   simp only [zr]
   rw [h rs.length (by simp),xS fun i hi=>h i (by simp; omega)]
def sZ (p:Nat→Bool) (i:Nat):Nat→Bool:=fun j=>p j&&decide (j<i)
theorem t7 {rs1:List Rec} (p:Nat→Bool) (T:yC): ∀ rs2:List Rec,yi (sZ p rs1.length) T (rs2++rs1)=yi p T rs1
  | []=>xl T fun i hi=>by simp at hi; simp [sZ,hi]
  |r::rs2=>by
   simp only [List.cons_append,yi]
   have:sZ p rs1.length (rs2++rs1).length=false:=by simp [sZ]
   rw [this,t7 p T rs2]
theorem v3 {rs1:List Rec} (p:Nat→Bool): ∀ rs2:List Rec,zr (sZ p rs1.length) (rs2++rs1)=zr p rs1
  | []=>xS fun i hi=>by simp at hi; simp [sZ,hi]
  |r::rs2=>by
   simp only [List.cons_append,zr]
   have:sZ p rs1.length (rs2++rs1).length=false:=by simp [sZ]
   rw [this,v3 p rs2]
theorem uv {rs1:List Rec} {i:Nat} (hi:i<rs1.length): ∀ rs2:List Rec,dn (rs2++rs1) i=dn rs1 i
  | []=>rfl
  |r::rs2=>by
   simp only [List.cons_append,dn]
   rw [if_neg (by simp; omega),uv hi rs2]
theorem wb: ∀ {rs:List Rec} {i:Nat} {r:Rec},dn rs i=some r→(xH rs).getD i 0=r.m
  | [],i,r,h=>by simp [dn] at h
  | s ::rs,i,r,h=>by
   simp only [dn] at h
   simp only [xH,List.map_cons,List.reverse_cons]
   split at h
   · rename_i e
     cases h
     subst e
     simp [List.getD,List.getElem?_append]
   · have hl:=vK h
     have:=wb h
     simp only [xH] at this
     rw [← this]
     simp [List.getD,List.getElem?_append,hl]
theorem sR (m i:Nat):ze m i=m.testBit i:=by
 unfold ze
 rw [Nat.testBit_eq_decide_div_mod_eq]
 show Nat.beq (m>>>i % 2) 1=_
 rw [Nat.shiftRight_eq_div_pow]
 cases h:Nat.beq (m / 2 ^ i % 2) 1
 · symm
   simp only [decide_eq_false_iff_not]
   intro e
   rw [e] at h
   cases h
 · symm
   simp only [decide_eq_true_eq]
   exact Nat.eq_of_beq_eq_true h
theorem vI {ms:List Nat} {j:Nat}: ∀ {l:List Edge},ze (zx ms l) j=true↔ ∃ e ∈ l,Region.binds .any e=true∧(j=e.on∨ze (ms.getD e.on 0) j=true)
  | []=>by simp [zx,sR]
  | e ::l=>by
   have ih:=vI (ms:=ms) (j:=j) (l:=l)
   simp only [zx]
   cases hb:Region.binds .any e with
   | false=>
    simp only [ih,List.mem_cons]
    constructor
    · rintro ⟨x,h1,h2⟩; exact ⟨x,.inr h1,h2⟩
    · rintro ⟨x,rfl|h1,h2⟩
      · rw [hb] at h2; cases h2.1
      · exact ⟨x,h1,h2⟩
   | true=>
    have e1:ze (Nat.lor (Nat.lor (Nat.shiftLeft 1 e.on) (ms.getD e.on 0)) (zx ms l)) j=((decide (e.on=j)||ze (ms.getD e.on 0) j)||ze (zx ms l) j):=by
     simp only [sR]
     show ((1<<<e.on|||ms.getD e.on 0)|||zx ms l).testBit j=_
     rw [Nat.testBit_or,Nat.testBit_or,Nat.one_shiftLeft,Nat.testBit_two_pow]
    simp only [e1,Bool.or_eq_true,decide_eq_true_eq,ih,List.mem_cons]
    constructor
    · rintro ((rfl|h)|⟨x,h1,h2⟩)
      · exact ⟨e,.inl rfl,hb,.inl rfl⟩
      · exact ⟨e,.inl rfl,hb,.inr h⟩
      · exact ⟨x,.inr h1,h2⟩
    · rintro ⟨x,rfl|h1,h2,h3⟩
      · exact .inl (h3.imp Eq.symm id)
      · exact .inr ⟨x,h1,h2,h3⟩
theorem x8 {k:Nat}: ∀ {l:List Edge},uK k l=true→ ∀ e ∈ l,Region.binds .any e=true→e.on<k
  | [],_,e,he,_=>by cases he
  | x ::l,h,e,he,hb=>by
   simp only [uK] at h
   rcases List.mem_cons.1 he with rfl|he
   · rw [hb] at h
     simp only [Bool.and_eq_true] at h
     simpa [Nat.blt_eq] using h.1
   · cases hx:Region.binds .any x with
     |true=>
      rw [hx] at h
      simp only [Bool.and_eq_true] at h
      exact x8 h.2 e he hb
     |false=>
      rw [hx] at h
      exact x8 h e he hb
theorem ws {o:Oper} {m:Nat} {all:List Oper} {q:tH}: ∀ {rs:List Rec},vW o m all q (xj rs) rs.length=true→ ∀ j s,dn rs j=some s→ze m j=false→
 wV q s.d=true∧ ∃ o',all[j]? =some o'∧Oper.apart all.toArray o' o=true
 | [],_,j,s,h,_=>by simp [dn] at h
 | r :: rs,h,j,s,hj,hb=>by
  simp only [xj,List.map_cons,List.length_cons,vW,Nat.add_sub_cancel] at h
  simp only [dn] at hj
  split at hj
  · rename_i e
    cases hj
    subst e
    rw [hb] at h
    simp only at h
    split at h
    · rename_i ha
      unfold lV at ha
      simp only [Bool.and_eq_true] at ha
      refine ⟨ha.1,?_⟩
      have h2:=ha.2
      split at h2
      · rename_i o' ho'
        exact ⟨o',xx ho',h2⟩
      · cases h2
    · cases h
  · have ih:=ws (o:=o) (m:=m) (all:=all) (q:=q) (rs:=rs)
    simp only [xj] at ih
    split at h
    · exact ih h j s hj hb
    · split at h
      · exact ih h j s hj hb
      · cases h
theorem sE {fr:Nat}: ∀ {l:Lvl},tU fr l=false→ ∀ p ∈ l,fr≤p.1
  | [],_,p,hp=>by cases hp
  | (n, e)::l,h,p,hp=>by
   simp only [tU] at h
   split at h
   · cases h
   · rename_i hn
     rcases List.mem_cons.1 hp with rfl|hp
     · have h1: ¬ (n<fr):=fun hlt=>by
        have h2:Nat.blt n fr=true:=by simpa [Nat.blt_eq] using hlt
        rw [h2] at hn; cases hn
       exact Nat.le_of_not_lt h1
     · exact sE h p hp
theorem mJ {l:Lvl} {n:Nat} (h:zp l n=none): ∀ p ∈ l,p.1≠n:=by
 induction l with
 |nil=>intro p hp; cases hp
 | cons q l ih=>
  obtain ⟨k,e⟩:=q
  simp only [zp] at h
  split at h
  · cases h
  · rename_i hb
    intro p hp
    rcases List.mem_cons.1 hp with rfl|hp
    · intro e; simp only at e; subst e; rw [Nat.beq_refl] at hb; cases hb
    · exact ih h p hp
theorem nZ {l:Lvl} {p:Nat×Bool×Blk} (h:p ∈ l): ∃ e,zp l p.1=some e:=by
 cases hl:zp l p.1 with
 |some e=>exact ⟨e,rfl⟩
 |none=>exact absurd rfl (mJ hl p h)
def In (l:Lvl) (x:Nat):Prop:= ∃ e,zp l x=some e
theorem zk (l:Lvl) (H:zQ) (n:Nat):hget (l::H) n=match zp l n with|some e=>some e|none=>hget H n:=rfl
theorem In.app {l m:Lvl} {x:Nat}:In (l++m) x↔In l x∨In m x:=by
 unfold In
 simp only [yM]
 cases zp l x<;>simp
theorem In.sel {p:Nat→Bool} {x:Nat}: ∀ {rs:List Rec},In (zr p rs) x→ ∃ j s,dn rs j=some s∧p j=true∧In s.d.l x
  | [],⟨e,h⟩=>by simp [zr,zp] at h
  | r ::rs,h=>by
   simp only [zr] at h
   have up:(∃ j s,dn rs j=some s∧p j=true∧In s.d.l x)→ ∃ j s,dn (r::rs) j=some s∧p j=true∧In s.d.l x:=fun ⟨j,s,h1,h2⟩=>⟨j,s,by simp only [dn]; rw [if_neg (Nat.ne_of_lt (vK h1))]; exact h1,h2⟩
   split at h
   · rename_i hp
     rcases In.app.1 h with h|h
     · exact ⟨rs.length,r,by simp [dn],hp,h⟩
     · exact up (In.sel h)
   · exact up (In.sel h)
theorem pf {p q:Nat→Bool} {x:Nat}: ∀ {rs:List Rec},(∀ j s,dn rs j=some s→q j=true→p j=true)→(∀ j s,dn rs j=some s→p j=true→q j=false→ ¬ In s.d.l x)→zp (zr p rs) x=zp (zr q rs) x
  | [],_,_=>rfl
  | r ::rs,h1,h2=>by
   have up: ∀ {j s},dn rs j=some s→dn (r::rs) j=some s:=fun {j s} h=>by simp only [dn]; rw [if_neg (Nat.ne_of_lt (vK h))]; exact h
   have ih:=pf (p:=p) (q:=q) (x:=x) (rs:=rs) (fun j s h=>h1 j s (up h)) (fun j s h=>h2 j s (up h))
   have hd:dn (r::rs) rs.length=some r:=by simp [dn]
   simp only [zr]
   cases hq:q rs.length with
   |true=>rw [h1 _ _ hd hq]; simp only [yM,ih]
   | false=>
    cases hp:p rs.length with
    |false=>exact ih
    |true=>
     simp only [yM]
     cases hl:zp r.d.l x with
     |none=>exact ih
     |some e=>exact absurd ⟨e,hl⟩ (h2 _ _ hd hp hq)
theorem rM {p q:Nat→Bool} {T:yC} {t:Nat}: ∀ {rs:List Rec},(∀ j s,dn rs j=some s→q j=true→p j=true)→(∀ j s,dn rs j=some s→p j=true→q j=false→s.d.dst≠some t)→xi (yi p T rs) t=xi (yi q T rs) t
  | [],_,_=>rfl
  | r :: rs,h1,h2=>by
   have up: ∀ {j s},dn rs j=some s→dn (r::rs) j=some s:=fun {j s} h=>by simp only [dn]; rw [if_neg (Nat.ne_of_lt (vK h))]; exact h
   have ih:=rM (p:=p) (q:=q) (T:=T) (t:=t) (rs:=rs) (fun j s h=>h1 j s (up h)) (fun j s h=>h2 j s (up h))
   have hd:dn (r::rs) rs.length=some r:=by simp [dn]
   simp only [yi]
   cases hq:q rs.length with
   |true=>
    rw [h1 _ _ hd hq]
    cases hdst:r.d.dst with
    |none=>exact ih
    |some u=>simp only [xE,ih]
   | false=>
    cases hp:p rs.length with
    |false=>exact ih
    | true=>
     cases hdst:r.d.dst with
     |none=>exact ih
     |some u=>
      simp only [xE]
      have:=h2 _ _ hd hp hq
      rw [hdst] at this
      rw [if_neg (fun e=>this (by rw [e])),ih]
theorem qn {p:Nat→Bool} {i:Nat} {r:Rec} {x:Nat}: ∀ {rs:List Rec},dn rs i=some r→p i=false→(∀ j s,dn rs j=some s→p j=true→i<j→In r.d.l x→ ¬ In s.d.l x)→zp (zr (fun j=>if j=i then true else p j) rs) x=match zp r.d.l x with|some e=>some e|none=>zp (zr p rs) x
  | [],h,_,_=>by simp [dn] at h
  | s :: rs,h,hp,h2=>by
   have up: ∀ {j s'},dn rs j=some s'→dn (s::rs) j=some s':=fun {j s'} h=>by simp only [dn]; rw [if_neg (Nat.ne_of_lt (vK h))]; exact h
   simp only [dn] at h
   split at h
   · rename_i e
     cases h
     subst e
     have e1:zr (fun j=>if j=rs.length then true else p j) rs=zr p rs:=xS fun j hj=>by simp [Nat.ne_of_lt hj]
     simp only [zr,if_true,e1,yM,hp]
     cases zp r.d.l x<;>rfl
   · rename_i hne
     have hil:=vK h
     have ih:=qn (p:=p) (i:=i) (x:=x) h hp fun j s' hj hpj hij=>h2 j s' (up hj) hpj hij
     have hd:dn (s::rs) rs.length=some s:=by simp [dn]
     simp only [zr,if_neg (fun e=>hne e.symm: ¬ rs.length=i)]
     cases hpl:p rs.length with
     |false=>exact ih
     | true=>
      simp only [yM,ih]
      cases h3:zp s.d.l x with
      |none=>rfl
      |some e=>
       cases h4:zp r.d.l x with
       |none=>rfl
       |some e'=>exact absurd ⟨e,h3⟩ (h2 _ _ hd hpl hil ⟨e',h4⟩)
theorem sV {p:Nat→Bool} {T:yC} {i:Nat} {r:Rec} {t:Nat}: ∀ {rs:List Rec},dn rs i=some r→p i=false→(∀ j s,dn rs j=some s→p j=true→i<j→r.d.dst=some t→s.d.dst≠some t)→xi (yi (fun j=>if j=i then true else p j) T rs) t=if r.d.dst=some t then r.d.v else xi (yi p T rs) t
  | [],h,_,_=>by simp [dn] at h
  | s :: rs,h,hp,h2=>by
   have up: ∀ {j s'},dn rs j=some s'→dn (s::rs) j=some s':=fun {j s'} h=>by simp only [dn]; rw [if_neg (Nat.ne_of_lt (vK h))]; exact h
   simp only [dn] at h
   split at h
   · rename_i e
     cases h
     subst e
     have e1:yi (fun j=>if j=rs.length then true else p j) T rs=yi p T rs:=xl T fun j hj=>by simp [Nat.ne_of_lt hj]
     simp only [yi,if_true,e1,hp]
     cases hd:r.d.dst with
     |none=>simp
     |some u=>simp only [xE,Option.some.injEq]
   · rename_i hne
     have hil:=vK h
     have ih:=sV (p:=p) (T:=T) (i:=i) (t:=t) h hp fun j s' hj hpj hij=>h2 j s' (up hj) hpj hij
     have hd:dn (s::rs) rs.length=some s:=by simp [dn]
     simp only [yi,if_neg (fun e=>hne e.symm: ¬ rs.length=i)]
     cases hpl:p rs.length with
     |false=>exact ih
     | true=>
      cases h3:s.d.dst with
      |none=>exact ih
      | some u=>
       simp only [xE,ih]
       by_cases h4:r.d.dst=some t
       · have:=h2 _ _ hd hpl hil h4
         rw [h3] at this
         have hu:u≠t:=fun e=>this (by rw [e])
         simp [h4,hu]
       · simp [h4]
end Go.Ev
namespace Go.Ev
open Go.RowKit
section
variable (P:Program) (E:Env) (f:FuncId) (T:yC) (H:zQ) (fr0:Nat) (all:List Oper)
def uG (o:Oper) (T':yC) (b:Bool):Prop:= ∀ (σ:Sg) (a:Act),(∀ t ∈ o.looksAt all.toArray,VR σ (xi T' t) (a.tmps.getD t undef))→Region.wanted o (yielded all.toArray a.tmps)=b
theorem vd {H:zQ}: ∀ {l:List Nat} {n:Nat} {e:Bool×Blk},zp (tS H l) n=some e→hget H n=some e
  | [],n,e,h=>by cases h
  | m ::l,n,e,h=>by
   simp only [tS] at h
   split at h
   · rename_i e' he
     simp only [zp] at h
     split at h
     · rename_i hb
       have:=Nat.eq_of_beq_eq_true hb
       subst this
       rw [he]
       exact h
     · exact vd h
   · exact vd h
theorem tc {dr:Bool} {see:List Nat} {l:Lvl} {H:zQ} {x:Nat} {e:Bool×Blk} (h:hget (tlD dr see l H) x=some e):dr=false∧hget (l::H) x=some e:=by
 cases dr with
 |true=>simp [tlD,Ev.hget] at h
 |false=>
  refine ⟨rfl,?_⟩
  simp only [tlD,zk] at h
  cases hq:zp (tS (l::H) see) x with
  |some e'=>rw [hq] at h; cases h; exact vd hq
  |none=>rw [hq] at h; cases h
structure kO (rs:List Rec) (r:Rec):Prop where
 ho:all[rs.length]? =some r.o
 hm:r.m=zx (xH rs) r.o.after.toList
 edge: ∀ e ∈ r.o.after.toList,Region.binds .any e=true→e.on<rs.length
 dst:r.d.dst=r.o.dst
 fits:fits E f r.o.dst=true
 fr:r.fr=ua fr0 rs
 le:r.fr≤r.fr'
 view:r.d.view=tlD r.d.dry r.d.see (zr (ze r.m) rs) H
 apart: ∀ j s,dn rs j=some s→ze r.m j=false→wV r.d s.d=true∧ ∃ o',all[j]? =some o'∧Oper.apart all.toArray o' r.o=true
 done:(uG all r.o (yi (ze r.m) T rs) true∧Grow ([]::tlD r.d.dry r.d.see (zr (ze r.m) rs) H) (r.d.l::tlD r.d.dry r.d.see (zr (ze r.m) rs) H) r.fr r.fr'∧OpR P r.o (yi (ze r.m) T rs) ([]::tlD r.d.dry r.d.see (zr (ze r.m) rs) H) r.fr r.d.v (r.d.l::tlD r.d.dry r.d.see (zr (ze r.m) rs) H) r.fr'∧r.d.writes=tU r.fr r.d.l)∨
  (uG all r.o (yi (ze r.m) T rs) false∧r.d.l= []∧r.d.v= .tup []∧r.d.writes=false)
inductive xy:List Rec→Prop
  |nil:xy []
  |cons {rs:List Rec} {r:Rec} (h:xy rs) (hr:kO P E f T H fr0 all rs r):xy (r::rs)
end
section
variable {P:Program} {E:Env} {f:FuncId} {T:yC} {H:zQ} {fr0:Nat} {all:List Oper}
theorem qa {o :Oper} {T':yC} {yes no:Prop} (h:vh cond o.guard all T' yes no):(yes∧uG all o T' true)∨(no∧uG all o T' false):=by
 unfold vh at h
 unfold uG Region.wanted
 split at h
 · rename_i hg
   rw [hg]
   exact .inl ⟨h,fun _ _ _=>rfl⟩
 · rename_i j want hg
   rw [hg]
   split at h
   · rename_i oj hj
     split at h
     · rename_i tj ht
       split at h
       · rename_i b hb
         have h2:all.toArray[j]? =some oj:=by simpa using xx hj
         have hl:tj ∈ o.looksAt all.toArray:=by
          unfold Oper.looksAt
          rw [hg]
          simp only [h2,Option.bind_some,ht]
          exact List.mem_append_right _ (by simp)
         have hy: ∀ (σ:Sg) (a:Act),(∀ t ∈ o.looksAt all.toArray,VR σ (xi T' t) (a.tmps.getD t undef))→yielded all.toArray a.tmps j=some b:=fun σ a ha=>by
          have h1:=ha tj hl
          rw [hb] at h1
          unfold yielded
          rw [h2]
          simp only [Option.bind_some,ht]
          generalize hq:a.tmps.getD tj undef=q at h1
          cases h1
          cases ht2:a.tmps[tj]? with
          |none=>simp [ht2,undef] at hq
          |some x=>
           simp [ht2] at hq
           subst hq
           rfl
         cases hbw:b==want with
         |true=>
          rw [hbw] at h
          refine .inl ⟨h,fun σ a ha=> ?_⟩
          simp only [hy σ a ha]
          simpa using hbw
         |false=>
          rw [hbw] at h
          refine .inr ⟨h,fun σ a ha=> ?_⟩
          simp only [hy σ a ha]
          simpa using hbw
       · rename_i b hb
         have h2:all.toArray[j]? =some oj:=by simpa using xx hj
         have hl:tj ∈ o.looksAt all.toArray:=by
          unfold Oper.looksAt
          rw [hg]
          simp only [h2,Option.bind_some,ht]
          exact List.mem_append_right _ (by simp)
         have hy: ∀ (σ:Sg) (a:Act),(∀ t ∈ o.looksAt all.toArray,VR σ (xi T' t) (a.tmps.getD t undef))→yielded all.toArray a.tmps j=some b:=fun σ a ha=>by
          have h1:=ha tj hl
          rw [hb] at h1
          unfold yielded
          rw [h2]
          simp only [Option.bind_some,ht]
          generalize hq:a.tmps.getD tj undef=q at h1
          cases h1
          cases ht2:a.tmps[tj]? with
          |none=>simp [ht2,undef] at hq
          |some x=>
           simp [ht2] at hq
           subst hq
           rfl
         cases b<;>cases want
         · exact .inl ⟨h,fun σ a ha=>by simp [hy σ a ha]⟩
         · exact .inr ⟨h,fun σ a ha=>by simp [hy σ a ha]⟩
         · exact .inr ⟨h,fun σ a ha=>by simp [hy σ a ha]⟩
         · exact .inl ⟨h,fun σ a ha=>by simp [hy σ a ha]⟩
       · rename_i l hb
         have h2:all.toArray[j]? =some oj:=by simpa using xx hj
         have hl:tj ∈ o.looksAt all.toArray:=by
          unfold Oper.looksAt
          rw [hg]
          simp only [h2,Option.bind_some,ht]
          exact List.mem_append_right _ (by simp)
         have hy: ∀ (σ:Sg) (a:Act),(∀ t ∈ o.looksAt all.toArray,VR σ (xi T' t) (a.tmps.getD t undef))→yielded all.toArray a.tmps j=none:=fun σ a ha=>by
          have h1:=ha tj hl
          rw [hb] at h1
          unfold yielded
          rw [h2]
          simp only [Option.bind_some,ht]
          generalize hq:a.tmps.getD tj undef=q at h1
          cases h1
          cases ht2:a.tmps[tj]? with
          |none=>rfl
          |some x=>
           simp [ht2] at hq
           subst hq
           rfl
         exact .inr ⟨h,fun σ a ha=>by simp [hy σ a ha]⟩
       · exact h.elim
     · exact h.elim
   · exact h.elim
theorem qC {rs:List Rec} (h:xy P E f T H fr0 all rs):fr0≤ua fr0 rs:=by
 induction h with
 |nil=>exact Nat.le_refl _
 |cons h hr ih=>exact Nat.le_trans ih (Nat.le_trans (Nat.le_of_eq hr.fr.symm) hr.le)
theorem In.mem {l:Lvl} {x:Nat} (h:In l x): ∃ e,(x,e) ∈ l:=let ⟨e,he⟩:=h; ⟨e,yp he⟩
theorem In.of {l:Lvl} {p:Nat×Bool×Blk} (h:p ∈ l):In l p.1:=nZ h
theorem nE {rs:List Rec} {r:Rec} (hr:kO P E f T H fr0 all rs r): ∀ p ∈ r.d.l,p.1<r.fr'∧(p.2.1=true∨p.2.2= .dead):=by
 rcases hr.done with ⟨_,h,_⟩|⟨_,h,_⟩
 · obtain ⟨_,⟨l0,e,h3⟩,_⟩:=h
   have e1:=e [] _ rfl
   simp only [List.append_nil,List.cons.injEq] at e1
   rw [e1.1]
   exact h3
 · rw [h]; intro p hp; cases hp
theorem xf {rs:List Rec} (h:xy P E f T H fr0 all rs) {i:Nat} {r:Rec} (hi:dn rs i=some r): ∃ rs1 rs2,rs=rs2++r::rs1∧rs1.length=i∧kO P E f T H fr0 all rs1 r∧xy P E f T H fr0 all rs1∧r.fr'≤ua fr0 rs∧fr0≤r.fr:=by
 induction h with
 |nil=>simp [dn] at hi
 | @cons rs s h hr ih=>
  simp only [dn] at hi
  split at hi
  · rename_i e
    cases hi
    exact ⟨rs,[],rfl,e.symm,hr,h,Nat.le_refl _,by rw [hr.fr]; exact qC h⟩
  · obtain ⟨rs1,rs2,e1,e2,e3,e4,e5,e6⟩:=ih hi
    exact ⟨rs1,s::rs2,by rw [e1]; rfl,e2,e3,e4,Nat.le_trans e5 (by rw [← hr.fr]; exact hr.le),e6⟩
theorem rp {rs:List Rec} (h:xy P E f T H fr0 all rs) {j:Nat} {s:Rec} {x:Nat} (hj:dn rs j=some s) (hx:In s.d.l x):x<s.fr'∧s.fr'≤ua fr0 rs:=by
 obtain ⟨rs1,rs2,e1,e2,e3,e4,e5,_⟩:=xf h hj
 obtain ⟨e,he⟩:=hx.mem
 exact ⟨(nE e3 _ he).1,e5⟩
theorem v6 {sy:Bool} {Y:xN} (ok:xa P E) (hY:sh P Y) (hN:Names H fr0): ∀ (rest:List Oper) (rs:List Rec) (K:yC→zQ→Nat→Prop),xy P E f T H fr0 all rs→(∃ p,all=p++rest∧p.length=rs.length)→
 sK cond E sy Y f T H all rest (xH rs) (xj rs) rs.length (ua fr0 rs) K→ ∃ rs',xy P E f T H fr0 all rs'∧rs'.length=all.length∧K (yi (fun _=>true) T rs') (wu (zr (fun _=>true) rs') H) (ua fr0 rs')
 | [],rs,K,hg,⟨p,hp,hl⟩,h=>by
  simp only [sK] at h
  rw [nA,od] at h
  exact ⟨rs,hg,by rw [← hl,hp]; simp,h⟩
 | o :: rest,rs,K,hg,⟨p,hp,hl⟩,h=>by
  simp only [sK] at h
  split at h
  · rename_i g1 g2 g3
    rw [rK,rT] at h
    have hget:all[rs.length]? =some o:=by rw [hp,← hl]; simp
    have hmask: ∀ (r:Rec),xH (r::rs)=xH rs++ [r.m]:=fun r=>by simp [xH]
    have hdone: ∀ (r:Rec),xj (r::rs)=r.d::xj rs:=fun r=>rfl
    have hnext: ∃ q,all=q++rest∧q.length=rs.length+1:=⟨p++ [o],by simp [hp],by simp [hl]⟩
    rcases qa h with ⟨h,hw⟩|⟨h,hw⟩
    · have hN':Names ([]::tlD (dry o.op) (uU (yi (ze (zx (xH rs) o.after.toList)) T rs) (zr (ze (zx (xH rs) o.after.toList)) rs) H o.op) (zr (ze (zx (xH rs) o.after.toList)) rs) H) (ua fr0 rs):=by
       intro n e hn
       simp only [zk,zp] at hn
       obtain ⟨_,hn⟩:=tc hn
       rw [zk] at hn
       cases hs:zp (zr (ze (zx (xH rs) o.after.toList)) rs) n with
       |none=>rw [hs] at hn; exact Nat.lt_of_lt_of_le (hN n e hn) (qC hg)
       |some e'=>
        obtain ⟨j,s,hj,hp',hi⟩:=In.sel ⟨e',hs⟩
        obtain ⟨q1,q2⟩:=rp hg hj hi
        omega
      obtain ⟨v,H',fr',hk,hgr,hop⟩:=ls ok hY (by simp) hN' h
      obtain ⟨l,_,e1⟩: ∃ l,True∧H'=l::tlD (dry o.op) (uU (yi (ze (zx (xH rs) o.after.toList)) T rs) (zr (ze (zx (xH rs) o.after.toList)) rs) H o.op) (zr (ze (zx (xH rs) o.after.toList)) rs) H:=by
       obtain ⟨l0,e,_⟩:=hgr.lvl
       exact ⟨_,trivial,e [] _ rfl⟩
      subst e1
      simp only at hk
      split at hk
      · rename_i hap
        let r:Rec:=⟨o,zx (xH rs) o.after.toList,⟨o.dst,v,l,dry o.op,tU (ua fr0 rs) l,tlD (dry o.op) (uU (yi (ze (zx (xH rs) o.after.toList)) T rs) (zr (ze (zx (xH rs) o.after.toList)) rs) H o.op) (zr (ze (zx (xH rs) o.after.toList)) rs) H,(uU (yi (ze (zx (xH rs) o.after.toList)) T rs) (zr (ze (zx (xH rs) o.after.toList)) rs) H o.op)⟩,ua fr0 rs,fr'⟩
        exact v6 ok hY hN rest (r::rs) K (.cons hg ⟨hget,rfl,x8 g3,rfl,g2,rfl,hgr.le,rfl,ws hap,.inl ⟨hw,hgr,hop,rfl⟩⟩) (by simpa using hnext) (by rw [hmask,hdone]; exact hk)
      · exact hk.elim
    · split at h
      · rename_i hap
        let r:Rec:=⟨o,zx (xH rs) o.after.toList,⟨o.dst,.tup [],[],true,false,[],[]⟩,ua fr0 rs,ua fr0 rs⟩
        exact v6 ok hY hN rest (r::rs) K (.cons hg ⟨hget,rfl,x8 g3,rfl,g2,rfl,Nat.le_refl _,rfl,ws hap,.inr ⟨hw,rfl,rfl,rfl⟩⟩) (by simpa using hnext) (by rw [hmask,hdone]; exact h)
      · exact h.elim
  · exact h.elim
end
end Go.Ev
namespace Go.Ev
open Go.RowKit
section
variable {P:Program} {E:Env} {f:FuncId} {T:yC} {H:zQ} {fr0:Nat} {all:List Oper} {rs:List Rec}
theorem v4 (h:xy P E f T H fr0 all rs): ∀ (i:Nat) {r:Rec},dn rs i=some r→ ∀ j,ze r.m j=true→j<i:=by
 intro i
 induction i using Nat.strongRecOn with
 | _ i ih=>
  intro r hi j hj
  obtain ⟨rs1,rs2,e1,e2,hr,h1,-,-⟩:=xf h hi
  rw [hr.hm] at hj
  obtain ⟨e,he,hb,hj⟩:=vI.1 hj
  have hlt:=hr.edge e he hb
  rcases hj with rfl|hj
  · omega
  · obtain ⟨s,hs⟩:=vN hlt
    rw [wb hs] at hj
    have hs':dn rs e.on=some s:=by
     rw [e1,show rs2++r::rs1=(rs2++ [r])++rs1 by simp,uv hlt]
     exact hs
    have:=ih e.on (by omega) hs' j hj
    omega
theorem rD (h:xy P E f T H fr0 all rs): ∀ (i:Nat) {r:Rec},dn rs i=some r→ ∀ {j s},dn rs j=some s→ze r.m j=true→ ∀ k,ze s.m k=true→ze r.m k=true:=by
 intro i
 induction i using Nat.strongRecOn with
 | _ i ih=>
  intro r hi j s hj hb k hk
  obtain ⟨rs1,rs2,e1,e2,hr,h1,-,-⟩:=xf h hi
  rw [hr.hm] at hb ⊢
  obtain ⟨e,he,hbe,hb⟩:=vI.1 hb
  have hlt:=hr.edge e he hbe
  obtain ⟨x,hx⟩:=vN hlt
  have hx':dn rs e.on=some x:=by
   rw [e1,show rs2++r::rs1=(rs2++ [r])++rs1 by simp,uv hlt]
   exact hx
  refine vI.2 ⟨e,he,hbe,.inr ?_⟩
  rw [wb hx]
  rcases hb with rfl|hb
  · rw [hx'] at hj
    cases hj
    exact hk
  · rw [wb hx] at hb
    exact ih e.on (by omega) hx' hj hb k hk
theorem yd (h:xy P E f T H fr0 all rs) {i:Nat} {r:Rec} (hi:dn rs i=some r):
    all[i]? =some r.o∧r.d.dst=r.o.dst∧Ev.fits E f r.o.dst=true∧r.fr≤r.fr'∧fr0≤r.fr∧r.fr'≤ua fr0 rs∧
    ((uG all r.o (yi (ze r.m) T rs) true∧Grow ([]::tlD r.d.dry r.d.see (zr (ze r.m) rs) H) (r.d.l::tlD r.d.dry r.d.see (zr (ze r.m) rs) H) r.fr r.fr'∧OpR P r.o (yi (ze r.m) T rs) ([]::tlD r.d.dry r.d.see (zr (ze r.m) rs) H) r.fr r.d.v (r.d.l::tlD r.d.dry r.d.see (zr (ze r.m) rs) H) r.fr'∧r.d.writes=tU r.fr r.d.l)∨
    (uG all r.o (yi (ze r.m) T rs) false∧r.d.l= []∧r.d.v= .tup []∧r.d.writes=false)):=by
  obtain ⟨rs1,rs2,e1,e2,hr,h1,h5,h6⟩:=xf h hi
  have hb:=v4 h i hi
  have hT:yi (ze r.m) T rs=yi (ze r.m) T rs1:=by
   have:=t7 (rs1:=rs1) (ze r.m) T (rs2++ [r])
   rw [← this,show (rs2++ [r])++rs1=rs by rw [e1]; simp]
   refine xl T fun j _=> ?_
   unfold sZ
   cases hj:ze r.m j with
   |false=>rfl
   |true=>have:=hb j hj; simp; omega
  have hL:zr (ze r.m) rs=zr (ze r.m) rs1:=by
   have:=v3 (rs1:=rs1) (ze r.m) (rs2++ [r])
   rw [← this,show (rs2++ [r])++rs1=rs by rw [e1]; simp]
   refine xS fun j _=> ?_
   unfold sZ
   cases hj:ze r.m j with
   |false=>rfl
   |true=>have:=hb j hj; simp; omega
  rw [hT,hL]
  exact ⟨by rw [← e2]; exact hr.ho,hr.dst,hr.fits,hr.le,h6,h5,hr.done⟩
theorem oh (h:xy P E f T H fr0 all rs) {i j:Nat} {r s:Rec} (hi:dn rs i=some r) (hj:dn rs j=some s) (hlt:j<i):s.fr'≤r.fr:=by
 obtain ⟨rs1,rs2,e1,e2,hr,h1,-,-⟩:=xf h hi
 have hs:dn rs1 j=some s:=by
  rw [← uv (by omega) (rs2++ [r]),show (rs2++ [r])++rs1=rs by rw [e1]; simp]
  exact hj
 obtain ⟨_,_,_,_,_,_,h5,_⟩:=xf h1 hs
 rw [hr.fr]
 exact h5
theorem uq (h:xy P E f T H fr0 all rs) {i j x:Nat} {r s:Rec} (hi:dn rs i=some r) (hj:dn rs j=some s) (h1:r.fr≤x) (h2:x<r.fr') (h3:s.fr≤x) (h4:x<s.fr'):i=j:=by
 rcases Nat.lt_trichotomy i j with hl|hl|hl
 · have:=oh h hj hi hl; omega
 · exact hl
 · have:=oh h hi hj hl; omega
theorem pW {r s:tH} (h:wV s r=true):wV r s=true:=by
 revert h
 unfold wV
 cases r.dry<;>cases s.dry<;>cases r.writes<;>cases s.writes<;>cases xR s.view r.l<;>cases xR r.view s.l<;>cases xR [s.l] r.l<;>cases xR [r.l] s.l<;>simp
theorem tI {V:zQ}: ∀ {l:Lvl},xR V l=true→ ∀ {x},In l x→Ev.hget V x=none
  | [],_,x,h=>by obtain ⟨e,he⟩:=h; simp [zp] at he
  | (n, e)::l,h,x,hx=>by
   simp only [xR] at h
   split at h
   · cases h
   · rename_i hn
     obtain ⟨e',he⟩:=hx
     simp only [zp] at he
     split at he
     · rename_i hb
       have:=Nat.eq_of_beq_eq_true hb
       subst this
       exact hn
     · exact tI h ⟨e',he⟩
theorem kB (h:xy P E f T H fr0 all rs) {i:Nat} {r:Rec} (hi:dn rs i=some r):r.d.view=tlD r.d.dry r.d.see (zr (ze r.m) rs) H:=by
 obtain ⟨rs1,rs2,e1,e2,hr,h1,h5,h6⟩:=xf h hi
 have hb:=v4 h i hi
 have hL:zr (ze r.m) rs=zr (ze r.m) rs1:=by
  have:=v3 (rs1:=rs1) (ze r.m) (rs2++ [r])
  rw [← this,show (rs2++ [r])++rs1=rs by rw [e1]; simp]
  refine xS fun j _=> ?_
  unfold sZ
  cases hj:ze r.m j with
  |false=>rfl
  |true=>have:=hb j hj; simp; omega
 rw [hL]
 exact hr.view
theorem pN (h:xy P E f T H fr0 all rs) {i j:Nat} {r s:Rec} (hi:dn rs i=some r) (hj:dn rs j=some s) (hne:i≠j) (h1:ze r.m j=false) (h2:ze s.m i=false):
    wV r.d s.d=true∧(∀ t,r.d.dst=some t→t ∉ s.o.looksAt all.toArray∧s.d.dst≠some t)∧(∀ t,s.d.dst=some t→t ∉ r.o.looksAt all.toArray):=by
  have main: ∀ {i j:Nat} {r s:Rec},dn rs i=some r→dn rs j=some s→j<i→ze r.m j=false→wV r.d s.d=true∧Oper.apart all.toArray s.o r.o=true∧r.d.dst=r.o.dst∧s.d.dst=s.o.dst:=by
   intro i j r s hi hj hlt hb
   obtain ⟨rs1,rs2,e1,e2,hr,_,-,-⟩:=xf h hi
   have hs:dn rs1 j=some s:=by
    rw [← uv (by omega) (rs2++ [r]),show (rs2++ [r])++rs1=rs by rw [e1]; simp]
    exact hj
   obtain ⟨a1,o',a2,a3⟩:=hr.apart j s hs hb
   have hso:=(yd h hj).1
   rw [hso] at a2
   cases a2
   exact ⟨a1,a3,hr.dst,(yd h hj).2.1⟩
  rcases Nat.lt_or_gt_of_ne hne with hl|hl
  · obtain ⟨a1,a2,a3,a4⟩:=main hj hi hl h2
    obtain ⟨b1,b2,b3⟩:=Oper.apart_spec a2
    refine ⟨?_,fun t ht=>⟨b1 t (by rw [← a4]; exact ht),by rw [a3]; exact b2 t (by rw [← a4]; exact ht)⟩,fun t ht=>b3 t (by rw [← a3]; exact ht)⟩
    exact pW a1
  · obtain ⟨a1,a2,a3,a4⟩:=main hi hj hl h1
    obtain ⟨b1,b2,b3⟩:=Oper.apart_spec a2
    refine ⟨a1,fun t ht=>⟨b3 t (by rw [← a3]; exact ht),fun e=>b2 t (by rw [← a4]; exact e) (by rw [← a3]; exact ht)⟩,fun t ht=>b1 t (by rw [← a4]; exact ht)⟩
theorem qR (h:xy P E f T H fr0 all rs) (hN:Names H fr0): ∀ (i:Nat) {r:Rec} {x:Nat},dn rs i=some r→In r.d.l x→x<fr0∨ ∃ j s,dn rs j=some s∧(j=i∨ze r.m j=true)∧s.fr≤x∧x<s.fr':=by
 intro i
 induction i using Nat.strongRecOn with
 | _ i ih =>
  intro r x hi hx
  rcases (yd h hi).2.2.2.2.2.2 with ⟨_,hg,_,_⟩|⟨_,hl,_⟩
  · obtain ⟨e,he⟩:=hx
    rcases hg.dom x e (by simp [zk,he]) with ⟨e',he'⟩|⟨h1,h2⟩
    · simp only [zk,zp] at he'
      obtain ⟨hdr,he'⟩:=tc he'
      rw [zk] at he'
      cases hs:zp (zr (ze r.m) rs) x with
      |none=>rw [hs] at he'; exact .inl (hN x e' he')
      | some e2=>
       obtain ⟨j,s,hj,hp,hin⟩:=In.sel ⟨e2,hs⟩
       rcases ih j (v4 h i hi j hp) hj hin with h1|⟨k,s',hk,h2,h3⟩
       · exact .inl h1
       · refine .inr ⟨k,s',hk,.inr ?_,h3⟩
         rcases h2 with rfl|h2
         · exact hp
         · exact rD h i hi hj hp k h2
    · exact .inr ⟨i,r,hi,.inl rfl,h1,h2⟩
  · rw [hl] at hx
    obtain ⟨e,he⟩:=hx
    simp [zp] at he
theorem qK (h:xy P E f T H fr0 all rs) {i x:Nat} {r:Rec} (hi:dn rs i=some r) (hw:r.d.writes=false) (hx:In r.d.l x):r.fr≤x∧x<r.fr':=by
 refine ⟨?_,(rp h hi hx).1⟩
 obtain ⟨e,he⟩:=hx.mem
 rcases (yd h hi).2.2.2.2.2.2 with ⟨_,_,_,hw'⟩|⟨_,hl,_⟩
 · exact sE (hw'.symm.trans hw) _ he
 · rw [hl] at he; cases he
theorem disj (h:xy P E f T H fr0 all rs) (hN:Names H fr0) {i j x:Nat} {r s:Rec} (hi:dn rs i=some r) (hj:dn rs j=some s) (hne:i≠j) (h1:ze r.m j=false) (h2:ze s.m i=false) (hx:In r.d.l x): ¬ In s.d.l x:=by
 intro hy
 obtain ⟨a1,-,-⟩:=pN h hi hj hne h1 h2
 have hor:(r.d.writes=false∨s.d.writes=false)∨xR [s.d.l] r.d.l=true:=by
  revert a1
  unfold wV
  cases r.d.writes<;>cases s.d.writes<;>cases xR [s.d.l] r.d.l<;>simp
 rcases hor with (hw|hw)|hw
 · obtain ⟨b1,b2⟩:=qK h hi hw hx
   rcases qR h hN j hj hy with h3|⟨k,s',hk,h3,h4,h5⟩
   · have:=(yd h hi).2.2.2.2.1; omega
   · have:=uq h hi hk b1 b2 h4 h5
     subst this
     rcases h3 with h3|h3
     · exact hne h3
     · rw [h2] at h3; cases h3
 · obtain ⟨b1,b2⟩:=qK h hj hw hy
   rcases qR h hN i hi hx with h3|⟨k,s',hk,h3,h4,h5⟩
   · have:=(yd h hj).2.2.2.2.1; omega
   · have:=uq h hj hk b1 b2 h4 h5
     subst this
     rcases h3 with h3|h3
     · exact hne h3.symm
     · rw [h1] at h3; cases h3
 · have:=tI hw hx
   rw [zk] at this
   obtain ⟨e,he⟩:=hy
   rw [he] at this
   cases this
def wt (rs:List Rec) (p:Nat→Bool):Prop:= ∀ i r,dn rs i=some r→p i=true→ ∀ j,ze r.m j=true→p j=true
theorem jg (h:xy P E f T H fr0 all rs) (hN:Names H fr0) {p:Nat→Bool} (hp:wt rs p) {i x:Nat} {r:Rec} (hi:dn rs i=some r) (hpi:p i=false) {e:Bool×Blk} (he:hget (zr p rs::H) x=some e):x<r.fr∨r.fr'≤x:=by
 rw [zk] at he
 cases hs:zp (zr p rs) x with
 |none=>rw [hs] at he; have:=hN x e he; have:=(yd h hi).2.2.2.2.1; omega
 | some e2=>
  obtain ⟨j,s,hj,hpj,hin⟩:=In.sel ⟨e2,hs⟩
  rcases qR h hN j hj hin with h1|⟨k,s',hk,h2,h3,h4⟩
  · have:=(yd h hi).2.2.2.2.1; omega
  · by_cases hx:x<r.fr∨r.fr'≤x
    · exact hx
    · have:=uq h hi hk (by omega) (by omega) h3 h4
      subst this
      rcases h2 with rfl|h2
      · rw [hpi] at hpj; cases hpj
      · have:=hp j s hj hpj i h2
        rw [hpi] at this; cases this
theorem gw (h:xy P E f T H fr0 all rs) (hN:Names H fr0) {p:Nat→Bool} (hp:wt rs p) {i x:Nat} {r:Rec} (hi:dn rs i=some r) (hpi:p i=false) (hq: ∀ j,ze r.m j=true→p j=true) {e:Bool×Blk} (he:hget (tlD r.d.dry r.d.see (zr (ze r.m) rs) H) x=some e):hget (zr p rs::H) x=some e:=by
 have hev:=he
 obtain ⟨hdr,he⟩:=tc he
 have : zp (zr p rs) x=zp (zr (ze r.m) rs) x:=by
  refine pf (fun j s hj=>hq j) fun j s hj hpj hqj hin=> ?_
  have hne:i≠j:=fun e=>by subst e; rw [hpi] at hpj; cases hpj
  have h2:ze s.m i=false:=by
   cases hb:ze s.m i with
   |false=>rfl
   |true=>have:=hp j s hj hpj i hb; rw [hpi] at this; cases this
  obtain ⟨a1,-,-⟩:=pN h hi hj hne hqj h2
  have hw:s.d.writes=false∨xR r.d.view s.d.l=true:=by
   revert a1
   unfold wV
   rw [hdr]
   cases s.d.writes<;>cases r.d.writes<;>cases s.d.dry<;>cases xR r.d.view s.d.l<;>simp
  rcases hw with hw|hw
  case inr=>
   have h3:=tI hw hin
   rw [kB h hi] at h3
   rw [h3] at hev
   cases hev
  obtain ⟨b1,b2⟩:=qK h hj hw hin
  rw [zk] at he
  cases hs:zp (zr (ze r.m) rs) x with
  |none=>rw [hs] at he; have:=hN x e he; have:=(yd h hj).2.2.2.2.1; omega
  | some e2=>
   obtain ⟨k,s',hk,hqk,hin'⟩:=In.sel ⟨e2,hs⟩
   rcases qR h hN k hk hin' with h1|⟨k',s'',hk',h2',h3,h4⟩
   · have:=(yd h hj).2.2.2.2.1; omega
   · have:=uq h hj hk' b1 b2 h3 h4
     subst this
     have hqj':ze r.m j=true:=by
      rcases h2' with rfl|h2'
      · exact hqk
      · exact rD h i hi hk hqk j h2'
     rw [hqj] at hqj'; cases hqj'
 rw [zk] at he ⊢
 rw [this]
 exact he
end
end Go.Ev
namespace Go.Ev
open Go.RowKit
section
variable {P:Program} {E:Env} {f:FuncId} {T:yC} {H:zQ} {fr0:Nat} {all:List Oper} {rs:List Rec}
structure St (E:Env) (f:FuncId) (T:yC) (H:zQ) (fr0:Nat) (rs:List Rec) (σ0:Sg) (w0:World) (p:Nat→Bool) (σ:Sg) (w:World) (a:Act):Prop where
 ar:AR E f σ (yi p T rs) a
 sim:Sim σ w (zr p rs::H)
 mon:Mono σ0 σ
 ext: ∀ x,x<fr0∨ua fr0 rs≤x→σ x=σ0 x
 frm:Frm w0 w (OwnB σ0 H) (OwnB σ (zr p rs::H))
 free: ∀ i r,dn rs i=some r→p i=false→ ∀ x,r.fr≤x→x<r.fr'→σ x=none
def wH (p:Nat→Bool) (i:Nat):Nat→Bool:=fun j=>if j=i then true else p j
theorem jL (h:xy P E f T H fr0 all rs) (hN:Names H fr0) {p:Nat→Bool} (hp:wt rs p) {i:Nat} {r:Rec} (hi:dn rs i=some r) (hpi:p i=false) (hl:r.d.l= []) (hv:r.d.v= .tup []) {σ0:Sg} {w0:World} {σ:Sg} {w:World} {a:Act} (s:St E f T H fr0 rs σ0 w0 p σ w a) (u:Value) (hu:u=undef):
    St E f T H fr0 rs σ0 w0 (wH p i) σ w (a.put r.o.dst u):=by
  have hh: ∀ x,hget (zr (wH p i) rs::H) x=hget (zr p rs::H) x:=fun x=>by
   rw [zk,zk,show wH p i=fun j=>if j=i then true else p j from rfl,qn hi hpi (fun j s' _ _ _ hx=>by rw [hl] at hx; obtain ⟨e,he⟩:=hx; simp [zp] at he),hl]
   rfl
  obtain ⟨_,hdst,hfits,_⟩:=yd h hi
  refine ⟨?_,s.sim.congr hh,s.mon,s.ext,s.frm.mono (fun _ h=>h) (fun k hk=>OwnB.congr hh hk),fun j s' hj hpj=>s.free j s' hj ?_⟩
  · have hT: ∀ t,xi (yi (wH p i) T rs) t=if r.d.dst=some t then r.d.v else xi (yi p T rs) t:=fun t=>sV hi hpi fun j s' hj hpj hij hd=>by
     have h1:ze s'.m i=false:=by
      cases hb:ze s'.m i with
      |false=>rfl
      |true=>have:=hp j s' hj hpj i hb; rw [hpi] at this; cases this
     have h2:ze r.m j=false:=by
      cases hb:ze r.m j with
      |false=>rfl
      |true=>have:=v4 h i hi j hb; omega
     exact ((pN h hi hj (by omega) h2 h1).2.1 t hd).2
    cases hd:r.o.dst with
    |none=>
     refine ⟨s.ar.defers,s.ar.size,fun t=> ?_⟩
     rw [hT,hdst,hd]
     simpa [Act.put] using s.ar.get t
    | some d=>
     rw [hd] at hfits
     simp only [fits] at hfits
     split at hfits
     · rename_i fn hf
       have:=s.ar.put (d:=d) (v:=r.d.v) (u:=u) hf (by simpa [Nat.blt_eq] using hfits) (by rw [hv,hu]; exact .tup _ _ .nil)
       refine ⟨this.defers,this.size,fun t=> ?_⟩
       have h3:=this.get t
       rw [xE] at h3
       rw [hT,hdst,hd]
       simpa using h3
     · cases hfits
  · unfold wH at hpj
    split at hpj
    · cases hpj
    · exact hpj
theorem ia (h :xy P E f T H fr0 all rs) (hN:Names H fr0) {p:Nat→Bool} (hp:wt rs p) {i:Nat} {r:Rec} (hi:dn rs i=some r) (hpi:p i=false) (hq: ∀ j,ze r.m j=true→p j=true)
    (hg:Grow ([]::tlD r.d.dry r.d.see (zr (ze r.m) rs) H) (r.d.l::tlD r.d.dry r.d.see (zr (ze r.m) rs) H) r.fr r.fr') {σ0:Sg} {w0:World} {σ σ':Sg} {w w':World} {a:Act} {v':Value} (s:St E f T H fr0 rs σ0 w0 p σ w a)
    (ho:Out σ w ([]::tlD r.d.dry r.d.see (zr (ze r.m) rs) H) r.fr r.d.v (r.d.l::tlD r.d.dry r.d.see (zr (ze r.m) rs) H) r.fr' σ' w' v'):
    St E f T H fr0 rs σ0 w0 (wH p i) σ' w' (a.put r.o.dst v'):=by
  obtain ⟨_,hdst,hfits,hle,hfr0,hfrN,_⟩:=yd h hi
  have un: ∀ j s',dn rs j=some s'→p j=true→ze s'.m i=false:=fun j s' hj hpj=>by
   cases hb:ze s'.m i with
   |false=>rfl
   |true=>have:=hp j s' hj hpj i hb; rw [hpi] at this; cases this

  have hh: ∀ x,hget (zr (wH p i) rs::H) x=match zp r.d.l x with|some e=>some e|none=>hget (zr p rs::H) x:=fun x=>by
   rw [zk,zk,show wH p i=fun j=>if j=i then true else p j from rfl,qn hi hpi (fun j s' hj hpj hij hx=>disj h hN hi hj (by omega) (by
    cases hb:ze r.m j with
    |false=>rfl
    |true=>have:=v4 h i hi j hb; omega) (un j s' hj hpj) hx)]
   cases zp r.d.l x<;>rfl
  have hknow: ∀ {x e},hget (tlD r.d.dry r.d.see (zr (ze r.m) rs) H) x=some e→hget (zr p rs::H) x=some e:=fun he=>gw h hN hp hi hpi hq he
  have hk0: ∀ {x e},hget ([]::tlD r.d.dry r.d.see (zr (ze r.m) rs) H) x=some e→hget (zr p rs::H) x=some e:=fun he=>hknow (by simpa [zk,zp] using he)
  have hstay: ∀ {x e},hget (zr p rs::H) x=some e→σ' x=σ x:=fun he=>ho.ext _ (jg h hN hp hi hpi he)

  have cases2: ∀ {x e},hget (zr (wH p i) rs::H) x=some e→(hget (r.d.l::tlD r.d.dry r.d.see (zr (ze r.m) rs) H) x=some e)∨(hget (zr p rs::H) x=some e∧zp r.d.l x=none∧hget (tlD r.d.dry r.d.see (zr (ze r.m) rs) H) x=none):=fun {x e} he=>by
   rw [hh] at he
   cases hl:zp r.d.l x with
   |some e'=>rw [hl] at he; exact .inl (by rw [zk,hl]; exact he)
   | none=>
    rw [hl] at he
    cases ht:hget (tlD r.d.dry r.d.see (zr (ze r.m) rs) H) x with
    |none=>exact .inr ⟨he,rfl,rfl⟩
    |some e'=>
     have:=hknow ht
     rw [this] at he
     cases he
     exact .inl (by rw [zk,hl]; exact ht)
  have sub: ∀ k,OwnB σ ([]::tlD r.d.dry r.d.see (zr (ze r.m) rs) H) k→OwnB σ (zr p rs::H) k:=fun k ⟨n,b,rb,h1,h2⟩=>⟨n,b,rb,hk0 h1,h2⟩

  have apartB: ∀ {x:Nat} {e:Bool×Blk} {rb:RB},hget (zr p rs::H) x=some e→e.2≠ .dead→hget (tlD r.d.dry r.d.see (zr (ze r.m) rs) H) x=none→σ x=some rb→ ¬ OwnB σ ([]::tlD r.d.dry r.d.see (zr (ze r.m) rs) H) rb.blk:=fun {x e rb} he hd hx hr ⟨n,b,rb',h1,h2,h3,h4⟩=>by
   have hne:n≠x:=fun e=>by subst e; simp only [zk,zp] at h1; rw [h1] at hx; cases hx
   exact s.sim.dist n x b e (hk0 h1) he h2 hd hne rb' rb h3 hr h4
  have own2: ∀ {x:Nat} {b:Blk} {rb:RB},hget (r.d.l::tlD r.d.dry r.d.see (zr (ze r.m) rs) H) x=some (true,b)→b≠ .dead→σ' x=some rb→w.heap.size≤rb.blk∨OwnB σ ([]::tlD r.d.dry r.d.see (zr (ze r.m) rs) H) rb.blk:=fun {x b rb} hx hd hr=>ho.frm.own _ ⟨x,b,rb,hx,hd,hr,rfl⟩
  have simN : Sim σ' w' (zr (wH p i) rs::H):=by
   constructor
   · intro x e he
     rcases cases2 he with h1|⟨h1,h2,h3⟩
     · exact ho.sim.ent x e h1
     · intro hd
       exact (s.sim.ent x e h1).keep ho.mon (hstay h1) ho.frm.size (fun rb hr hlt=>ho.frm.old _ hlt (apartB h1 hd h3 hr)) hd
   · intro n m b e hn hm hb hd hne rb rs' hrn hrm
     rcases cases2 hn with h1|⟨h1,h2,h3⟩<;>rcases cases2 hm with k1|⟨k1,k2,k3⟩
     · exact ho.sim.dist n m b e h1 k1 hb hd hne rb rs' hrn hrm
     · rw [hstay k1] at hrm
       rcases own2 h1 hb hrn with hs|hs
       · have:=(s.sim.ent m e k1 hd rs' hrm).1
         omega
       · intro e1
         rw [e1] at hs
         exact apartB k1 hd k3 hrm hs
     · rw [hstay h1] at hrn
       obtain ⟨eb,eblk⟩:=e
       cases eb with
       | true=>
        rcases own2 k1 hd hrm with hs|hs
        · have:=(s.sim.ent n _ h1 hb rb hrn).1
          omega
        · intro e1
          rw [← e1] at hs
          exact apartB h1 hb h3 hrn hs
       | false=>
        have h4:hget (tlD r.d.dry r.d.see (zr (ze r.m) rs) H) m=some (false,eblk):=by
         rw [zk] at k1
         cases hl:zp r.d.l m with
         |none=>rw [hl] at k1; exact k1
         |some e'=>
          rw [hl] at k1
          cases k1
          have:=(hg.lvl)
          obtain ⟨l0,q1,q2⟩:=this
          have e1:=q1 [] _ rfl
          simp only [List.append_nil,List.cons.injEq] at e1
          have:=(q2 _ (e1.1 ▸ yp hl)).2
          rcases this with h|h
          · cases h
          · exact absurd h hd
        have k4:=hknow h4
        rw [hstay k4] at hrm
        exact s.sim.dist n m b _ h1 k4 hb hd hne rb rs' hrn hrm
     · rw [hstay h1] at hrn
       rw [hstay k1] at hrm
       exact s.sim.dist n m b e h1 k1 hb hd hne rb rs' hrn hrm
  refine ⟨?_,simN,s.mon.trans ho.mon,fun x hx=>(ho.ext x (by omega)).trans (s.ext x hx),?_,fun j s' hj hpj x h1 h2=> ?_⟩
  · have hT: ∀ t,xi (yi (wH p i) T rs) t=if r.d.dst=some t then r.d.v else xi (yi p T rs) t:=fun t=>sV hi hpi fun j s' hj hpj hij hd=>by
     have h2:ze r.m j=false:=by
      cases hb:ze r.m j with
      |false=>rfl
      |true=>have:=v4 h i hi j hb; omega
     exact ((pN h hi hj (by omega) h2 (un j s' hj hpj)).2.1 t hd).2
    have ar':=s.ar.mono ho.mon
    cases hd:r.o.dst with
    |none=>
     refine ⟨ar'.defers,ar'.size,fun t=> ?_⟩
     rw [hT,hdst,hd]
     simpa [Act.put] using ar'.get t
    | some d=>
     rw [hd] at hfits
     simp only [fits] at hfits
     split at hfits
     · rename_i fn hf
       have:=ar'.put (d:=d) (v:=r.d.v) (u:=v') hf (by simpa [Nat.blt_eq] using hfits) ho.v
       refine ⟨this.defers,this.size,fun t=> ?_⟩
       have h3:=this.get t
       rw [xE] at h3
       rw [hT,hdst,hd]
       simpa using h3
     · cases hfits
  · refine s.frm.trans ⟨ho.frm.os,ho.frm.tape,ho.frm.output,ho.frm.size,fun k hk hn=>ho.frm.old k hk fun hs=>hn (sub k hs),fun k hk=> ?_⟩
    obtain ⟨n,b,rb,h1,h2,h3,h4⟩:=hk
    rcases cases2 h1 with h5|⟨h5,_,_⟩
    · rcases own2 h5 h2 h3 with h6|h6
      · exact .inl (h4 ▸ h6)
      · exact .inr (h4 ▸ sub _ h6)
    · rw [hstay h5] at h3
      exact .inr ⟨n,b,rb,h5,h2,h3,h4⟩
  · unfold wH at hpj
    split at hpj
    · cases hpj
    · rename_i hne
      rw [ho.ext x ?_]
      · exact s.free j s' hj hpj x h1 h2
      · by_cases hx:x<r.fr∨r.fr'≤x
        · exact hx
        · exact absurd (uq h hj hi h1 h2 (by omega) (by omega)) hne
theorem jj (h:xy P E f T H fr0 all rs) (hN:Names H fr0) {p:Nat→Bool} (hp:wt rs p) {i:Nat} {r:Rec} (hi:dn rs i=some r) (hpi:p i=false) (hq: ∀ j,ze r.m j=true→p j=true) {σ0:Sg} {w0:World} {σ:Sg} {w:World} {a:Act} (s:St E f T H fr0 rs σ0 w0 p σ w a) {Q:Exit→Act→World→Prop} {K:Act→World→Prop}
    (hK: ∀ σ' w' a',St E f T H fr0 rs σ0 w0 (wH p i) σ' w' a'→K a' w'):wpOp P all.toArray Q i K a w:=by
  obtain ⟨hget,hdst,hfits,hle,hfr0,hfrN,hdone⟩:=yd h hi
  have un: ∀ j s',dn rs j=some s'→p j=true→ze s'.m i=false:=fun j s' hj hpj=>by
   cases hb:ze s'.m i with
   |false=>rfl
   |true=>have:=hp j s' hj hpj i hb; rw [hpi] at this; cases this
  have hlook: ∀ t ∈ r.o.looksAt all.toArray,VR σ (xi (yi (ze r.m) T rs) t) (a.tmps.getD t undef):=fun t ht=>by
   rw [← rM (p:=p) (q:=ze r.m) (T:=T) (t:=t) (fun j s' _=>hq j) fun j s' hj hpj hqj hd=> ?_]
   · exact s.ar.get t
   · have hne:i≠j:=fun e=>by subst e; rw [hpi] at hpj; cases hpj
     exact (pN h hi hj hne hqj (un j s' hj hpj)).2.2 t hd ht
  have hget':all.toArray[i]? =some r.o:=by simpa using hget
  unfold wpOp
  rw [hget']
  simp only
  rcases hdone with ⟨hw,hg,hop,-⟩|⟨hw,hl,hv,-⟩
  · rw [hw σ a hlook]
    simp only [if_true]
    refine .inl (hop σ w a K Q (fun x hx=> ?_) ?_ (s.free i r hi hpi) fun σ' w' v' ho=>hK _ _ _ (ia h hN hp hi hpi hq hg s ho))
    · cases x with
      |tmp t=>exact hlook t (List.mem_append_left _ (List.mem_filterMap.2 ⟨.tmp t,by simpa using hx,rfl⟩))
      |const v=>exact p5 σ 1 v
      |global g=>exact .unk _
      |func g=>exact .fn _ _ _ _ _ .nil .nil
    · have hk0: ∀ {x e},Ev.hget ([]::tlD r.d.dry r.d.see (zr (ze r.m) rs) H) x=some e→Ev.hget (zr p rs::H) x=some e:=fun he=>gw h hN hp hi hpi hq (by simpa [zk,zp] using he)
      exact ⟨fun n e hn=>s.sim.ent n e (hk0 hn),fun n m b e hn hm=>s.sim.dist n m b e (hk0 hn) (hk0 hm)⟩
  · rw [hw σ a hlook]
    exact hK _ _ _ (jL h hN hp hi hpi hl hv s undef rfl)
theorem pK {p:Nat→Bool} (hp:wt rs p) {i:Nat} {r:Rec} (hi:dn rs i=some r) (hq: ∀ j,ze r.m j=true→p j=true):wt rs (wH p i):=by
 intro j s hj hpj k hk
 unfold wH at*
 split
 · rfl
 · split at hpj
   · rename_i e
     subst e
     rw [hi] at hj
     cases hj
     exact hq k hk
   · exact hp j s hj hpj k hk
def left (p:Nat→Bool):Nat→Nat
  |0=>0
  |n+1=>(if p n then 0 else 1)+left p n
theorem rF {p q:Nat→Bool}: ∀ {n:Nat},(∀ j,j<n→p j=q j)→left p n=left q n
  |0,_=>rfl
  |n+1,h=>by simp only [left]; rw [h n (by omega),rF fun j hj=>h j (by omega)]
theorem re {p:Nat→Bool} {i:Nat} (hi:p i=false): ∀ {n:Nat},i<n→left (wH p i) n+1=left p n
  |0,h=>by omega
  | n +1,h=>by
   simp only [left]
   by_cases e:i=n
   · subst e
     have:left (wH p i) i=left p i:=rF fun j hj=>by simp [wH,Nat.ne_of_lt hj]
     rw [this,hi]
     simp [wH]
     omega
   · have h1:=re (p:=p) hi (n:=n) (by omega)
     have h2:wH p i n=p n:=by unfold wH; rw [if_neg fun e'=>e e'.symm]
     rw [h2]
     omega
theorem rc {p:Nat→Bool}: ∀ {n:Nat},left p n=0→ ∀ j,j<n→p j=true
  | n +1,h,j,hj=>by
   simp only [left] at h
   by_cases e:j=n
   · subst e
     cases hp:p j with
     |true=>rfl
     |false=>rw [hp] at h; simp at h
   · exact rc (n:=n) (by omega) j (by omega)
theorem ij (h:xy P E f T H fr0 all rs) (hlen:rs.length=all.length) (hN:Names H fr0) {σ0:Sg} {w0:World} {Q:Exit→Act→World→Prop}
    (hQ: ∀ σ w a,St E f T H fr0 rs σ0 w0 (fun _=>true) σ w a→Q .normal a w): ∀ (fuel:Nat) (listed:Array Bool) (σ:Sg) (w:World) (a:Act),listed.size=all.length→left (fun j=>listed.getD j true) all.length≤fuel→wt rs (fun j=>listed.getD j true)→St E f T H fr0 rs σ0 w0 (fun j=>listed.getD j true) σ w a→wpAny P .any all.toArray Q fuel listed a w:=by
  have hall: ∀ (listed:Array Bool),(∀ j,j<all.length→listed.getD j true=true)→ ∀ {σ w a},St E f T H fr0 rs σ0 w0 (fun j=>listed.getD j true) σ w a→St E f T H fr0 rs σ0 w0 (fun _=>true) σ w a:=fun listed hl σ w a s=>by
   have e1:zr (fun j=>listed.getD j true) rs=zr (fun _=>true) rs:=xS fun j hj=>hl j (by omega)
   have e2:yi (fun j=>listed.getD j true) T rs=yi (fun _=>true) T rs:=xl T fun j hj=>hl j (by omega)
   refine ⟨e2 ▸ s.ar,e1 ▸ s.sim,s.mon,s.ext,e1 ▸ s.frm,fun i r _ hp=>by cases hp⟩

  have hready: ∀ (listed:Array Bool),listed.size=all.length→ ∀ j,j<all.length→listed.getD j true=false→Region.ready .any all.toArray listed≠ []:=by
   intro listed hs j
   induction j using Nat.strongRecOn with
   | _ j ih=>
    intro hj hl he
    obtain ⟨r,hr⟩:=vN (rs:=rs) (i:=j) (by omega)
    obtain ⟨rs1,rs2,e1,e2,hrec,-,-,-⟩:=xf h hr
    have:j ∈ Region.ready .any all.toArray listed:=by
     rw [mem_ready]
     refine ⟨hl,r.o,by simpa using (yd h hr).1,fun e hem hb=> ?_⟩
     have hlt:=hrec.edge e (by simpa using hem) hb
     cases hd:listed.getD e.on true with
     |true=>
      have h1:e.on<listed.size:=by omega
      simpa [h1] using hd
     |false=>exact absurd he (ih e.on (by omega) (by omega) hd)
    rw [he] at this
    cases this
  have none_left: ∀ (listed:Array Bool),listed.size=all.length→Region.ready .any all.toArray listed= []→ ∀ j,j<all.length→listed.getD j true=true:=fun listed hs he j hj=>by
   cases hl:listed.getD j true with
   |true=>rfl
   |false=>exact absurd he (hready listed hs j hj hl)
  intro fuel
  induction fuel with
  | zero=>
   intro listed σ w a hs hleft hc s
   have hl:=rc (Nat.le_zero.1 hleft)
   refine ⟨?_,hQ _ _ _ (hall listed hl s)⟩
   cases he:Region.ready .any all.toArray listed with
   |nil=>rfl
   | cons j l=>
    have:j ∈ Region.ready .any all.toArray listed:=by rw [he]; exact List.mem_cons_self
    obtain ⟨h1,o,ho,_⟩:=mem_ready.1 this
    have hlt:j<all.length:=by
     have:=(Array.getElem?_eq_some_iff.1 ho).1
     simpa using this
    rw [hl j hlt] at h1
    cases h1
  | succ fuel ih=>
   intro listed σ w a hs hleft hc s
   refine ⟨fun he=>hQ _ _ _ (hall listed (none_left listed hs he) s),fun i hi=> ?_⟩
   obtain ⟨h1,o,ho,hedges⟩:=mem_ready.1 hi
   have hlt:i<all.length:=by
    have:=(Array.getElem?_eq_some_iff.1 ho).1
    simpa using this
   obtain ⟨r,hr⟩:=vN (rs:=rs) (i:=i) (by omega)
   have hro:=(yd h hr).1
   have:o=r.o:=by
    have h2:all[i]? =some o:=by simpa using ho
    rw [hro] at h2
    exact (Option.some.inj h2).symm
   subst this
   have hq: ∀ j,ze r.m j=true→listed.getD j true=true:=fun j hj=>by
    obtain ⟨rs1,rs2,e1,e2,hrec,-,-,-⟩:=xf h hr
    rw [hrec.hm] at hj
    obtain ⟨e,hem,hb,hj⟩:=vI.1 hj
    have hon:=hedges e (by simpa using hem) hb
    have hlt':=hrec.edge e hem hb
    have hon':listed.getD e.on true=true:=by
     have h1:e.on<listed.size:=by omega
     simpa [h1] using hon
    rcases hj with rfl|hj
    · exact hon'
    · obtain ⟨x,hx⟩:=vN hlt'
      rw [wb hx] at hj
      have hx':dn rs e.on=some x:=by
       rw [e1,show rs2++r::rs1=(rs2++ [r])++rs1 by simp,uv hlt']
       exact hx
      exact hc e.on x hx' hon' j hj
   have hset:(fun j=>(listed.setIfInBounds i true).getD j true)=wH (fun j=>listed.getD j true) i:=by
    funext j
    unfold wH
    by_cases e:j=i
    · subst e
      simp
    · rw [getD_set_ne true (fun e'=>e e'.symm)]
      simp [e]
   refine jj h hN hc hr h1 hq s fun σ' w' a' s'=> ?_
   refine ih (listed.setIfInBounds i true) σ' w' a' (by simpa using hs) ?_ ?_ ?_
   · rw [hset]
     have:=re (p:=fun j=>listed.getD j true) h1 hlt
     omega
   · rw [hset]
     exact pK hc hr hq
   · rw [hset]
     exact s'
theorem sG (ok : xa P E) (hm:P.follows .mixedOrders=true):o5 P E:=by
 intro sy Y f T H all fr K hY hne hN h
 obtain ⟨rs,hg,hlen,hK⟩:=v6 (P:=P) (T:=T) (f:=f) (all:=all) (fr0:=fr) ok hY hN all [] K .nil ⟨[],rfl,rfl⟩ h
 refine ⟨_,_,_,hK,?_,fun σ w a b cs k id ha hs hn hb=> ?_⟩
 · refine ⟨qC hg, ⟨zr (fun _=>true) rs,fun h t e=>by subst e; rfl,fun p hp=> ?_⟩,fun n e hn=> ?_⟩
   · have key: ∀ {rs:List Rec},(∀ j s,dn rs j=some s→ ∀ p ∈ s.d.l,p.1<ua fr rs∧(p.2.1=true∨p.2.2= .dead))→True:=fun _=>trivial
     have : ∀ (q:List Rec),p ∈ zr (fun _=>true) q→ ∃ j s,dn q j=some s∧p ∈ s.d.l:=by
      intro q
      induction q with
      |nil=>intro h; simp [zr] at h
      | cons r q ih=>
       intro h
       simp only [zr] at h
       rcases List.mem_append.1 h with h|h
       · exact ⟨q.length,r,by simp [dn],h⟩
       · obtain ⟨j,s,h1,h2⟩:=ih h
         exact ⟨j,s,by simp only [dn]; rw [if_neg (Nat.ne_of_lt (vK h1))]; exact h1,h2⟩
     obtain ⟨j,s,hj,hps⟩:=this rs hp
     obtain ⟨rs1,rs2,e1,e2,hr,-,h5,-⟩:=xf hg hj
     have:=nE hr p hps
     exact ⟨by omega,this.2⟩
   · cases H with
     |nil=>exact absurd rfl hne
     | cons h0 t =>
      simp only [wu] at hn
      rw [wk] at hn
      cases hl:zp (zr (fun _=>true) rs) n with
      |none=>rw [hl] at hn; exact .inl ⟨e,hn⟩
      | some e' =>
       obtain ⟨j,s,hj,_,hin⟩:=In.sel ⟨e',hl⟩
       cases hh:Ev.hget (h0::t) n with
       |some e2=>exact .inl ⟨e2,rfl⟩
       | none =>
        refine .inr ⟨?_,?_⟩
        · have old : ∀ (i:Nat) {r:Rec},dn rs i=some r→In r.d.l n→fr≤n:=by
           intro i
           induction i using Nat.strongRecOn with
           | _ i ih=>
            intro r hi hx
            rcases (yd hg hi).2.2.2.2.2.2 with ⟨_,hgr,_,_⟩|⟨_,hl',_⟩
            · obtain ⟨e,he⟩:=hx
              rcases hgr.dom n e (by simp [zk,he]) with ⟨e',he'⟩|⟨h1,h2⟩
              · simp only [zk,zp] at he'
                obtain ⟨hdr,he'⟩:=tc he'
                rw [zk,hh] at he'
                cases hs:zp (zr (ze r.m) rs) n with
                |none=>rw [hs] at he'; cases he'
                |some e2=>
                 obtain ⟨j,s,hj,hp,hin⟩:=In.sel ⟨e2,hs⟩
                 exact ih j (v4 hg i hi j hp) hj hin
              · have:=(yd hg hi).2.2.2.2.1; omega
            · rw [hl'] at hx
              obtain ⟨e,he⟩:=hx
              simp [zp] at he
          exact old j hj hin
        · obtain ⟨q1,q2⟩:=rp hg hj hin
          omega
 · have hb0: ∀ j,j<rs.length→(Array.replicate all.length false).getD j true=false:=fun j hj=>by
    have:j<all.length:=by omega
    simp [this]
   have e1:zr (fun j=>(Array.replicate all.length false).getD j true) rs= []:=by
    rw [xS (q:=fun _=>false) hb0]
    clear hg hlen hK hb0 hn
    induction rs with
    |nil=>rfl
    |cons r rs ih=>exact ih
   have e2:yi (fun j=>(Array.replicate all.length false).getD j true) T rs=T:=by
    rw [xl T (q:=fun _=>false) hb0]
    clear hg hlen hK hb0 hn e1
    induction rs with
    |nil=>rfl
    |cons r rs ih=>simp only [yi]; exact ih
   have hs0:Sim σ w.drew ([]::H):=(hs.drew).congr fun n=>by simp [zk,zp]
   have s0:St E f T H fr rs σ w.drew (fun j=>(Array.replicate all.length false).getD j true) σ w.drew a:=by
    refine ⟨by rw [e2]; exact ha,by rw [e1]; exact hs0,Mono.refl _,fun _ _=>rfl,(Frm.refl _ _).mono (fun _ h=>h) (fun k hk=>OwnB.congr (fun n=>by rw [e1]; simp [zk,zp]) hk),fun i r hi _ x h1 h2=>hn x ?_ ?_⟩
    · have:=(yd hg hi).2.2.2.2.1; omega
    · have:=(yd hg hi).2.2.2.2.2.1; omega
   have hc0:wt rs (fun j=>(Array.replicate all.length false).getD j true):=fun i r hi hp=>by
    have:=hb0 i (vK hi)
    simp only at hp
    rw [this] at hp; cases hp
   have hle:left (fun j=>(Array.replicate all.length false).getD j true) all.length≤all.length:=by
    have: ∀ (p:Nat→Bool) n,left p n≤n:=fun p n=>by
     induction n with
     |zero=>exact Nat.le_refl _
     |succ n ih=>simp only [left]; split<;>omega
    exact this _ _
   have hwp:(Code.region id all.toArray true).wp P (fun e a' w'=>e= .normal∧ ∃ σ',St E f T H fr rs σ w.drew (fun _=>true) σ' w' a') a w:=by
    refine wp_region_any hm ?_
    have:=ij hg hlen hN (σ0:=σ) (w0:=w.drew) (Q:=fun e a' w'=>e= .normal∧ ∃ σ',St E f T H fr rs σ w.drew (fun _=>true) σ' w' a') (fun σ' w' a' s=>⟨rfl,σ',s⟩) all.length (Array.replicate all.length false) σ w.drew a (by simp) hle hc0 s0
    simpa using this
   obtain ⟨e,a',w',⟨rfl,σ',s⟩,harr⟩:=hwp b k cs
   have hmg: ∀ n,Ev.hget (wu (zr (fun _=>true) rs) H) n=Ev.hget (zr (fun _=>true) rs::H) n:=fun n=>by
    cases H with
    |nil=>exact absurd rfl hne
    |cons h0 t=>simp only [wu]; rw [wk]; rfl
   refine ⟨σ',w',a',harr,s.ar,.unk _,s.sim.congr hmg,s.mon,fun x hx=>s.ext x hx,?_⟩
   have h1:Frm w w.drew (OwnB σ H) (OwnB σ H):=(Frm.refl w _).drew
   exact h1.trans (s.frm.mono (fun _ h=>h) fun k hk=>OwnB.congr hmg hk)
end
end Go.Ev
namespace Go.Ev
open Go.RowKit
theorem pL (g:Nat→TyI): ∀ (l:List Nat) (t:Nat) (i:TyI),y6 (l.map g) t=some i→ ∃ u,l[t]? =some u∧i=g u
  | [],t,i,h=>by simp [y6] at h
  |a::l,0,i,h=>by simp only [List.map_cons,y6,Option.some.injEq] at h; exact ⟨a,rfl,h.symm⟩
  |a::l,t+1,i,h=>by simp only [List.map_cons,y6] at h; simpa using pL g l t i h
def noX:Ext:=fun _ _ _ _ _ no=>no
theorem y3 {P:Program}:yZ P noX:=fun f args H fr K no _ _ h=> .inr h
def jK (X Y:Ext):Ext:=fun f args H fr K no=>X f args H fr K (Y f args H fr K no)
theorem rv {P:Program} {X Y:Ext} (hX:yZ P X) (hY:yZ P Y):yZ P (jK X Y):=fun f args H fr K no h1 h2 h=>by
 rcases hX f args H fr K _ h1 h2 h with h|h
 · exact .inl h
 · exact hY f args H fr K no h1 h2 h
def kJ (F:Func):Option FnI:=match F.body with
 |some _=>some (zS F)
 |none=>none
theorem rJ: ∀ (l:List Func) (t:Nat) (i:FnI),xG (l.map kJ) t=some i→ ∃ F,l[t]? =some F∧kJ F=some i
  | [],t,i,h=>by simp [xG] at h
  |a::l,0,i,h=>by simp only [List.map_cons,xG] at h; exact ⟨a,rfl,h⟩
  |a::l,t+1,i,h=>by simp only [List.map_cons,xG] at h; simpa using rJ l t i h
def j7 (l:List Func):Bool:=l.all fun F=>F.body.isNone|| !(F.name== "runtime.NumGoroutine")
theorem kf {P:Program} {tys:List TyI} {fns:List (Option FnI)} (n:Nat) (h1:tys=(List.range n).map (yt P)) (h2:fns=P.funcs.toList.map kJ) (h3:j7 P.funcs.toList=true):xa P ⟨tys,fns⟩:=by
 subst h1 h2
 constructor
 · intro t i h
   obtain ⟨u,h4,h5⟩:=pL _ _ _ _ h
   have:t=u:=by
    rw [List.getElem?_range] at h4
    · simpa using h4
    · by_cases hl:t<n
      · exact hl
      · rw [List.getElem?_eq_none (by simpa using hl)] at h4; cases h4
   rw [this]
   exact h5
 · intro f fn h
   obtain ⟨F,h4,h5⟩:=rJ _ _ _ h
   have hF:P.funcs[f]? =some F:=by simpa using h4
   have hmem:F ∈ P.funcs.toList:=List.mem_of_getElem? h4
   have hn:=List.all_eq_true.1 h3 F hmem
   unfold kJ at h5
   split at h5
   · rename_i b hb
     cases h5
     refine ⟨F,hF,by simp [zS,hb],rfl,rfl,?_⟩
     simpa [hb] using hn
   · cases h5
section
variable {P:Program} {E:Env} (ok:xa P E) (hm:P.follows .mixedOrders=true) {X:Ext} (hX:yZ P X)
include ok hm hX
end
end Go.Ev
namespace Go.Ev
open Go.RowKit
def wL:Code→List It→List (List It)
  | .seq a b,k=>wL a (.cd b::k)++wL b k
  | .cond _ a b,k=>wL a k++wL b k
  | .block id b,k=>wL b (.ib id::k)
  | .scope b,k=>wL b (.sc b::k)
  | .loop b,k=>(.cd b:: .il b::k)::wL b (.il b::k)
  |_,_=> []
def jW:List (List It)→Nat→List It
  | [],_=> []
  |k::_,0=>k
  |_::l,n+1=>jW l n
def hd (F:Func) (i:Nat):List It:=jW (wL (zS F).body []) i
structure Mp where
 use:Nat→Prop
 nm:Nat→Nat
def Tr (m:Mp) (σ τ:Sg):Prop:= ∀ n,m.use n→τ n=σ (m.nm n)
def Rn (m:Mp) (v v':PV):Prop:= ∀ σ τ u,Tr m σ τ→VR σ v' u→VR τ v u
def Rns (m:Mp):List PV→List PV→Prop
  | [],[]=>True
  |v::l,v'::l'=>Rn m v v'∧Rns m l l'
  |_,_=>False
section
variable {r:Mp}
theorem zh (v':PV):Rn r .unk v':=fun σ τ u _ h=> .unk u
theorem zH {k:IntKind} {n m:Int} (h:n=m):Rn r (.int k n) (.int k m):=fun σ τ u _ hu=>by cases hu; rw [h]; exact .int k _
theorem yW {a b:Bool} (h:a=b):Rn r (.tf a) (.tf b):=fun σ τ u _ hu=>by cases hu; rw [h]; exact .tf _
theorem zu {a b:Bool} (h:a=b):Rn r (.bool a) (.bool b):=fun σ τ u _ hu=>by cases hu; rw [h]; exact .bool _
theorem zR {a b:Bool} (h:a=b):Rn r (.bool a) (.tf b):=fun σ τ u _ hu=>by cases hu; rw [h]; exact .bool _
theorem wz {a b:ByteArray} (h:a=b):Rn r (.str a) (.str b):=fun σ τ u _ hu=>by cases hu; rw [h]; exact .str _
theorem jN:Rn r .nilp .nilp:=fun σ τ u _ hu=>by cases hu; exact .nilp
theorem xw:Rn r .nils .nils:=fun σ τ u _ hu=>by cases hu; exact .nils
theorem jI:Rn r .nilf .nilf:=fun σ τ u _ hu=>by cases hu; exact .nilf
theorem jo:Rn r .nili .nili:=fun σ τ u _ hu=>by cases hu; exact .nili
theorem gU:Rn r .emp .emp:=fun σ τ u _ hu=>by cases hu; exact .emp _
theorem zT {nm st n:Nat} (h:n=0):Rn r (.own nm st n) .nils:=fun σ τ u _ hu=>by cases hu; subst h; exact .own0 _ _ _
theorem oP {nm st n:Nat} (h:n=0):Rn r (.own nm st n) .emp:=fun σ τ u _ hu=>by cases hu; subst h; exact .own0 _ _ _
theorem vz {a:PA} {n:Nat} (h:n=0):Rn r (.loose a n) .nils:=fun σ τ u _ hu=>by cases hu; subst h; exact .loose a 0 _ 0 (Nat.le_refl _) (fun h=>by omega)
theorem yG {a b:PA} (hu:r.use a.nm) (hn:b.nm=r.nm a.nm) (hp:pos a=pos b):Rn r (.ptr a) (.ptr b):=fun σ τ u ht h=>by
 cases h with
 |ptr _ rb hr=>
  have:=VR.ptr (σ:=τ) a rb (by rw [ht _ hu,← hn]; exact hr)
  unfold PA.at at*
  rw [← hp]
  exact this
theorem zZ {nm nm' st n m:Nat} (hu:r.use nm) (hn:nm'=r.nm nm) (h:n=m):Rn r (.own nm st n) (.own nm' st m):=fun σ τ u ht hx=>by
 subst h
 cases hx with
 |own0=>exact .own0 _ _ _
 |own _ _ _ rb c h0 h1 h2 h3=>exact .own nm st n rb c (by rw [ht _ hu,← hn]; exact h0) h1 h2 h3
theorem tD {a:PA} {nm' st n m:Nat} (hu:r.use a.nm) (hn:nm'=r.nm a.nm) (hp:pos a=0) (h:n=m) (h0:0<m):Rn r (.sl a n) (.own nm' st m):=fun σ τ u ht hx=>by
 subst h
 cases hx with
 |own0=>omega
 |own _ _ _ rb c h2 h3 h4 h5=>
  have:=VR.sl (σ:=τ) a n rb c h4 (by rw [ht _ hu,← hn]; exact h2)
  unfold PA.at at this
  rw [h3,hp] at this
  exact this
theorem yQ {a:PA} {nm' st n m:Nat} (hu:r.use a.nm) (hn:nm'=r.nm a.nm) (hp:pos a=0) (h:n=m):Rn r (.loose a n) (.own nm' st m):=fun σ τ u ht hx=>by
 subst h
 cases hx with
 |own0=>exact .loose a 0 _ 0 (Nat.le_refl _) (fun h=>by omega)
 |own _ _ _ rb c h2 h3 h4 h5=>
  refine .loose a n _ c h4 fun _=>⟨rb,by rw [ht _ hu,← hn]; exact h2,?_⟩
  unfold PA.at
  rw [h3,hp]
theorem g8 {a b:PA} {n m:Nat} (hu:r.use a.nm) (hn:b.nm=r.nm a.nm) (hp:pos a=pos b) (h:n=m):Rn r (.sl a n) (.sl b m):=fun σ τ u ht hx=>by
 subst h
 cases hx with
 |sl _ _ rb c hc hr=>
  have:=VR.sl (σ:=τ) a n rb c hc (by rw [ht _ hu,← hn]; exact hr)
  unfold PA.at at*
  rw [← hp]
  exact this
theorem xe {a b:PA} {n m:Nat} (hu:r.use a.nm) (hn:b.nm=r.nm a.nm) (hp:pos a=pos b) (h:n=m):Rn r (.loose a n) (.sl b m):=fun σ τ u ht hx=>by
 subst h
 cases hx with
 |sl _ _ rb c hc hr=>
  refine .loose a n _ c hc fun _=>⟨rb,by rw [ht _ hu,← hn]; exact hr,?_⟩
  unfold PA.at
  rw [hp]
theorem zM {a b:PA} {n m:Nat} (hu:r.use a.nm) (hn:b.nm=r.nm a.nm) (hp:pos a=pos b) (h:n=m):Rn r (.loose a n) (.loose b m):=fun σ τ u ht hx=>by
 subst h
 cases hx with
 |loose _ _ A c hc hr=>
  refine .loose a n A c hc fun h0=> ?_
  obtain ⟨rb,h1,h2⟩:=hr h0
  refine ⟨rb,by rw [ht _ hu,← hn]; exact h1,?_⟩
  rw [h2]
  unfold PA.at
  rw [hp]
theorem Rns.ok: ∀ {l l':List PV} {us:List Value},Rns r l l'→ ∀ {σ τ},Tr r σ τ→VRs σ l' us→VRs τ l us
  | [],[],us,_,σ,τ,_,h=>by cases h; exact .nil
  |v::l,v'::l',us,⟨h1,h2⟩,σ,τ,ht,h=>by
   cases h with
   |cons _ u _ m hv hl=>exact .cons _ _ _ _ (h1 σ τ u ht hv) (h2.ok ht hl)
  | [],_::_,_,h,_,_,_,_=>h.elim
  |_::_,[],_,h,_,_,_,_=>h.elim
theorem zg {l l':List PV} (h:Rns r l l'):Rn r (.agg l) (.agg l'):=fun σ τ u ht hx=>by cases hx with|agg _ vs hv=>exact .agg _ _ (h.ok ht hv)
theorem zm {l l':List PV} (h:Rns r l l'):Rn r (.tup l) (.tup l'):=fun σ τ u ht hx=>by cases hx with|tup _ vs hv=>exact .tup _ _ (h.ok ht hv)
theorem j6 {f:Fn} {a a' b b':List PV} (h1:Rns r a a') (h2:Rns r b b'):Rn r (.fn f a b) (.fn f a' b'):=fun σ τ u ht hx=>by cases hx with|fn _ _ _ va vb h3 h4=>exact .fn _ _ _ _ _ (h1.ok ht h3) (h2.ok ht h4)
def Rb (r:Mp) (b b':Blk):Prop:= ∀ σ τ w rb,Tr r σ τ→BlkR σ w rb b'→BlkR τ w rb b
def Rcs (r:Mp) (n:Nat):List Col→List Col→Prop
  | [],[]=>True
  |c::cs,d::ds=>(∀ j,j<n→Rn r (zy c j) (zy d j))∧Rcs r n cs ds
  |_,_=>False
theorem Rcs.ok {n:Nat}: ∀ {cs ds:List Col},Rcs r n cs ds→yB cs=yB ds∧ ∀ i c,yh cs i=some c→ ∃ d,yh ds i=some d∧ ∀ j,j<n→Rn r (zy c j) (zy d j)
  | [],[],_=>⟨rfl,fun i c h=>by simp [yh] at h⟩
  |c::cs,d::ds,⟨h1,h2⟩=>by
   obtain ⟨q1,q2⟩:=h2.ok
   refine ⟨by simp [yB,q1],fun i x hx=> ?_⟩
   cases i with
   |zero=>simp only [yh,Option.some.injEq] at hx; subst hx; exact ⟨d,rfl,h1⟩
   |succ i=>exact q2 i x hx
  | [],_::_,h=>h.elim
  |_::_,[],h=>h.elim
theorem uO {n n':Nat} {cs ds:List Col} (hn:n≤n') (h:Rcs r n cs ds):Rb r (.cols n cs) (.cols n' ds):=fun σ τ w rb ht hb j i c hj hi=>by
 obtain ⟨q1,q2⟩:=h.ok
 obtain ⟨d,hd,hr⟩:=q2 i c hi
 obtain ⟨u,h1,h2⟩:=hb j i d (by omega) hd
 exact ⟨u,by rw [q1]; exact h1,hr j hj σ τ u ht h2.1,h2.2⟩
theorem vx {n:Nat} {cs:List Col} {l:List PV} (h: ∀ j i,j<n→i<yB cs→ ∃ v',nth l (j*yB cs+i)=some v'∧Rn r (yR cs j i) v'):Rb r (.cols n cs) (.cells l):=fun σ τ w rb ht hb j i c hj hi=>by
 obtain ⟨v',h1,h2⟩:=h j i hj (wN hi)
 obtain ⟨u,h3,h4⟩:=hb _ v' h1
 refine ⟨u,h3,?_,h4.2⟩
 have:=h2 σ τ u ht h4.1
 simpa only [yR,hi] using this
theorem Rns.nth: ∀ {l l':List PV},Rns r l l'→ ∀ i v,nth l i=some v→ ∃ v',nth l' i=some v'∧Rn r v v'
  | [],l',h,i,v,hi=>by simp [Ev.nth] at hi
  |x::l,[],h,i,v,hi=>h.elim
  |x::l,y::l',h,0,v,hi=>by simp only [Ev.nth,Option.some.injEq] at hi; subst hi; exact ⟨y,rfl,h.1⟩
  |x::l,y::l',h,i+1,v,hi=>h.2.nth i v hi
theorem zt {l l':List PV} (h:Rns r l l'):Rb r (.cells l) (.cells l'):=by
 intro σ τ w rb ht hb i v hi
 obtain ⟨v',h1,h2⟩:=h.nth i v hi
 obtain ⟨u,h3,h4⟩:=hb i v' h1
 exact ⟨u,h3,h2 σ τ u ht h4.1,h4.2⟩
structure HpR (r:Mp) (fresh:Nat→Prop) (H H':zQ):Prop where
 ent: ∀ n e,hget H n=some e→e.2≠ .dead→r.use n∧((∃ e',hget H' (r.nm n)=some e'∧e'.2≠ .dead∧(e.1=true→e'.1=true)∧Rb r e.2 e'.2)∨fresh (r.nm n))
 inj: ∀ n m e e',hget H n=some e→hget H m=some e'→e.1=true→e.2≠ .dead→e'.2≠ .dead→n≠m→r.nm n≠r.nm m
theorem HpR.sim {fresh:Nat→Prop} {H H':zQ} (h:HpR r fresh H H') {σ τ:Sg} (ht:Tr r σ τ) (hf: ∀ n,fresh n→σ n=none) {w:World} (s:Sim σ w H'):Sim τ w H:=by
 have key: ∀ {n e rb},hget H n=some e→e.2≠ .dead→τ n=some rb→σ (r.nm n)=some rb∧ ∃ e',hget H' (r.nm n)=some e'∧e'.2≠ .dead∧(e.1=true→e'.1=true)∧Rb r e.2 e'.2:=fun {n e rb} hn hd hr=>by
  obtain ⟨hu,hc⟩:=h.ent n e hn hd
  rw [ht n hu] at hr
  rcases hc with hc|hc
  · exact ⟨hr,hc⟩
  · rw [hf _ hc] at hr; cases hr
 constructor
 · intro n e hn hd rb hr
   obtain ⟨hr',e',h1,h2,h3,h4⟩:=key hn hd hr
   obtain ⟨q1,q2,q3⟩:=s.ent _ e' h1 h2 rb hr'
   exact ⟨q1,h4 σ τ w rb ht q2,fun ht=>q3 (h3 ht)⟩
 · intro n m b e hn hm hb he hne rn rm hrn hrm
   obtain ⟨hn',e1,h1,h2,h3,_⟩:=key hn hb hrn
   obtain ⟨hm',e2,k1,k2,k3,_⟩:=key hm he hrm
   obtain ⟨eb,eblk⟩:=e1
   have:eb=true:=h3 rfl
   subst this
   exact s.dist (r.nm n) (r.nm m) eblk e2 h1 k1 h2 k2 (h.inj n m _ _ hn hm rfl hb he hne) rn rm hn' hm'
theorem HpR.own {fresh:Nat→Prop} {H H':zQ} (h:HpR r fresh H H') {σ τ:Sg} (ht:Tr r σ τ) (hf: ∀ n,fresh n→σ n=none) {k:Nat} (ho:OwnB τ H k):OwnB σ H' k:=by
 obtain ⟨n,b,rb,h1,h2,h3,h4⟩:=ho
 obtain ⟨hu,hc⟩:=h.ent n _ h1 h2
 rw [ht n hu] at h3
 rcases hc with ⟨e1,q1,q2,q3,_⟩|hc
 · obtain ⟨eb,eblk⟩:=e1
   have:eb=true:=q3 rfl
   subst this
   exact ⟨r.nm n,eblk,rb,q1,q2,h3,h4⟩
 · rw [hf _ hc] at h3; cases h3
def wh:zQ→Lvl
  | []=> []
  |l::H=>l++wh H
theorem wX: ∀ (H:zQ) (n:Nat),hget H n=zp (wh H) n
  | [],n=>rfl
  |l::H,n=>by
   simp only [zk,wh,yM,wX H n]
   cases zp l n<;>rfl
def EntL (r:Mp) (fresh:Nat→Prop) (H':zQ):Lvl→Prop
  | []=>True
  |(n,b,blk)::l=>(blk= .dead∨(r.use n∧((∃ b' blk',hget H' (r.nm n)=some (b',blk')∧blk'≠ .dead∧(b=true→b'=true)∧Rb r blk blk')∨fresh (r.nm n))))∧EntL r fresh H' l
theorem EntL.mem {fresh:Nat→Prop} {H':zQ}: ∀ {l:Lvl},EntL r fresh H' l→ ∀ p ∈ l,p.2.2= .dead∨(r.use p.1∧((∃ b' blk',hget H' (r.nm p.1)=some (b',blk')∧blk'≠ .dead∧(p.2.1=true→b'=true)∧Rb r p.2.2 blk')∨fresh (r.nm p.1)))
  | [],_,p,hp=>by cases hp
  |(n,b,blk)::l,h,p,hp=>by
   rcases List.mem_cons.1 hp with rfl|hp
   · exact h.1
   · exact h.2.mem p hp
theorem HpR.of {fresh:Nat→Prop} {H H':zQ} (h:EntL r fresh H' (wh H)) (hi: ∀ n ∈ (wh H).map (·.1),∀ m ∈ (wh H).map (·.1),r.nm n=r.nm m→n=m):HpR r fresh H H':=by
 constructor
 · intro n e hn hd
   rw [wX] at hn
   rcases h.mem _ (yp hn) with h1|⟨h1,h2⟩
   · exact absurd h1 hd
   · refine ⟨h1,h2.imp (fun ⟨b',blk',q⟩=>⟨(b',blk'),q⟩) id⟩
 · intro n m e e' hn hm _ _ _ hne hnm
   rw [wX] at hn hm
   exact hne (hi n (List.mem_map.2 ⟨_,yp hn,rfl⟩) m (List.mem_map.2 ⟨_,yp hm,rfl⟩) hnm)
def TmR (r:Mp) (T':yC):yC→Prop
  | []=>True
  |(t,v)::T=>Rn r v (xi T' t)∧TmR r T' T
theorem TmR.get {T':yC}: ∀ {T:yC},TmR r T' T→ ∀ t,Rn r (xi T t) (xi T' t)
  | [],_,t=>zh _
  |(k,v)::T,h,t=>by
   rw [xE]
   split
   · rename_i e; subst e; exact h.1
   · exact h.2.get t
def nW (T:yC):List Nat→List PV
  | []=> []
  |t::l=>xi T t::nW T l
def yc:List Nat→List PV→yC
  |t::l,v::vs=>(t,v)::yc l vs
  |_,_=> []
theorem TmR.zip {T':yC}: ∀ {ts:List Nat} {vs:List PV},Rns r vs (nW T' ts)→TmR r T' (yc ts vs)
  | [],vs,_=>by cases vs<;>trivial
  |t::ts,[],_=>trivial
  |t::ts,v::vs,h=>⟨h.1,TmR.zip h.2⟩
end
structure Ren where
 lo:Nat
 hi:Nat
 fr:Nat
 ρ:Nat→Nat
def Ren.sg (r:Ren) (σ:Sg):Sg:=fun n=>if n<r.lo∨r.hi≤n then σ n else if n<r.fr then σ (r.ρ n) else none
def Ren.mp (r:Ren):Mp:=⟨fun n=>n<r.lo∨r.hi≤n∨n<r.fr,fun n=>if n<r.lo∨r.hi≤n then n else r.ρ n⟩
theorem Ren.tr (r:Ren) (σ:Sg):Tr r.mp σ (r.sg σ):=by
 intro n hu
 unfold Ren.sg Ren.mp
 simp only
 split
 · rfl
 · rename_i h1
   rw [if_pos]
   rcases hu with h|h|h
   · exact absurd (.inl h) h1
   · exact absurd (.inr h) h1
   · exact h
section
variable (P:Program) (E:Env)
def tX (c:Cfg) (lo hi:Nat) (R:PV→zQ→Prop):Prop:=
 ∀ σ w a (b:Frame) cs,AR E c.fn σ c.T a→Sim σ w c.H→NoneIn σ c.fr hi→b.fn=c.fn→b.kind= .normal→ ∃ σ' w' v' fm v H',Steps P (lone (b.at a (c.todo.map itm)) cs w) (lone fm cs w')∧fm.fn=c.fn∧fm.leaving P w' (.returned v')∧R v H'∧VR σ' v v'∧Sim σ' w' H'∧(∀ n,n<lo∨hi≤n→σ' n=σ n)∧Frm w w' (OwnB σ c.H) (OwnB σ' H')
def trim (lo:Nat) (vs:List PV) (H:zQ):zQ:= [tS H (qA H 3 (pnms vs (oL lo)))]
theorem kt {lo:Nat} {vs:List PV} {H:zQ} {n:Nat} {e:Bool×Blk} (h:hget (trim lo vs H) n=some e):hget H n=some e:=by
 unfold trim at h
 rw [zk] at h
 cases hq:zp (tS H (qA H 3 (pnms vs (oL lo)))) n with
 |some e'=>rw [hq] at h; cases h; exact vd hq
 |none=>rw [hq] at h; cases h
theorem HpR.untrim {r:Mp} {f:Nat→Prop} {lo:Nat} {vs:List PV} {H H':zQ} (h:HpR r f H (trim lo vs H')):HpR r f H H':=
 ⟨fun n e h1 h2=>⟨(h.ent n e h1 h2).1,(h.ent n e h1 h2).2.imp (fun ⟨e',q1,q2⟩=>⟨e',kt q1,q2⟩) id⟩,h.inj⟩
def zq (lo:Nat) (ts:List Nat) (fA:List It→List PV→zQ→Nat→Prop) (fC:PV→zQ→Nat→Prop):rC→Prop
  | .ret v H fr=>fC v (trim lo [v] H) fr
  | .stop _ c=>fA c.todo (nW c.T ts) (trim lo (nW c.T ts) c.H) c.fr
structure Hd where
 todo:List It
 V:List PV
 H:zQ
 fr:Nat
def om (lo hi:Nat) {ι:Type} (I:ι→Hd) (good below:ι→Prop):List It→List PV→zQ→Nat→Prop:=fun todo vals H' fr'=>
 fr'≤hi∧ ∃ (j:ι) (ρ:Nat→Nat),good j∧below j∧todo=(I j).todo∧Rns (Ren.mp ⟨lo,hi,(I j).fr,ρ⟩) (I j).V vals∧HpR (Ren.mp ⟨lo,hi,(I j).fr,ρ⟩) (fun n=>fr'≤n∧n<hi) (I j).H H'
def sS (lo hi:Nat) (R:PV→zQ→Prop):PV→zQ→Nat→Prop:=fun v' H' fr'=>
 fr'≤hi∧ ∃ (ρ:Nat→Nat) (v:PV) (H:zQ),R v H∧Rn (Ren.mp ⟨lo,hi,hi,ρ⟩) v v'∧HpR (Ren.mp ⟨lo,hi,hi,ρ⟩) (fun n=>fr'≤n∧n<hi) H H'
end
section
variable {P:Program} {E:Env} (ok:xa P E) (hm:P.follows .mixedOrders=true) {X:Ext} (hX:yZ P X)
include ok hm hX
theorem su {lo hi:Nat} {ι:Type} (I:ι→Hd) (good below:ι→Prop) {R:PV→zQ→Prop} {sy:Bool} {n:Nat} {ts:List Nat} (c:Cfg)
    (h2: ∀ x ∈ c.todo,ug x) (h3:c.H≠ []) (h4:Names c.H c.fr) (h5:lo≤c.fr) (h6: ∀ j,good j→lo≤(I j).fr)
    (h:run cond E sy X true n c (zq lo ts (om lo hi I good below) (sS lo hi R))) (ih: ∀ j,good j→below j→tX P E ⟨c.fn,(I j).todo,yc ts (I j).V,(I j).H,(I j).fr⟩ lo hi R):tX P E c lo hi R:=by
  obtain ⟨l,hl,hok⟩:=sf ok hX (sG ok hm) n true c _ h2 h3 h4 h
  intro σ w a b cs ha hs hn hb hbk
  cases l with
  | ret v' H' fr'=>
   obtain ⟨hf,ρ,v,H,hR,hv,hH⟩:=hl
   have hH:=hH.untrim
   obtain ⟨hgr,hrun⟩:=hok
   obtain ⟨σ',w',u,fm,q1,q2,q3,q4⟩:=hrun σ w a b cs ha hs (hn.cut hf) hb hbk
   have htr:=Ren.tr ⟨lo,hi,hi,ρ⟩ σ'
   have hfresh: ∀ m,fr'≤m∧m<hi→σ' m=none:=fun m hm=>by
    have:=hgr.1
    rw [q4.ext m (by omega)]
    exact hn m (by omega) hm.2
   refine ⟨Ren.sg ⟨lo,hi,hi,ρ⟩ σ',w',u,fm,v,H,q1,q2,q3,hR,hv σ' _ u htr q4.v,hH.sim htr hfresh q4.sim,fun m hm=> ?_,q4.frm.mono (fun _ h=>h) fun k hk=>hH.own htr hfresh hk⟩
   unfold Ren.sg
   rw [if_pos hm]
   have:=hgr.1
   exact q4.ext m (by omega)
  | stop j c'=>
   obtain ⟨hf,j,ρ,hgj,hlt,htodo,hT,hH⟩:=hl
   have hH:=hH.untrim
   obtain ⟨hfn,hgr,_,hrun⟩:=hok
   obtain ⟨σ',w',a',q1,q2,q3⟩:=hrun σ w a b cs ha hs (hn.cut hf) hb
   have j5:=h6 j hgj
   have hle:=hgr.1
   have htr:=Ren.tr ⟨lo,hi,(I j).fr,ρ⟩ σ'
   have hfresh: ∀ m,c'.fr≤m∧m<hi→σ' m=none:=fun m hm=>by
    rw [q3.ext m (by omega)]
    exact hn m (by omega) hm.2
   have e1: ∀ m,m<lo∨hi≤m→Ren.sg ⟨lo,hi,(I j).fr,ρ⟩ σ' m=σ m:=fun m hm=>by
    unfold Ren.sg
    rw [if_pos hm]
    exact q3.ext m (by omega)
   obtain ⟨σ2,w2,u,fm,v,H,r1,r2,r3,r4,r5,r6,r7,r8⟩:=ih j hgj hlt (Ren.sg ⟨lo,hi,(I j).fr,ρ⟩ σ') w' a' b cs
     ⟨q2.defers,q2.size,fun t=>(TmR.zip hT).get t σ' _ _ htr (q2.get t)⟩ (hH.sim htr hfresh q3.sim) (fun m h1 h2=>by
      unfold Ren.sg
      simp only at h1 ⊢
      rw [if_neg (by omega),if_neg (by omega)]) hb hbk
   refine ⟨σ2,w2,u,fm,v,H,?_,r2,r3,r4,r5,r6,fun m hm=>(r7 m hm).trans (e1 m hm),?_⟩
   · rw [htodo] at q1
     exact q1.trans r1
   · exact q3.frm.trans (r8.mono (fun k hk=>hH.own htr hfresh hk) fun _ h=>h)
theorem gx {lo hi:Nat} {ι:Type} (I:ι→Hd) (good:ι→Prop) (μ:ι→Nat) {R:PV→zQ→Prop} {sy:Bool} {n:Nat} {f:FuncId} {ts:List Nat}
    (hI: ∀ i,good i→(∀ x ∈ (I i).todo,ug x)∧(I i).H≠ []∧Names (I i).H (I i).fr∧lo≤(I i).fr)
    (h: ∀ i,good i→run cond E sy X true n ⟨f,(I i).todo,yc ts (I i).V,(I i).H,(I i).fr⟩ (zq lo ts (om lo hi I good (fun j=>μ j<μ i)) (sS lo hi R))): ∀ i,good i→tX P E ⟨f,(I i).todo,yc ts (I i).V,(I i).H,(I i).fr⟩ lo hi R:=by
  have key: ∀ (k:Nat) (i:ι),μ i=k→good i→tX P E ⟨f,(I i).todo,yc ts (I i).V,(I i).H,(I i).fr⟩ lo hi R:=by
   intro k
   induction k using Nat.strongRecOn with
   |_ k ih=>
    intro i hk hg
    obtain ⟨h2,h3,h4,h5⟩:=hI i hg
    exact su ok hm hX I good (fun j=>μ j<μ i) ⟨f,(I i).todo,yc ts (I i).V,(I i).H,(I i).fr⟩ h2 h3 h4 h5 (fun j hj=>(hI j hj).2.2.2) (h i hg) fun j hj hlt=>ih (μ j) (by omega) j rfl hj
  exact fun i hg=>key _ i rfl hg
omit hm hX in

theorem pd {f:FuncId} {fn:FnI} {args:List PV} {H H0:zQ} {lo hi:Nat} {v0:PV} (hf:xG E.fs f=some fn) (hl:lo≤hi)
    (h:tX P E ⟨f,[.cd fn.body],yD 0 args,[]::H,lo⟩ lo hi fun v H'=>v=v0∧ ∀ n,hget H' n=hget H0 n):zn P f args H lo v0 H0 hi∧ ∃ F,P.funcs[f]? =some F∧F.body.isSome=true∧(F.name== "runtime.NumGoroutine")=false:=by
  obtain ⟨F,hF,hb,hnt,hres,hname⟩:=ok.fs _ _ hf
  refine ⟨fun σ w vals hv hsim hn=> ?_,F,hF,by simp [hb],hname⟩
  intro cs
  let b:Frame:= {(default:Frame) with fn:=f,kind:= .normal}
  have henter:Frame.enter P f vals .normal=b.at {tmps:=vals++Array.replicate (F.ntmps-vals.size) undef,defers:= []} [.code fn.body]:=by
   simp [Frame.enter,Frame.at,hF,hb,b]
  obtain ⟨σ',w',v',fm,v,H',q1,q2,q3,⟨rfl,q4⟩,q5,q6,q7,q8⟩:=h σ w _ b cs (kP ok hf hF hnt hv) (hsim.congr fun n=>by simp [hget,zp]) hn rfl rfl
  refine ⟨.returned v',w',fm,⟨v',σ',rfl,q5,q6.congr fun n=>(q4 n).symm,fun n rb hr=> ?_,q7,?_⟩,?_,q2,q3⟩
  · by_cases hc:n<lo∨hi≤n
    · rw [q7 n hc]; exact hr
    · rw [hn n (by omega) (by omega)] at hr; cases hr
  · exact q8.mono (fun k hk=>OwnB.congr (fun n=>by simp [hget,zp]) hk) (fun k hk=>OwnB.congr (fun n=>(q4 n).symm) hk)
  · rw [henter]
    exact q1
omit hm hX in
theorem wg {f:FuncId} {fn:FnI} {args:List PV} {H H0:zQ} {lo hi:Nat} {v0:PV} (hf:xG E.fs f=some fn) (hl:lo≤hi)
    (h:tX P E ⟨f,[.cd fn.body],yD 0 args,[]::H,lo⟩ lo hi fun v H'=>v=v0∧H'=H0):zn P f args H lo v0 H0 hi∧ ∃ F,P.funcs[f]? =some F∧F.body.isSome=true∧(F.name== "runtime.NumGoroutine")=false:=
  pd ok hf hl fun σ w a b cs h1 h2 h3 h4 h5=>by
   obtain ⟨σ',w',v',fm,v,H',q1,q2,q3,⟨q4,q5⟩,q6⟩:=h σ w a b cs h1 h2 h3 h4 h5
   exact ⟨σ',w',v',fm,v,H',q1,q2,q3,⟨q4,fun n=>by rw [q5]⟩,q6⟩
theorem mC {f:FuncId} {fn:FnI} {args:List PV} {H H0:zQ} {lo hi:Nat} {v0:PV} {sy:Bool} {n:Nat} (hf:xG E.fs f=some fn) (hl:lo≤hi) (hne:H≠ []) (hN:Names H lo)
    (h:run cond E sy X true n ⟨f,[.cd fn.body],yD 0 args,[]::H,lo⟩ (zq lo [] (fun _ _ _ _=>False) (sS lo hi fun v H'=>v=v0∧H'=H0))):zn P f args H lo v0 H0 hi∧ ∃ F,P.funcs[f]? =some F∧F.body.isSome=true∧(F.name== "runtime.NumGoroutine")=false:=by
  refine wg ok hf hl ?_
  intro σ w a b cs ha hs hn hb hbk
  obtain ⟨l,hl',hok⟩:=sf ok hX (sG ok hm) n true ⟨f,[.cd fn.body],yD 0 args,[]::H,lo⟩ _ (by intro i hi; simp at hi; subst hi; trivial) (by simp) (fun n e hn=>hN n e (by simpa [hget,zp] using hn)) h
  cases l with
  |stop j c'=>exact hl'.elim
  | ret v' H' fr'=>
   obtain ⟨hf',ρ,v,H2,hR,hv,hH⟩:=hl'
   have hH:=hH.untrim
   obtain ⟨hgr,hrun⟩:=hok
   obtain ⟨σ',w',u,fm,q1,q2,q3,q4⟩:=hrun σ w a b cs ha hs (hn.cut hf') hb hbk
   have htr:=Ren.tr ⟨lo,hi,hi,ρ⟩ σ'
   have hfresh: ∀ m,fr'≤m∧m<hi→σ' m=none:=fun m hm=>by
    have:=hgr.1
    simp only at this
    rw [q4.ext m (by show m<lo∨fr'≤m; omega)]
    exact hn m (by show lo≤m; omega) hm.2
   refine ⟨Ren.sg ⟨lo,hi,hi,ρ⟩ σ',w',u,fm,v,H2,q1,q2,q3,hR,hv σ' _ u htr q4.v,hH.sim htr hfresh q4.sim,fun m hm=> ?_,q4.frm.mono (fun _ h=>h) fun k hk=>hH.own htr hfresh hk⟩
   unfold Ren.sg
   rw [if_pos hm]
   have:=hgr.1
   simp only at this
   exact q4.ext m (by show m<lo∨fr'≤m; omega)
theorem t9 {lo hi:Nat} {ι:Type} (I:ι→Hd) (good:ι→Prop) {f:FuncId} {fn:FnI} {args:List PV} {H H0:zQ} {v0:PV} {sy:Bool} {n:Nat} {ts:List Nat} (hf:xG E.fs f=some fn) (hl:lo≤hi) (hN:Names H lo) (h6: ∀ j,good j→lo≤(I j).fr)
    (h:run cond E sy X true n ⟨f,[.cd fn.body],yD 0 args,[]::H,lo⟩ (zq lo ts (om lo hi I good fun _=>True) (sS lo hi fun v H'=>v=v0∧H'=H0)))
    (hL: ∀ i,good i→tX P E ⟨f,(I i).todo,yc ts (I i).V,(I i).H,(I i).fr⟩ lo hi fun v H'=>v=v0∧H'=H0):zn P f args H lo v0 H0 hi∧ ∃ F,P.funcs[f]? =some F∧F.body.isSome=true∧(F.name== "runtime.NumGoroutine")=false:=
  wg ok hf hl (su ok hm hX I good (fun _=>True) ⟨f,[.cd fn.body],yD 0 args,[]::H,lo⟩ (by intro i hi; simp at hi; subst hi; trivial) (by simp) (fun n e hn=>hN n e (by simpa [hget,zp] using hn)) (Nat.le_refl _) h6 h fun j hj _=>hL j hj)
omit ok hm hX in

theorem gA {f:FuncId} {args0 args:List PV} {H0 H0' H H':zQ} {fr0 fr0' fr fr':Nat} {v0 v:PV} (C:zn P f args0 H0 fr0 v0 H0' fr0') (hN:Names H fr)
    (τ inv:Nat→Nat) (hle:fr≤fr') (hd:fr'-fr≤fr0'-fr0) (ha:Rns ⟨fun n=>n<fr0,τ⟩ args0 args) (hH:HpR ⟨fun n=>n<fr0,τ⟩ (fun n=>fr≤n∧n<fr') H0 H)
    (hv:Rn ⟨fun x=>(fr≤x∧x<fr')∨(¬ (fr≤x∧x<fr')∧inv x<fr0∧τ (inv x)=x),fun x=>if fr≤x∧x<fr' then x-fr+fr0 else inv x⟩ v v0)
    (hh: ∀ n e,hget H' n=some e→(hget H n=some e∧ ∀ m b,hget H0 m=some (true,b)→b≠ .dead→τ m≠n)∨(fr≤n∧n<fr'∧(e.2= .dead∨(e.1=true∧ ∃ b',hget H0' (n-fr+fr0)=some (true,b')∧b'≠ .dead∧Rb ⟨fun x=>(fr≤x∧x<fr')∨(¬ (fr≤x∧x<fr')∧inv x<fr0∧τ (inv x)=x),fun x=>if fr≤x∧x<fr' then x-fr+fr0 else inv x⟩ e.2 b')))
      ∨e.2= .dead∨(n<fr∧e.1=true∧ ∃ m b b',m<fr0∧hget H0 m=some (true,b)∧b≠ .dead∧τ m=n∧hget H0' m=some (true,b')∧b'≠ .dead∧Rb ⟨fun x=>(fr≤x∧x<fr')∨(¬ (fr≤x∧x<fr')∧inv x<fr0∧τ (inv x)=x),fun x=>if fr≤x∧x<fr' then x-fr+fr0 else inv x⟩ e.2 b')):
    zn P f args H fr v H' fr':=by
  intro σ w vals hvals hs hn
  let σ0:Sg:=fun n=>if n<fr0 then σ (τ n) else none
  have ht0:Tr ⟨fun n=>n<fr0,τ⟩ σ σ0:=fun n hu=>by simp only [σ0]; rw [if_pos hu]
  have hf0: ∀ n,(fr≤n∧n<fr')→σ n=none:=fun n h=>hn n h.1 h.2
  refine Calls.mono (C σ0 w vals (ha.ok ht0 hvals) (hH.sim ht0 hf0 hs) fun n h1 h2=>by simp only [σ0]; rw [if_neg (by omega)]) fun e w1 he=> ?_
  obtain ⟨v',σ1,rfl,ho⟩:=he
  let σ':Sg:=fun x=>if fr≤x∧x<fr' then σ1 (x-fr+fr0) else σ x
  have ht:Tr ⟨fun x=>(fr≤x∧x<fr')∨(¬ (fr≤x∧x<fr')∧inv x<fr0∧τ (inv x)=x),fun x=>if fr≤x∧x<fr' then x-fr+fr0 else inv x⟩ σ1 σ':=fun x hu=>by
   simp only [σ']
   rcases hu with h1|⟨h1,h2,h3⟩
   · rw [if_pos h1,if_pos h1]
   · rw [if_neg h1,if_neg h1,ho.ext _ (.inl h2)]
     simp only [σ0]
     rw [if_pos h2,h3]
  have hown: ∀ k,OwnB σ0 H0 k→OwnB σ H k:=fun k hk=>hH.own ht0 hf0 hk
  have hout: ∀ x,x<fr∨fr'≤x→σ' x=σ x:=fun x hx=>by simp only [σ']; rw [if_neg (by omega)]
  have hin: ∀ x,fr≤x→x<fr'→σ' x=σ1 (x-fr+fr0):=fun x h1 h2=>by simp only [σ']; rw [if_pos ⟨h1,h2⟩]
  have hmono:Mono σ σ':=fun x rb hx=>by
   by_cases h1:fr≤x∧x<fr'
   · rw [hn x h1.1 h1.2] at hx; cases hx
   · rw [hout x (by omega)]; exact hx
  have hmut: ∀ m,m<fr0→σ1 m=σ (τ m):=fun m hm=>by
   rw [ho.ext _ (.inl hm)]
   simp only [σ0]
   rw [if_pos hm]

  have hap: ∀ {n:Nat} {e:Bool×Blk} {rb:RB},hget H n=some e→e.2≠ .dead→σ n=some rb→(∀ m b,hget H0 m=some (true,b)→b≠ .dead→τ m≠n)→ ¬ OwnB σ0 H0 rb.blk:=fun {n e rb} h1 h2 h3 h4 ⟨m,b,rb',q1,q2,q3,q4⟩=>by
   obtain ⟨hu,hc⟩:=hH.ent m _ q1 q2
   have hu:m<fr0:=hu
   simp only [σ0] at q3
   rw [if_pos hu] at q3
   rcases hc with ⟨e',r1,r2,r3,_⟩|hc
   · obtain ⟨eb,eblk⟩:=e'
     have:eb=true:=r3 rfl
     subst this
     exact hs.dist (τ m) n eblk e r1 h1 r2 h2 (h4 m b q1 q2) rb' rb q3 h3 q4
   · rw [hf0 _ hc] at q3; cases q3
  have hnew: ∀ {b:Blk} {rb:RB} {x:Nat},hget H0' x=some (true,b)→b≠ .dead→σ1 x=some rb→w.heap.size≤rb.blk∨OwnB σ0 H0 rb.blk:=fun {b rb x} h1 h2 h3=>ho.frm.own rb.blk ⟨x,b,rb,h1,h2,h3,rfl⟩
  have far: ∀ {n:Nat} {e:Bool×Blk} {rb:RB} {b:Blk} {rb':RB} {x:Nat},hget H n=some e→e.2≠ .dead→σ n=some rb→(∀ m b,hget H0 m=some (true,b)→b≠ .dead→τ m≠n)→hget H0' x=some (true,b)→b≠ .dead→σ1 x=some rb'→rb.blk≠rb'.blk:=fun {n e rb b rb' x} h1 h2 h3 h4 k1 k2 k3 he=>by
   rcases hnew k1 k2 k3 with h|h
   · have:=(hs.ent n _ h1 h2 rb h3).1
     omega
   · exact hap h1 h2 h3 h4 (he ▸ h)
  refine ⟨v',σ',rfl,hv σ1 σ' v' ht ho.v,⟨fun n e hne=> ?_,fun n m b e hne hme hb' he' hnm rn rm hrn hrm=> ?_⟩,hmono,hout,ho.frm.os,ho.frm.tape,ho.frm.output,ho.frm.size,fun k hk hk'=>ho.frm.old k hk fun h=>hk' (hown k h),fun k hk=> ?_⟩
  · rcases hh n e hne with ⟨h1,h0⟩|⟨h1,h2,h3⟩|h3|⟨h1,h2,m,b,b',q1,q2,q3,q4,q5,q6,q7⟩
    · intro hd' rb hrb
      rw [hout n (.inl (hN n e h1))] at hrb
      refine (hs.ent n e h1).keep hmono (hout n (.inl (hN n e h1))) ho.frm.size (fun rb' hrb' hlt=> ?_) hd' rb (by rw [hout n (.inl (hN n e h1))]; exact hrb)
      exact ho.frm.old _ hlt (hap h1 hd' hrb' h0)
    · intro hd' rb hrb
      rcases h3 with h3|⟨h3,b',h4,h5,h6⟩
      · exact absurd h3 hd'
      · rw [hin n h1 h2] at hrb
        obtain ⟨q1,q2,q3⟩:=ho.sim.ent _ _ h4 h5 rb hrb
        exact ⟨q1,h6 σ1 σ' w1 rb ht q2,fun _=>q3 rfl⟩
    · exact fun hd'=>absurd h3 hd'
    · intro hd' rb hrb
      rw [hout n (.inl h1),← q4,← hmut m q1] at hrb
      obtain ⟨r1,r2,r3⟩:=ho.sim.ent _ _ q5 q6 rb hrb
      exact ⟨r1,q7 σ1 σ' w1 rb ht r2,fun _=>r3 rfl⟩
  ·
   have src: ∀ (n:Nat) (e:Bool×Blk) (rn:RB),hget H' n=some e→e.2≠ .dead→σ' n=some rn→(hget H n=some e∧σ n=some rn∧ ∀ m b,hget H0 m=some (true,b)→b≠ .dead→τ m≠n)∨(e.1=true∧ ∃ x b',hget H0' x=some (true,b')∧b'≠ .dead∧σ1 x=some rn∧((fr≤n∧x=n-fr+fr0)∨(n<fr∧x<fr0∧τ x=n))):=fun n e rn h hd' hr=>by
    rcases hh n e h with ⟨h1,h0⟩|⟨h1,h2,h3⟩|h3|⟨h1,h2,m,b,b',q1,q2,q3,q4,q5,q6,q7⟩
    · rw [hout n (.inl (hN n e h1))] at hr
      exact .inl ⟨h1,hr,h0⟩
    · rcases h3 with h3|⟨h3,b',h4,h5,h6⟩
      · exact absurd h3 hd'
      · rw [hin n h1 h2] at hr
        exact .inr ⟨h3,_,b',h4,h5,hr,.inl ⟨h1,rfl⟩⟩
    · exact absurd h3 hd'
    · rw [hout n (.inl h1),← q4,← hmut m q1] at hr
      exact .inr ⟨h2,m,b',q5,q6,hr,.inr ⟨h1,q1,q4⟩⟩
   rcases src n _ rn hne hb' hrn with ⟨h1,h2,h3⟩|⟨h1,x,b',h2,h3,h4,h5⟩<;>rcases src m _ rm hme he' hrm with ⟨k1,k2,k3⟩|⟨k1,y,c',k2,k3,k4,k5⟩
   · exact hs.dist n m b e h1 k1 hb' he' hnm rn rm h2 k2
   · exact far h1 hb' h2 h3 k2 k3 k4
   · exact fun hq=>far k1 he' k2 k3 h2 h3 h4 hq.symm
   · exact ho.sim.dist x y b' (true,c') h2 k2 h3 k3 (by rcases h5 with ⟨h5,h6⟩|⟨h5,h6,h7⟩<;>rcases k5 with ⟨k5,k6⟩|⟨k5,k6,k7⟩<;>first|omega|(intro hxy; subst hxy; exact hnm (h7.symm.trans k7))) rn rm h4 k4
  · obtain ⟨n,b,rb,h1,h2,h3,rfl⟩:=hk
    rcases hh n _ h1 with ⟨h4,h0⟩|⟨h4,h5,h6⟩|h6|⟨h4,h5,m,b1,b',q1,q2,q3,q4,q5,q6,q7⟩
    · rw [hout n (.inl (hN n _ h4))] at h3
      exact .inr ⟨n,b,rb,h4,h2,h3,rfl⟩
    · rw [hin n h4 h5] at h3
      rcases h6 with h6|⟨h6,b',h7,h8,_⟩
      · exact absurd h6 h2
      · exact (hnew h7 h8 h3).imp id (hown _)
    · exact absurd h6 h2
    · rw [hout n (.inl h4),← q4,← hmut m q1] at h3
      exact (hnew q5 q6 h3).imp id (hown _)
end
end Go.Ev
namespace Go.Ev
open Go.RowKit
theorem v9 {b:Bool} {x y:Prop} (h1:b=true→x) (h2:b=false→y):cond b x y:=by
 cases b
 · exact h2 rfl
 · exact h1 rfl
theorem zJ {b:Bool} {x y:Prop} (hb:b=true) (h:x):cond b x y:=by subst hb; exact h
theorem za {b:Bool} {x y:Prop} (hb:b=false) (h:y):cond b x y:=by subst hb; exact h
theorem yu (n:Int):lim .i64 n=decide (-9223372036854775808≤n∧n≤9223372036854775807):=rfl
theorem vM {a b:Nat} (h:Nat.blt a b=true):a<b:=by simpa [Nat.blt_eq] using h
theorem qu {a b:Nat} (h:Nat.ble a b=true):a≤b:=by simpa [Nat.ble_eq] using h
theorem zC {r:Ren} {n:Nat} (h:Nat.blt n r.lo=true):r.mp.use n:= .inl (vM h)
theorem zD {r:Ren} {n:Nat} (h:Nat.blt n r.fr=true):r.mp.use n:= .inr (.inr (vM h))
def rQ (k:List It):Prop:= ∀ x ∈ k,ug x
theorem mr: ∀ (c:Code) (k:List It),rQ k→ ∀ q ∈ wL c k,rQ q:=by
 intro c
 induction c<;>intro k hk q hq
 case seq a b iha ihb=>
  simp only [wL,List.mem_append] at hq
  rcases hq with hq|hq
  · exact iha _ (by intro x hx; rcases List.mem_cons.1 hx with rfl|hx; trivial; exact hk x hx) q hq
  · exact ihb k hk q hq
 case cond x a b iha ihb=>
  simp only [wL,List.mem_append] at hq
  rcases hq with hq|hq
  · exact iha k hk q hq
  · exact ihb k hk q hq
 case block id b ih=>
  simp only [wL] at hq
  exact ih _ (by intro x hx; rcases List.mem_cons.1 hx with rfl|hx; trivial; exact hk x hx) q hq
 case scope b ih=>
  simp only [wL] at hq
  exact ih _ (by intro x hx; rcases List.mem_cons.1 hx with rfl|hx; trivial; exact hk x hx) q hq
 case loop b ih=>
  simp only [wL] at hq
  rcases List.mem_cons.1 hq with rfl|hq
  · intro x hx
    rcases List.mem_cons.1 hx with rfl|hx
    · trivial
    · rcases List.mem_cons.1 hx with rfl|hx
      · trivial
      · exact hk x hx
  · exact ih _ (by intro x hx; rcases List.mem_cons.1 hx with rfl|hx; trivial; exact hk x hx) q hq
 all_goals simp [wL] at hq
theorem nN: ∀ (l:List (List It)) (i:Nat),(∀ q ∈ l,rQ q)→rQ (jW l i)
  | [],i,_=>by intro x hx; simp [jW] at hx
  |k::l,0,h=>h k List.mem_cons_self
  |k::l,i+1,h=>nN l i fun q hq=>h q (List.mem_cons_of_mem _ hq)
theorem ym (F:Func) (i:Nat):rQ (hd F i):=nN _ _ fun q hq=>mr _ [] (by intro x hx; cases hx) q hq
def below (fr:Nat):Lvl→Bool
  | []=>true
  |(n,_)::l=>Nat.blt n fr&&below fr l
theorem zV {H:zQ} {fr:Nat} (h:below fr (wh H)=true):Names H fr:=by
 have key: ∀ (l:Lvl),below fr l=true→ ∀ p ∈ l,p.1<fr:=by
  intro l
  induction l with
  |nil=>intro _ p hp; cases hp
  |cons q l ih=>
   intro h p hp
   obtain ⟨n,e⟩:=q
   simp only [below,Bool.and_eq_true] at h
   rcases List.mem_cons.1 hp with rfl|hp
   · simpa [Nat.blt_eq] using h.1
   · exact ih h.2 p hp
 intro n e hn
 rw [wX] at hn
 exact key _ h _ (yp hn)
def uY (nm:Nat→Nat):List Nat→Bool
  | []=>true
  |n::l=>l.all (fun m=>Nat.beq n m|| !(Nat.beq (nm n) (nm m)))&&uY nm l
theorem oe {nm:Nat→Nat}: ∀ {l:List Nat},uY nm l=true→ ∀ n ∈ l,∀ m ∈ l,nm n=nm m→n=m
  | [],_,n,hn,_,_,_=>by cases hn
  | a ::l,h,n,hn,m,hm,e=>by
   simp only [uY,Bool.and_eq_true,List.all_eq_true] at h
   have key: ∀ x ∈ l,nm a=nm x→a=x:=fun x hx e=>by
    have:=h.1 x hx
    rcases Bool.or_eq_true _ _ ▸ this with h1|h1
    · exact Nat.eq_of_beq_eq_true h1
    · rw [e,Nat.beq_refl] at h1; cases h1
   rcases List.mem_cons.1 hn with e1|hn'<;>rcases List.mem_cons.1 hm with e2|hm'
   · rw [e1,e2]
   · subst e1; exact key m hm' e
   · subst e2; exact (key n hn' e.symm).symm
   · exact oe h.2 n hn' m hm' e
theorem HpR.mk' {r:Mp} {fresh:Nat→Prop} {H H':zQ} (hi:uY r.nm ((wh H).map (·.1))=true) (h:EntL r fresh H' (wh H)):HpR r fresh H H':=HpR.of h (oe hi)
theorem u7 {lo hi:Nat} {R:PV→zQ→Prop} {v':PV} {H':zQ} {fr':Nat} (ρ:Nat→Nat) (v:PV) (H:zQ) (hR:R v H) (hf:Nat.ble fr' hi=true) (hv:Rn (Ren.mp ⟨lo,hi,hi,ρ⟩) v v') (hi':uY (Ren.mp ⟨lo,hi,hi,ρ⟩).nm ((wh H).map (·.1))=true)
    (hH:EntL (Ren.mp ⟨lo,hi,hi,ρ⟩) (fun n=>fr'≤n∧n<hi) H' (wh H)):sS lo hi R v' H' fr':=
  ⟨qu hf,ρ,v,H,hR,hv,HpR.mk' hi' hH⟩
def xh:List Col→Bool
  | []=>true
  | .val _::_=>false
  |_::l=>xh l
theorem vi {r:Mp} {n:Nat}: ∀ {cs:List Col},xh cs=true→Rcs r n cs cs
  | [],_=>trivial
  | .int k f::l,h=>⟨fun j _=>zH rfl,vi (cs:=l) h⟩
  | .bool f::l,h=>⟨fun j _=>zu rfl,vi (cs:=l) h⟩
  | .str f::l,h=>⟨fun j _=>wz rfl,vi (cs:=l) h⟩
  | .val f::l,h=>by cases h
theorem sI {r:Mp} {n:Nat} {cs:List Col} (h:xh cs=true):Rb r (.cols n cs) (.cols n cs):=uO (Nat.le_refl _) (vi h)
theorem nh {r:Mp} {fresh:Nat→Prop} {H':zQ} {k n:Nat} {b b':Bool} {cs:List Col} (hu:r.use k) (hg:hget H' (r.nm k)=some (b',.cols n cs)) (hb:b=true→b'=true) (h:xh cs=true):
    (Blk.cols n cs= .dead∨(r.use k∧((∃ b' blk',hget H' (r.nm k)=some (b',blk')∧blk'≠ .dead∧(b=true→b'=true)∧Rb r (.cols n cs) blk')∨fresh (r.nm k)))):=
  .inr ⟨hu,.inl ⟨b',_,hg,by simp,hb,sI h⟩⟩
theorem pm {r:Mp} {fresh:Nat→Prop} {H':zQ} {k n:Nat} {b b':Bool} {cs:List Col} {l:Lvl} (hu:r.use k) (hg:hget H' (r.nm k)=some (b',.cols n cs)) (hb:b=true→b'=true) (h:xh cs=true) (hl:EntL r fresh H' l):EntL r fresh H' ((k,b,.cols n cs)::l):=
 ⟨nh hu hg hb h,hl⟩
theorem zE {r:Mp} {fresh:Nat→Prop} {H':zQ}:EntL r fresh H' []:=trivial
theorem li {r:Mp} {fresh:Nat→Prop} {H':zQ} {k:Nat} {b b':Bool} {blk blk':Blk} {l:Lvl} (hu:r.use k) (hg:hget H' (r.nm k)=some (b',blk')) (hd:blk'≠ .dead) (hb:b=true→b'=true) (h:Rb r blk blk') (hl:EntL r fresh H' l):EntL r fresh H' ((k,b,blk)::l):=
 ⟨.inr ⟨hu,.inl ⟨b',blk',hg,hd,hb,h⟩⟩,hl⟩
theorem zY {r:Mp} {fresh:Nat→Prop} {H':zQ} {k:Nat} {b:Bool} {blk:Blk} {l:Lvl} (hu:r.use k) (hf:fresh (r.nm k)) (hl:EntL r fresh H' l):EntL r fresh H' ((k,b,blk)::l):=
 ⟨.inr ⟨hu,.inr hf⟩,hl⟩
theorem HpR.mono {r:Mp} {f g:Nat→Prop} {H H':zQ} (h:HpR r f H H') (hi: ∀ n,f n→g n):HpR r g H H':=
 ⟨fun n e h1 h2=>⟨(h.ent n e h1 h2).1,(h.ent n e h1 h2).2.imp id (hi _)⟩,h.inj⟩
end Go.Ev
namespace Go.Proofs.YtblfgknonjogfaaGreatDoor
open Go.ChangeShapes Go.WideShapes Go.ChangeAt Go.RowKit Go.WideElems Go.Deep
section
variable {H:Type} {enc:TypeId×Value→H} {P:Program}
theorem all_later (hl:laidOutB P=true) {W W':World} (hb:Below W.heap.size W W') {sp:Nat→Bool}:
    ∀ {ts:List TypeId} {vs:List Value} {ds:List (DataW H)} {ps:List MemPlace},(∀ t ∈ ts,P.readableRec t=true∧t<P.types.size)→
     DataW.TrodAll enc P W 0 (fun _=>true) true ts vs ds ps→(∀ p ∈ ps,p.block<W.heap.size)→(∀ p ∈ ps,sp p.block=true)→DataW.TrodAll enc P W' 0 sp true ts vs ds ps
  | [],[],[],_,_,h,_,_=>h
  | [],_::_,_,_,_,h,_,_=>h.elim
  | [],[],_::_,_,_,h,_,_=>h.elim
  |_::_,[],_,_,_,h,_,_=>h.elim
  |_::_,_::_,[],_,_,h,_,_=>h.elim
  |t::ts,v::vs,d::ds,_,hr,⟨p,q,h1,h2,rfl⟩,hlt,hs=>by
   have ht:=hr t (by simp)
   refine ⟨p,q,?_,all_later hl hb (fun u hu=>hr u (by simp [hu])) h2 (fun x hx=>hlt x (by simp [hx])) (fun x hx=>hs x (by simp [hx])),rfl⟩
   exact Trod_stays hl ht.1 ht.2 h1 (fun x hx=>hb.same (hlt x (by simp [hx]))) (fun x hx=>hs x (by simp [hx]))
theorem law_done {f:Func} {s:ChangeSpec} {W W':World} {args:Array Value} {ds gs:List (DataW H)} {before:List MemPlace} {b:TypeId}
    (hl:laidOutB P=true) (hr: ∀ t ∈ f.params.toList,P.readableRec t=true∧t<P.types.size) (hres:f.resultTypes= #[b]) (hbool:P.underlying b=some .bool) (hvars:s.vars= [])
    (hW:DataW.Whole enc P f.params.toList s.vars false W args.toList ds gs before) (hfn:(s.fn H (ds++gs))= {results:= [.lit (.bool true)],args:=ds}) (hb:Below W.heap.size W W'):
    s.post enc P f false true false false W args (.bool true) W':=by
  have hlt: ∀ p ∈ before,p.block<W.heap.size:=fun p hp=>hW.lt p hp
  have hW0:=hW
  obtain ⟨p,q,hA,hV,e,_,_⟩:=hW0
  rw [hvars] at hV
  obtain ⟨rfl,rfl⟩:=trodVars_none hV
  simp only [List.append_nil] at e
  subst e
  have hR: ∀ (w0:Nat) (sp:Nat→Bool) (hd:Bool),DataW.TrodAll enc P W' w0 sp hd f.resultTypes.toList ((Value.bool true).resultList f.resultTypes.size) (s.fn H (ds++ [])).results []:=fun w0 sp hd=>by
   rw [hres,hfn]
   exact trodAll_mk1 (shut_bool hbool _)
  have hG: ∀ sp:Nat→Bool,(∀ x ∈ before,sp x.block=true)→DataW.TrodAll enc P W' 0 sp true f.params.toList args.toList (s.fn H (ds++ [])).args before:=fun sp hsp=>by
   rw [hfn]
   exact all_later hl hb hr hA hlt hsp
  have hVr: ∀ sp:Nat→Bool,DataW.TrodVars enc P W' sp s.vars (s.fn H (ds++ [])).vars []:=fun sp=>by
   rw [hvars,hfn]
   exact rfl
  refine ⟨ds,[],before,[],before,[],hW,hR _ _ _,hG _ (fun x hx=>by simpa using hlt x hx),hVr _,World.keptBut_mono (fun x hx=>⟨hx,?_⟩) (hb.frame (· ∈ before)),fun h=>by cases h⟩
  simpa using hx
def fits (d:TypeDesc) (v:Value):Prop:=
 match d with
 | .int k=> ∃ z,v= .int k z∧(Lit.int k z).wf=true
 | .bool=> ∃ b,v= .bool b
 | .string=> ∃ s,v= .string s
 |_=>True
def RowV (w:World) (v:Value) (n m:Nat) (D:Nat→TypeDesc):Prop:=(n=0∧ ∃ (A:Option Addr) (cap:Nat),v= .slice A 0 cap)∨
 ∃ (b off cap:Nat),v= .slice (some ⟨b,off,none⟩) n cap∧(n≤cap∧b<w.heap.size)∧ ∀ j,j<n→ ∀ i,i<m→ ∃ c,w.cell? ⟨b,off+(j*m+i),none⟩=some c∧fits (D i) c
end
end Go.Proofs.YtblfgknonjogfaaGreatDoor
namespace Go.Ev
open Go.RowKit Go.Deep Go.WideShapes Go.ChangeAt
inductive CK where
 |int (k:IntKind)
 |bool
 |str
 |list (e:TypeId)
inductive CKs (R:CK→Value→Prop):List CK→List Value→Prop
  |nil:CKs R [] []
  |cons {k:CK} {c:Value} {ks:List CK} {cs:List Value} (h:R k c) (hl:CKs R ks cs):CKs R (k::ks) (c::cs)
theorem CKs.append {R:CK→Value→Prop}: ∀ {a b:List CK} {u v:List Value},CKs R a u→CKs R b v→CKs R (a++b) (u++v)
  |_,_,_,_,.nil,h=>h
  |_,_,_,_,.cons h hl,k=> .cons h (hl.append k)
def x9:List CK→Nat
  | []=>0
  |_::l=>x9 l+1
theorem nY: ∀ (l:List CK),x9 l=l.length
  | []=>rfl
  |_::l=>by simp [x9,nY l]
theorem CKs.len {R:CK→Value→Prop}: ∀ {a:List CK} {u:List Value},CKs R a u→u.length=x9 a
  |_,_,.nil=>rfl
  |_,_,.cons h hl=>by simp [x9,hl.len]
section
variable (P:Program)
def pO (g:TypeId→Option (List CK)):List Field→Nat→Option (List CK)
  | [],_=>some []
  | f ::fs,o=>match Nat.beq f.offset o,g f.type with
   |true,some ks=>match Nat.beq (x9 ks) (P.cellsOf f.type),pO g fs (o+x9 ks) with
    |true,some l=>some (ks++l)
    |_,_=>none
   |_,_=>none
def pG (ks:List CK):Nat→List CK
  |0=> []
  |m+1=>pG ks m++ks
def wS :Nat→TypeId→Option (List CK)
  |0,_=>none
  | n + 1,t=>match P.underlying t with
   |some .bool=>some [.bool]
   |some (.int k)=>some [.int k]
   |some .string=>some [.str]
   |some (.slice e)=>some [.list e]
   | some (.struct fs)=>match pO P (wS n) fs.toList 0 with
    |some ks=>match Nat.beq (x9 ks) (P.cellsOf t) with
     |true=>some ks
     |false=>none
    |none=>none
   | some (.array m e)=>match wS n e with
    |some ks=>match Nat.beq (x9 ks) (P.cellsOf e),Nat.beq (m*x9 ks) (P.cellsOf t) with
     |true,true=>some (pG ks m)
     |_,_=>none
    |none=>none
   |_=>none
end
section
variable {H:Type} {enc:TypeId×Value→H} {P:Program} {w:World} {base:Nat} {held:Bool}
def wK (enc:TypeId×Value→H) (P:Program) (w:World) (base:Nat) (held:Bool):CK→Value→Prop
  | .int k,c=> ∃ z,c= .int k z∧(Lit.int k z).wf=true
  | .bool,c=> ∃ b,c= .bool b
  | .str,c=> ∃ s,c= .string s∧s.size≤maxLen
  | .list e,c=> ∃ (t:TypeId) (fuel:Nat) (x:DataW H×List MemPlace),P.underlying t=some (.slice e)∧DataW.trod enc P w base (fun _=>true) held fuel t [c]=some x
theorem vu {α:Type} (l:List α) (o a b:Nat):(l.drop o).take (a+b)=(l.drop o).take a++(l.drop (o+a)).take b:=by
 rw [List.take_add,List.drop_drop]
theorem sC {g:TypeId→Option (List CK)} {R:CK→Value→Prop} {cs:List Value}: ∀ {fs:List Field} {o:Nat} {ks:List CK},pO P g fs o=some ks→
 (∀ f ∈ fs,∀ l,g f.type=some l→CKs R l ((cs.drop f.offset).take (P.cellsOf f.type)))→CKs R ks ((cs.drop o).take (x9 ks))
 | [],o,ks,h,_=>by simp only [pO,Option.some.injEq] at h; subst h; simpa [x9] using CKs.nil
 | f ::fs,o,ks,h,hf=>by
  simp only [pO] at h
  split at h
  · rename_i l h1 h2
    split at h
    · rename_i l2 h3 h4
      simp only [Option.some.injEq] at h
      subst h
      have e1:=Nat.eq_of_beq_eq_true h1
      have e3:=Nat.eq_of_beq_eq_true h3
      have a:=hf f (by simp) l h2
      rw [e1,← e3] at a
      have b:=sC h4 fun f' hf'=>hf f' (by simp [hf'])
      rw [show x9 (l++l2)=x9 l+x9 l2 by simp [nY],vu]
      exact a.append b
    · cases h
  · cases h
theorem sn {R:CK→Value→Prop} {cs:List Value} {ks:List CK}: ∀ {m:Nat},(∀ i,i<m→CKs R ks ((cs.drop (i*x9 ks)).take (x9 ks)))→CKs R (pG ks m) (cs.take (m*x9 ks))
  |0,_=>by simpa [pG] using CKs.nil
  |m+1,h=>by
   have a:=sn (m:=m) fun i hi=>h i (by omega)
   have b:=h m (by omega)
   have e:=vu cs 0 (m*x9 ks) (x9 ks)
   simp only [List.drop_zero,Nat.zero_add] at e
   rw [pG,Nat.succ_mul,e]
   exact a.append b
theorem oY : ∀ {n:Nat} {t:TypeId} {ks:List CK} {cs:List Value} {fuel:Nat} {x:DataW H×List MemPlace},wS P n t=some ks→DataW.trod enc P w base (fun _=>true) held fuel t cs=some x→CKs (wK enc P w base held) ks cs:=by
 intro n
 induction n with
 |zero=>intro t ks cs fuel x h; cases h
 | succ n ih=>
  intro t ks cs fuel x h ht
  simp only [wS] at h
  split at h
  · rename_i hu
    cases h
    obtain ⟨b,rfl,_⟩:=DataW.trod_bool hu ht
    exact .cons ⟨b,rfl⟩ .nil
  · rename_i k hu
    cases h
    obtain ⟨z,rfl,_,hw⟩:=DataW.trod_int hu ht
    exact .cons ⟨z,rfl,hw⟩ .nil
  · rename_i hu
    cases h
    obtain ⟨s,rfl,_,hs⟩:=DataW.trod_string hu ht
    exact .cons ⟨s,rfl,hs⟩ .nil
  · rename_i e hu
    cases h
    have: ∃ c,cs= [c]:=by
     rcases Go.Deep.open_slice hu ht with ⟨h0,_⟩|⟨a,len,cap,k,m,Dd,Pl,hcs,_⟩
     · exact ⟨_,h0⟩
     · exact ⟨_,hcs⟩
    obtain ⟨c,rfl⟩:=this
    exact .cons ⟨t,fuel,x,hu,ht⟩ .nil
  · rename_i fs hu
    split at h
    · rename_i l hj
      split at h
      · rename_i hc
        cases h
        obtain ⟨xs,m,_,_,hl,hx,hg⟩:=DataW.trod_struct hu ht
        have a:=sC (R:=wK enc P w base held) (cs:=cs) hj fun f hf l hl=>by
         obtain ⟨i,hi,rfl⟩:=List.getElem_of_mem hf
         have:=hg i fs[i] (Array.getElem?_eq_getElem (by simpa using hi))
         rw [List.getElem?_eq_getElem (by simpa [hx] using hi)] at this
         exact ih hl this
        simp only [List.drop_zero] at a
        rw [Nat.eq_of_beq_eq_true hc,← hl,List.take_length] at a
        exact a
      · cases h
    · cases h
  · rename_i m e hu
    split at h
    · rename_i l hj
      split at h
      · rename_i h1 h2
        cases h
        obtain ⟨xs,k,_,_,hl,hx,hg⟩:=DataW.trod_array hu ht
        have a:=sn (R:=wK enc P w base held) (cs:=cs) (ks:=l) (m:=m) fun i hi=>by
         have:=hg i hi
         rw [List.getElem?_eq_getElem (by omega),← Nat.eq_of_beq_eq_true h1] at this
         exact ih hj this
        rw [Nat.eq_of_beq_eq_true h2,← hl,List.take_length] at a
        exact a
      · cases h
    · cases h
  · cases h
end
inductive Kd where
 |int (k:IntKind)
 |bool
 |str
def Kd.ck:Kd→CK
  | .int k=> .int k
  | .bool=> .bool
  | .str=> .str
def cks:List Kd→List CK
  | []=> []
  |k::l=>k.ck::cks l
def yj:List Kd→Nat
  | []=>0
  |_::l=>yj l+1
def Kd.I:Kd→Type
  | .int _=>Int
  | .bool=>Bool
  | .str=>ByteArray
def Kd.v:(k:Kd)→k.I→PV
  | .int k,z=> .int k z
  | .bool,b=> .bool b
  | .str,s=> .str s
def Kd.dflt:(k:Kd)→k.I
  | .int _=>(0:Int)
  | .bool=>false
  | .str=>(default:ByteArray)
def inR (k:IntKind) (z:Int):Prop:=k.min≤z∧z≤k.max
def strR (s:ByteArray):Prop:=s.size≤maxLen
def Kd.fits:(k:Kd)→k.I→Prop
  | .int k,z=>inR k z
  | .bool,_=>True
  | .str,s=>strR s
def Kd.col:(k:Kd)→(Nat→k.I)→Col
  | .int k,f=> .int k f
  | .bool,f=> .bool f
  | .str,f=> .str f
theorem pe: ∀ (k:Kd) (f:Nat→k.I) (j:Nat),zy (k.col f) j=k.v (f j)
  | .int _,_,_=>rfl
  | .bool,_,_=>rfl
  | .str,_,_=>rfl
def CsI:List Kd→Type
  | []=>Unit
  |k::l=>(Nat→k.I)×CsI l
def csC:(l:List Kd)→CsI l→List Col
  | [],_=> []
  |k::l,(f,x)=>k.col f::csC l x
def sN (n:Nat):(l:List Kd)→CsI l→Prop
  | [],_=>True
  |k::l,(f,x)=>(∀ j,j<n→k.fits (f j))∧sN n l x
theorem uV: ∀ (l:List Kd) (x:CsI l),yB (csC l x)=yj l
  | [],_=>rfl
  |k::l,(f,x)=>by simp [csC,yB,yj,uV l x]
section
variable {H:Type} {enc:TypeId×Value→H} {P:Program} {w:World} {base:Nat} {held:Bool}
theorem jy (k:Kd) {c:Value} (h:wK enc P w base held k.ck c): ∃ x:k.I,k.fits x∧(∀ σ,VR1 σ (k.v x) c):=by
 cases k with
 |int k=>
  obtain ⟨z,rfl,hw⟩:=h
  refine ⟨z,by simpa [Kd.fits,inR,Lit.wf] using hw,fun σ=>⟨.int _ _,rfl⟩⟩
 |bool=>
  obtain ⟨b,rfl⟩:=h
  exact ⟨b,trivial,fun σ=>⟨.bool _,rfl⟩⟩
 |str=>
  obtain ⟨s,rfl,hs⟩:=h
  exact ⟨s,hs,fun σ=>⟨.str _,rfl⟩⟩
theorem mV: ∀ (l:List Kd) {cs:List Value},CKs (wK enc P w base held) (cks l) cs→ ∀ (i:Nat) (k:Kd),l[i]? =some k→ ∃ c,cs[i]? =some c∧wK enc P w base held k.ck c
  | [],_,_,i,k,h=>by simp at h
  | q ::l,_,hc,i,k,e=>by
   cases hc with
   | cons h hl=>
    cases i with
    |zero=>simp only [List.getElem?_cons_zero,Option.some.injEq] at e; subst e; exact ⟨_,rfl,h⟩
    |succ i=>
     obtain ⟨c,h1,h2⟩:=mV l hl i k (by simpa using e)
     exact ⟨c,by simpa using h1,h2⟩
theorem rx {n:Nat} {C:Nat→Nat→Value}: ∀ {l:List Kd} (i0:Nat),(∀ j,j<n→ ∀ i k,l[i]? =some k→wK enc P w base held k.ck (C j (i0+i)))→
 ∃ x:CsI l,sN n l x∧ ∀ j,j<n→ ∀ i c,yh (csC l x) i=some c→ ∀ σ,VR1 σ (zy c j) (C j (i0+i))
 | [],_,_=>⟨(),trivial,fun j hj i c hc=>by simp [csC,yh] at hc⟩
 | k ::l,i0,h=>by
  obtain ⟨x,h1,h2⟩:=rx (n:=n) (C:=C) (l:=l) (i0+1) fun j hj i k hk=>by
   have:=h j hj (i+1) k (by simpa using hk)
   rwa [show i0+1+i=i0+(i+1) by omega]
  have hc: ∀ j,∃ y:k.I,j<n→k.fits y∧ ∀ σ,VR1 σ (k.v y) (C j i0):=fun j=>by
   by_cases hj:j<n
   · obtain ⟨y,h3,h4⟩:=jy k (h j hj 0 k rfl)
     exact ⟨y,fun _=>⟨h3,h4⟩⟩
   · exact ⟨k.dflt,fun h=>absurd h hj⟩
  refine ⟨(fun j=>Classical.choose (hc j),x),⟨fun j hj=>(Classical.choose_spec (hc j) hj).1,h1⟩,fun j hj i c hcc σ=> ?_⟩
  cases i with
  |zero=>
   simp only [csC,yh,Option.some.injEq] at hcc
   subst hcc
   rw [pe]
   exact (Classical.choose_spec (hc j) hj).2 σ
  |succ i=>
   have:=h2 j hj i c hcc σ
   rwa [show i0+1+i=i0+(i+1) by omega] at this
end
inductive AK where
 |plain (k:Kd)
 |list (ks:List Kd)
 |own (ks:List Kd)
 |cell (ks:List Kd)
 |win (ks:List Kd)
def CeI:List Kd→Type
  | []=>Unit
  |k::l=>k.I×CeI l
def ceP:(l:List Kd)→CeI l→List PV
  | [],_=> []
  |k::l,(x,y)=>k.v x::ceP l y
def AK.I:AK→Type
  | .plain k=>k.I
  | .list ks=>Nat×CsI ks
  | .own ks=>Nat×CsI ks
  | .cell ks=>CeI ks
  | .win ks=>Nat×CsI ks
def AK.pv:(a:AK)→a.I→Nat→PV
  | .plain k,x,_=>k.v x
  | .list ks,(n,_),nm=> .loose ⟨nm,yj ks,0,0⟩ n
  | .own ks,(n,_),nm=> .own nm (yj ks) n
  | .cell ks,_,nm=> .ptr ⟨nm,0,0,0⟩
  | .win ks,(n,_),nm=> .loose ⟨nm,yj ks,0,0⟩ n
def AK.next:AK→Nat→Nat
  | .plain _,n=>n
  | .list _,n=>n+1
  | .own _,n=>n+1
  | .cell _,n=>n+1
  | .win _,n=>n+1
def AK.fits:(a:AK)→a.I→Prop
  | .plain k,x=>k.fits x
  | .list ks,(n,c)=>n≤maxLen∧sN n ks c
  | .own ks,(n,c)=>n≤maxLen∧sN n ks c
  | .cell _,_=>True
  | .win ks,(n,c)=>n≤maxLen∧sN n ks c
def AK.lvl:(a:AK)→a.I→Nat→Lvl
  | .plain _,_,_=> []
  | .list ks,(n,c),nm=> [(nm,(false,.cols n (csC ks c)))]
  | .own ks,(n,c),nm=> [(nm,(true,.cols n (csC ks c)))]
  | .cell ks,x,nm=> [(nm,(false,.cells (ceP ks x)))]
  | .win ks,(n,c),nm=> [(nm,(true,.cols n (csC ks c)))]
def AsI:List AK→Type
  | []=>Unit
  |a::l=>a.I×AsI l
def qP:(l:List AK)→AsI l→Nat→List PV
  | [],_,_=> []
  |a::l,(x,y),nm=>a.pv x nm::qP l y (a.next nm)
def xW:List AK→Nat→Nat
  | [],n=>n
  |a::l,n=>xW l (a.next n)
def qk:(l:List AK)→AsI l→Prop
  | [],_=>True
  |a::l,(x,y)=>a.fits x∧qk l y
def tW:(l:List AK)→AsI l→Nat→Lvl
  | [],_,_=> []
  |a::l,(x,y),nm=>a.lvl x nm++tW l y (a.next nm)
section
variable (P:Program)
def oK:CK→Option Kd
  | .int k=>some (.int k)
  | .bool=>some .bool
  | .str=>some .str
  | .list _=>none
def nX:List CK→Option (List Kd)
  | []=>some []
  |c::l=>match oK c,nX l with
   |some k,some m=>some (k::m)
   |_,_=>none
def s8 (n:Nat):CK→Option AK
  | .list e=>match wS P n e with
   |some cs=>match nX cs,Nat.beq (x9 cs) (P.cellsOf e),Nat.ble 1 (x9 cs) with
    |some ks,true,true=>some (.list ks)
    |_,_,_=>none
   |none=>none
  |c=>match oK c with
   |some k=>some (.plain k)
   |none=>none
def rU (n:Nat):List CK→Option (List AK)
  | []=>some []
  |c::l=>match s8 P n c,rU n l with
   |some k,some m=>some (k::m)
   |_,_=>none
def qN (n:Nat) (t:TypeId):Option (List AK):=match wS P n t with
 |some cs=>rU P n cs
 |none=>none
def isAgg (t:TypeId):Bool:=match P.underlying t with
 |some (.struct _)=>true
 |some (.array _ _)=>true
 |_=>false
end
theorem oz: ∀ {c:CK} {k:Kd},oK c=some k→k.ck=c
  | .int _,_,h=>by cases h; rfl
  | .bool,_,h=>by cases h; rfl
  | .str,_,h=>by cases h; rfl
  | .list _,_,h=>by cases h
theorem qy: ∀ {l:List CK} {m:List Kd},nX l=some m→cks m=l∧yj m=x9 l
  | [],_,h=>by cases h; exact ⟨rfl,rfl⟩
  | c ::l,m,h=>by
   simp only [nX] at h
   split at h
   · rename_i k m' h1 h2
     cases h
     obtain ⟨q1,q2⟩:=qy h2
     exact ⟨by simp [cks,oz h1,q1],by simp [yj,x9,q2]⟩
   · cases h
section
variable {H:Type} {enc:TypeId×Value→H} {P:Program} {w:World} {held:Bool}
theorem nz {σ τ:Sg} (m:Mono σ τ) {rb:RB}: ∀ {b:Blk},BlkR σ w rb b→BlkR τ w rb b
  | .dead,_=>trivial
  | .cells cs,h=>fun i v hi=>by obtain ⟨u,h1,h2⟩:=h i v hi; exact ⟨u,h1,h2.mono m⟩
  | .rows st n F,h=>fun j i hj hi=>by obtain ⟨u,h1,h2⟩:=h j i hj hi; exact ⟨u,h1,h2.mono m⟩
  | .ints k n f,h=>h
  | .cols n cs,h=>fun j i c hj hi=>by obtain ⟨u,h1,h2⟩:=h j i c hj hi; exact ⟨u,h1,h2.mono m⟩
theorem g7 {n:Nat} {ck:CK} {a:AK} (ha:s8 P n ck=some a) {c:Value} (h:wK enc P w 0 held ck c) (nm:Nat):
    ∃ (x:a.I) (o:Option RB),a.fits x∧(∀ σ:Sg,σ nm=o→VR σ (a.pv x nm) c)∧ ∀ p ∈ a.lvl x nm,p.1=nm∧a.next nm=nm+1∧p.2.1=false∧ ∀ rb,o=some rb→rb.blk<w.heap.size∧BlkR (fun _=>none) w rb p.2.2:=by
  have plain: ∀ k:Kd,oK ck=some k→a= .plain k→ ∃ (x:a.I) (o:Option RB),a.fits x∧(∀ σ:Sg,σ nm=o→VR σ (a.pv x nm) c)∧ ∀ p ∈ a.lvl x nm,p.1=nm∧a.next nm=nm+1∧p.2.1=false∧ ∀ rb,o=some rb→rb.blk<w.heap.size∧BlkR (fun _=>none) w rb p.2.2:=fun k hk e=>by
   subst e
   rw [← oz hk] at h
   obtain ⟨x,h1,h2⟩:=jy k h
   exact ⟨x,none,h1,fun σ _=>(h2 σ).1,fun p hp=>by cases hp⟩
  cases ck with
  |int k=>simp only [s8,oK,Option.some.injEq] at ha; exact plain _ rfl ha.symm
  |bool=>simp only [s8,oK,Option.some.injEq] at ha; exact plain _ rfl ha.symm
  |str=>simp only [s8,oK,Option.some.injEq] at ha; exact plain _ rfl ha.symm
  | list e =>
   simp only [s8] at ha
   split at ha
   · rename_i cs hcs
     split at ha
     · rename_i ks hk hc h1'
       cases ha
       obtain ⟨q1,q2⟩:=qy hk
       have hm:yj ks=P.cellsOf e:=by rw [q2]; exact Nat.eq_of_beq_eq_true hc
       have hm0:0<yj ks:=by rw [q2]; exact Nat.le_of_ble_eq_true h1'
       obtain ⟨t,fuel,x,hu,ht⟩:=h
       have lenks: ∀ l:List Kd,yj l=l.length:=fun l=>by
        induction l with
        |nil=>rfl
        |cons a l ih=>simp [yj,ih]
       obtain ⟨k0,hk0⟩: ∃ k0,ks[0]? =some k0:=⟨_,List.getElem?_eq_getElem (by rw [← lenks]; exact hm0)⟩
       have nilcase: ∀ (A:Option Addr) (cap:Nat),c= .slice A 0 cap→ ∃ (x:(AK.list ks).I) (o:Option RB),(AK.list ks).fits x∧(∀ σ:Sg,σ nm=o→VR σ ((AK.list ks).pv x nm) c)∧ ∀ p ∈ (AK.list ks).lvl x nm,p.1=nm∧(AK.list ks).next nm=nm+1∧p.2.1=false∧ ∀ rb,o=some rb→rb.blk<w.heap.size∧BlkR (fun _=>none) w rb p.2.2:=fun A cap e=>by
        obtain ⟨x,hx,_⟩:=rx (enc:=enc) (P:=P) (w:=w) (base:=0) (held:=held) (n:=0) (C:=fun _ _=>default) (l:=ks) 0 (fun j hj=>by omega)
        refine ⟨(0,x),none,⟨Nat.zero_le _,hx⟩,fun σ _=>by subst e; exact .loose _ 0 _ _ (Nat.zero_le _) (fun h=>by omega),fun p hp=> ?_⟩
        simp only [AK.lvl,List.mem_singleton] at hp
        subst hp
        exact ⟨rfl,rfl,rfl,fun rb h=>by cases h⟩
       rcases Go.Deep.open_slice hu ht with ⟨h0,_⟩|⟨a,len,cap,k,m,Dd,Pl,hcs',hb,hl,hcap,hk,_,hi⟩
       · have e0:c= .slice none 0 0:=by simpa using h0
         exact nilcase _ _ e0
       · have e0:c= .slice (some a) len cap:=by simpa using hcs'
         simp only [if_true] at hk
         by_cases hz:len=0
         · subst hz; exact nilcase _ _ e0
         have key: ∀ j,j<len→ ∃ cs',CKs (wK enc P w 0 held) (cks ks) cs'∧cs'.length=yj ks∧ ∀ i,i<yj ks→w.cell? (a.add (j*yj ks+i))=cs'[i]? :=fun j hj=>by
          obtain ⟨cs',hc',ht'⟩:=hi j (by omega)
          rw [← hm] at hc'
          obtain ⟨_,hcl,hat⟩:=World.cells?_some hc'
          refine ⟨cs',by rw [q1]; exact oY hcs ht',hcl,fun i hi'=> ?_⟩
          have:=hat i hi'
          rwa [Go.Deep.add_add] at this
         have cell: ∀ j,j<len→ ∀ i k,ks[i]? =some k→ ∃ c,w.cell? (a.add (j*yj ks+i))=some c∧wK enc P w 0 held k.ck c:=fun j hj i k hk=>by
          obtain ⟨cs',h1,h2,h3⟩:=key j hj
          obtain ⟨c,h4,h5⟩:=mV _ h1 i k hk
          have:i<cs'.length:=(List.getElem?_eq_some_iff.1 h4).1
          exact ⟨c,by rw [h3 i (by omega),h4],h5⟩
         obtain ⟨b,off,spot⟩:=a
         have hspot:spot=none:=by
          obtain ⟨c,hc,_⟩:=cell 0 (by omega) 0 k0 hk0
          simp [Addr.add] at hc
          exact World.cell?_spot hc
         subst hspot
         have hadd: ∀ k,(⟨b,off,none⟩:Addr).add k=⟨b,off+k,none⟩:=fun k=>by unfold Addr.add; split<;>simp_all
         have hbz:b<w.heap.size:=by
          obtain ⟨c,hc,_⟩:=cell 0 (by omega) 0 k0 hk0
          have:=World.block_lt_of_cell? w _ hc
          rwa [hadd] at this
         obtain ⟨x,h1,h2⟩:=rx (enc:=enc) (P:=P) (w:=w) (base:=0) (held:=held) (n:=len) (C:=fun j i=>(w.cell? ⟨b,off+(j*yj ks+i),none⟩).getD default) (l:=ks) 0 (fun j hj i k hk=>by
          obtain ⟨c,h3,h4⟩:=cell j hj i k hk
          rw [hadd] at h3
          simpa [h3] using h4)
         refine ⟨(len,x),some ⟨b,off,0⟩,⟨Nat.le_trans hl hcap,h1⟩,fun σ hσ=> ?_,fun p hp=> ?_⟩
         · subst e0
           exact .loose _ _ _ _ hl fun _=>⟨_,hσ,by simp [PA.at,z9]⟩
         · simp only [AK.lvl,List.mem_singleton] at hp
           subst hp
           refine ⟨rfl,rfl,rfl,fun rb hrb=> ?_⟩
           cases hrb
           refine ⟨hbz,fun j i c hj hi=> ?_⟩
           have hil:=wN hi
           rw [uV] at hil
           obtain ⟨ki,hki⟩: ∃ ki,ks[i]? =some ki:=⟨_,List.getElem?_eq_getElem (by rw [← lenks]; exact hil)⟩
           obtain ⟨y,h3,_⟩:=cell j hj i ki hki
           rw [hadd] at h3
           have:=h2 j hj i c hi (fun _=>none)
           rw [Nat.zero_add,h3] at this
           rw [uV]
           exact ⟨y,h3,this⟩
     · cases ha
   · cases ha
def Opd (w:World) (l:Lvl) (lo hi:Nat) (σ:Nat→Option RB):Prop:=lo≤hi∧ ∀ p ∈ l,lo≤p.1∧p.1<hi∧p.2.1=false∧ ∀ rb,σ p.1=some rb→rb.blk<w.heap.size∧BlkR (fun _=>none) w rb p.2.2
theorem uN (a:AK) (n:Nat):n≤a.next n:=by cases a<;>simp [AK.next]
theorem wF: ∀ (l:List AK) (n:Nat),n≤xW l n
  | [],n=>Nat.le_refl _
  |a::l,n=>Nat.le_trans (uN a n) (wF l _)
theorem jw {n :Nat}: ∀ {cks:List CK} {al:List AK} {cs:List Value},rU P n cks=some al→CKs (wK enc P w 0 held) cks cs→ ∀ nm,∃ (x:AsI al) (ρ:Nat→Option RB),qk al x∧
 (∀ σ:Sg,(∀ k,nm≤k→k<xW al nm→σ k=ρ k)→VRs σ (qP al x nm) cs)∧Opd w (tW al x nm) nm (xW al nm) ρ
 | [],al,cs,h,hc,nm=>by
  cases h
  cases hc
  exact ⟨(),fun _=>none,trivial,fun σ _=> .nil,Nat.le_refl _,fun p hp=>by cases hp⟩
 | ck :: l, al,cs,h,hc,nm=>by
  simp only [rU] at h
  split at h
  · rename_i a m h1 h2
    cases h
    cases hc with
    | cons hcell hl=>
     obtain ⟨x,o,a1,a2,a3⟩:=g7 h1 hcell nm
     obtain ⟨y,ρ,b1,b2,b3,b4⟩:=jw h2 hl (a.next nm)
     have hle:=uN a nm
     have hle2:=wF m (a.next nm)
     refine ⟨(x,y),fun k=>if k<a.next nm then o else ρ k,⟨a1,b1⟩,fun σ hσ=> .cons _ _ _ _ ?_ (b2 σ fun k h3 h4=> ?_),Nat.le_trans hle hle2,fun p hp=> ?_⟩
     · by_cases hn:a.next nm=nm
       · cases a with
         |plain k=>
          have e: ∀ σ:Sg,VR (fun q=>if q=nm then o else σ q) (AK.pv (.plain k) x nm) _:=fun σ=>a2 _ (by simp)
          have:=e σ
          cases k<;>cases this<;>constructor
         |list ks=>simp [AK.next] at hn
         |own ks=>simp [AK.next] at hn
         |cell ks=>simp [AK.next] at hn
         |win ks=>simp [AK.next] at hn
       · exact a2 σ (by rw [hσ nm (Nat.le_refl _) (by show nm<xW m (a.next nm); omega)]; exact if_pos (by omega))
     · rw [hσ k (by omega) h4]; exact if_neg (by omega)
     · simp only [tW] at hp
       rcases List.mem_append.1 hp with hp|hp
       · obtain ⟨q1,q2,q3,q4⟩:=a3 p hp
         refine ⟨by omega,by show p.1<xW m (a.next nm); omega,q3,fun rb hrb=>q4 rb ?_⟩
         rw [← hrb]; exact (if_pos (by omega)).symm
       · obtain ⟨q1,q2,q3,q4⟩:=b4 p hp
         refine ⟨by omega,q2,q3,fun rb hrb=>q4 rb ?_⟩
         rw [← hrb]; exact (if_neg (by omega)).symm
  · cases h
inductive Sh where
 |one (a:AK)
 |agg (l:List AK)
 |fn (g:Nat) (l:List AK)
def Sh.I:Sh→Type
  | .one a=>a.I
  | .agg l=>AsI l
  | .fn _ l=>AsI l
def Sh.pv:(s:Sh)→s.I→Nat→PV
  | .one a,x,nm=>a.pv x nm
  | .agg l,x,nm=> .agg (qP l x nm)
  | .fn g l,x,nm=> .fn (.func g) [] (qP l x nm)
def Sh.next:Sh→Nat→Nat
  | .one a,n=>a.next n
  | .agg l,n=>xW l n
  | .fn _ l,n=>xW l n
def Sh.fits:(s:Sh)→s.I→Prop
  | .one a,x=>a.fits x
  | .agg l,x=>qk l x
  | .fn _ l,x=>qk l x
def Sh.lvl:(s:Sh)→s.I→Nat→Lvl
  | .one a,x,nm=>a.lvl x nm
  | .agg l,x,nm=>tW l x nm
  | .fn _ l,x,nm=>tW l x nm
def SsI:List Sh→Type
  | []=>Unit
  |s::l=>s.I×SsI l
def pY:(l:List Sh)→SsI l→Nat→List PV
  | [],_,_=> []
  |s::l,(x,y),nm=>s.pv x nm::pY l y (s.next nm)
def xI:List Sh→Nat→Nat
  | [],n=>n
  |s::l,n=>xI l (s.next n)
def sQ:(l:List Sh)→SsI l→Prop
  | [],_=>True
  |s::l,(x,y)=>s.fits x∧sQ l y
def vJ:(l:List Sh)→SsI l→Nat→Lvl
  | [],_,_=> []
  |s::l,(x,y),nm=>s.lvl x nm++vJ l y (s.next nm)
def kN (P:Program) (n:Nat) (t:TypeId):Option Sh:=match qN P n t with
 |some l=>match isAgg P t,l with
  |true,l=>some (.agg l)
  |false,[a]=>some (.one a)
  |false,_=>none
 |none=>none
def shsOf (P:Program) (n:Nat):List TypeId→Option (List Sh)
  | []=>some []
  |t::l=>match kN P n t,shsOf P n l with
   |some s,some m=>some (s::m)
   |_,_=>none
theorem tz (s:Sh) (n:Nat):n≤s.next n:=by
 cases s with
 |one a=>exact uN a n
 |agg l=>exact wF l n
 |fn g l=>exact wF l n
theorem vU: ∀ (l:List Sh) (n:Nat),n≤xI l n
  | [],n=>Nat.le_refl _
  |a::l,n=>Nat.le_trans (tz a n) (vU l _)
theorem rY {r:Reach} {b0:Nat} {t:TypeId} {v:Value} (ha:isAgg P t=true) (hv:Value.okWide P w r b0 t v): ∃ cs,v= .agg cs:=by
 unfold isAgg at ha
 unfold Value.okWide at hv
 split at ha
 · rename_i hu; rw [hu] at hv; exact ⟨_,hv.choose_spec.1⟩
 · rename_i hu; rw [hu] at hv; exact ⟨_,hv.choose_spec.1⟩
 · cases ha
theorem gg {n:Nat} {t:TypeId} {s:Sh} (hs:kN P n t=some s) {r:Reach} {b0:Nat} {v:Value} (hv:Value.okWide P w r b0 t v) {d:DataW H} {p:List MemPlace} (h:DataW.Trod enc P w 0 (fun _=>true) held t v d p) (hone:isAgg P t=false→v.cells= #[v]) (nm:Nat):
    ∃ (x:s.I) (ρ:Nat→Option RB),s.fits x∧(∀ σ:Sg,(∀ k,nm≤k→k<s.next nm→σ k=ρ k)→VR σ (s.pv x nm) v)∧Opd w (s.lvl x nm) nm (s.next nm) ρ:=by
  obtain ⟨fuel,hf⟩:=h
  unfold kN qN at hs
  split at hs
  · rename_i l hl
    split at hl
    · rename_i cs hcs
      have hc:=oY hcs hf
      obtain ⟨x,ρ,h1,h2,h3⟩:=jw hl hc nm
      split at hs
      · rename_i l' ha
        cases hs
        obtain ⟨c,rfl⟩:=rY ha hv
        exact ⟨x,ρ,h1,fun σ hσ=> .agg _ _ (h2 σ hσ),h3⟩
      · rename_i a ha
        cases hs
        obtain ⟨x,u⟩:=x
        have hv1:=hone ha
        refine ⟨x,ρ,h1.1,fun σ hσ=> ?_,by simpa [tW,Sh.lvl,xW,Sh.next] using h3⟩
        have:=h2 σ hσ
        rw [hv1] at this
        cases this with
        |cons _ _ _ _ h4 _=>exact h4
      · cases hs
    · cases hl
  · cases hs
theorem iI {n:Nat} {r:Reach} {b0:Nat}: ∀ {ts:List TypeId} {ss:List Sh} {vs:List Value} {ds:List (DataW H)} {ps:List MemPlace},shsOf P n ts=some ss→DataW.TrodAll enc P w 0 (fun _=>true) held ts vs ds ps→
 (∀ (j:Nat) t v,ts[j]? =some t→vs[j]? =some v→Value.okWide P w r b0 t v∧(isAgg P t=false→v.cells= #[v]))→ ∀ nm,∃ (x:SsI ss) (ρ:Nat→Option RB),sQ ss x∧
 (∀ σ:Sg,(∀ k,nm≤k→k<xI ss nm→σ k=ρ k)→VRs σ (pY ss x nm) vs)∧Opd w (vJ ss x nm) nm (xI ss nm) ρ
 | [],ss,[],[],ps,h,hA,hv,nm=>by
  cases h
  exact ⟨(),fun _=>none,trivial,fun σ _=> .nil,Nat.le_refl _,fun p hp=>by cases hp⟩
 | t :: ts,ss,v::vs,d::ds,ps,h,hA,hv,nm=>by
  obtain ⟨p,q,hT,hA,_⟩:=hA
  simp only [shsOf] at h
  split at h
  · rename_i s m h1 h2
    cases h
    obtain ⟨x,ρ1,a1,a2,a3,a4⟩:=gg h1 (hv 0 t v rfl rfl).1 hT (hv 0 t v rfl rfl).2 nm
    obtain ⟨y,ρ2,b1,b2,b3,b4⟩:=iI h2 hA (fun j t v e1 e2=>hv (j+1) t v (by simpa using e1) (by simpa using e2)) (s.next nm)
    have hle:=tz s nm
    have hle2:=vU m (s.next nm)
    refine ⟨(x,y),fun k=>if k<s.next nm then ρ1 k else ρ2 k,⟨a1,b1⟩,fun σ hσ=> .cons _ _ _ _ (a2 σ fun k h3 h4=> ?_) (b2 σ fun k h3 h4=> ?_),Nat.le_trans hle hle2,fun p hp=> ?_⟩
    · rw [hσ k h3 (by show k<xI m (s.next nm); omega)]; exact if_pos h4
    · rw [hσ k (by omega) h4]; exact if_neg (by omega)
    · simp only [vJ] at hp
      rcases List.mem_append.1 hp with hp|hp
      · obtain ⟨q1,q2,q3,q4⟩:=a4 p hp
        refine ⟨q1,by show p.1<xI m (s.next nm); omega,q3,fun rb hrb=>q4 rb ?_⟩
        rw [← hrb]; exact (if_pos (by omega)).symm
      · obtain ⟨q1,q2,q3,q4⟩:=b4 p hp
        refine ⟨by omega,q2,q3,fun rb hrb=>q4 rb ?_⟩
        rw [← hrb]; exact (if_neg (by omega)).symm
  · cases h
 | [],_,_::_,_,_,_,hA,_,_=>hA.elim
 | [],_,[],_::_,_,_,hA,_,_=>hA.elim
 |_::_,_,[],_,_,_,hA,_,_=>hA.elim
 |_::_,_,_::_,[],_,_,hA,_,_=>hA.elim
end
end Go.Ev
namespace Go.Ev
open Go.RowKit
def AK.J:AK→Type
  | .plain k=>k.I
  | .list ks=>Nat×Nat×Nat×CsI ks
  | .own ks=>Nat×Nat×CsI ks
  | .cell ks=>CeI ks
  | .win ks=>Nat×Nat×Nat×CsI ks
def AK.pj:(a:AK)→a.J→Nat→PV
  | .plain k,x,_=>k.v x
  | .list ks,(ix,n,_,_),nm=> .loose ⟨nm,yj ks,ix,0⟩ n
  | .own ks,(n,_,_),nm=> .own nm (yj ks) n
  | .cell ks,_,nm=> .ptr ⟨nm,0,0,0⟩
  | .win ks,(ix,n,_,_),nm=> .loose ⟨nm,yj ks,ix,0⟩ n
def AK.lj:(a:AK)→a.J→Nat→Lvl
  | .plain _,_,_=> []
  | .list ks,(_,_,m,c),nm=> [(nm,(false,.cols m (csC ks c)))]
  | .own ks,(n,_,c),nm=> [(nm,(true,.cols n (csC ks c)))]
  | .cell ks,x,nm=> [(nm,(false,.cells (ceP ks x)))]
  | .win ks,(_,_,m,c),nm=> [(nm,(true,.cols m (csC ks c)))]
def AK.o:AK→Nat→List Nat
  | .own _,nm=> [nm]
  | .win _,nm=> [nm]
  |_,_=> []
def AK.lo':(a:AK)→a.J→(Nat→Blk)→Nat→Lvl
  | .own _,_,g,nm=> [(nm,(true,g nm))]
  | .win _,_,g,nm=> [(nm,(true,g nm))]
  | .plain _,_,_,_=> []
  | .list ks,(_,_,m,c),_,nm=> [(nm,(false,.cols m (csC ks c)))]
  | .cell ks,x,_,nm=> [(nm,(false,.cells (ceP ks x)))]
def AK.le:(a:AK)→a.J→Bool
  | .own _,(n,m,_)=>decide (n≤m)
  |_,_=>true
def AsJ:List AK→Type
  | []=>Unit
  |a::l=>a.J×AsJ l
def mE:(l:List AK)→AsJ l→Nat→List PV
  | [],_,_=> []
  |a::l,(x,y),nm=>a.pj x nm::mE l y (a.next nm)
def rr:(l:List AK)→AsJ l→Nat→Lvl
  | [],_,_=> []
  |a::l,(x,y),nm=>a.lj x nm++rr l y (a.next nm)
def asO:List AK→Nat→List Nat
  | [],_=> []
  |a::l,nm=>a.o nm++asO l (a.next nm)
def kD:(l:List AK)→AsJ l→(Nat→Blk)→Nat→Lvl
  | [],_,_,_=> []
  |a::l,(x,y),g,nm=>a.lo' x g nm++kD l y g (a.next nm)
def pl:(l:List AK)→AsJ l→Bool
  | [],_=>true
  |a::l,(x,y)=>a.le x&&pl l y
def Sh.J:Sh→Type
  | .one a=>a.J
  | .agg l=>AsJ l
  | .fn _ l=>AsJ l
def Sh.pj:(s:Sh)→s.J→Nat→PV
  | .one a,x,nm=>a.pj x nm
  | .agg l,x,nm=> .agg (mE l x nm)
  | .fn g l,x,nm=> .fn (.func g) [] (mE l x nm)
def Sh.lj:(s:Sh)→s.J→Nat→Lvl
  | .one a,x,nm=>a.lj x nm
  | .agg l,x,nm=>rr l x nm
  | .fn _ l,x,nm=>rr l x nm
def Sh.o:Sh→Nat→List Nat
  | .one a,nm=>a.o nm
  | .agg l,nm=>asO l nm
  | .fn _ l,nm=>asO l nm
def Sh.lo':(s:Sh)→s.J→(Nat→Blk)→Nat→Lvl
  | .one a,x,g,nm=>a.lo' x g nm
  | .agg l,x,g,nm=>kD l x g nm
  | .fn _ l,x,g,nm=>kD l x g nm
def Sh.le:(s:Sh)→s.J→Bool
  | .one a,x=>a.le x
  | .agg l,x=>pl l x
  | .fn _ l,x=>pl l x
def SsJ:List Sh→Type
  | []=>Unit
  |s::l=>s.J×SsJ l
def lK:(l:List Sh)→SsJ l→Nat→List PV
  | [],_,_=> []
  |s::l,(x,y),nm=>s.pj x nm::lK l y (s.next nm)
def uz:(l:List Sh)→SsJ l→Nat→Lvl
  | [],_,_=> []
  |s::l,(x,y),nm=>s.lj x nm++uz l y (s.next nm)
def ssO:List Sh→Nat→List Nat
  | [],_=> []
  |s::l,nm=>s.o nm++ssO l (s.next nm)
def jr:(l:List Sh)→SsJ l→(Nat→Blk)→Nat→Lvl
  | [],_,_,_=> []
  |s::l,(x,y),g,nm=>s.lo' x g nm++jr l y g (s.next nm)
def kp:(l:List Sh)→SsJ l→Bool
  | [],_=>true
  |s::l,(x,y)=>s.le x&&kp l y
def rdK:(k:Kd)→PV→Option k.I
  | .int k,.int k' z=>match keq k k' with
   |true=>some z
   |false=>none
  | .bool,.bool b=>some b
  | .bool,.tf b=>some b
  | .str,.str s=>some s
  |_,_=>none
def rdC:(k:Kd)→Col→Option (Nat→k.I)
  | .int k,.int k' f=>match keq k k' with
   |true=>some f
   |false=>none
  | .bool,.bool f=>some f
  | .str,.str f=>some f
  |_,_=>none
def mF:(l:List Kd)→List Col→Option (CsI l)
  | [],[]=>some ()
  |k::l,c::cs=>match rdC k c,mF l cs with
   |some f,some x=>some (f,x)
   |_,_=>none
  |_,_=>none
def tN:(l:List Kd)→CsI l
  | []=>()
  |k::l=>(fun _=>k.dflt,tN l)
def jE {α:Type}:List α→Nat
  | []=>0
  |_::l=>jE l+1
theorem nK {α:Type}: ∀ l:List α,jE l=l.length
  | []=>rfl
  |_::l=>by simp [jE,nK l]
def S.lit {α:Type} (l:List α) (d:α) (j:Nat):α:=l.getD j d
def qr:(ks:List Kd)→List PV→Option (CeI ks×List PV)
  | [],l=>some ((),l)
  |k::ks,v::l=>match rdK k v,qr ks l with
   |some x,some (y,r)=>some ((x,y),r)
   |_,_=>none
  |_::_,[]=>none
def sj (ks:List Kd):Nat→List PV→Option (List (CeI ks))
  |0,[]=>some []
  |0,_::_=>none
  | n +1,l=>match qr ks l with
   |some (x,r)=>match sj ks n r with
    |some xs=>some (x::xs)
    |none=>none
   |none=>none
def w9:(ks:List Kd)→List (CeI ks)→CsI ks
  | [],_=>()
  |k::ks,rows=>(fun j=>S.lit (rows.map (·.1)) k.dflt j,w9 ks (rows.map (·.2)))
def gi:Nat→Nat→Nat→Nat
  |0,_,_=>0
  |f+1,a,b=>match Nat.ble b a with
   |true=>gi f (a-b) b+1
   |false=>0
def rdL (H:zQ) (ks:List Kd) (a:PA) (n:Nat):Option ((Nat×Nat×Nat×CsI ks)×List Nat):=match Nat.beq a.st (yj ks),Nat.beq a.off 0,hget H a.nm with
 |true,true,some (_,.cols m cs)=>match mF ks cs with
  |some c=>some ((a.ix,n,m,c),[a.nm])
  |none=>none
 |true,true,some (_,.cells cs)=>match Nat.beq a.ix 0,sj ks (gi (len cs) (len cs) (yj ks)) cs with
  |true,some rows=>some ((0,n,jE rows,w9 ks rows),[a.nm])
  |_,_=>none
 |_,_,_=>none
def rdO (H:zQ) (ks:List Kd) (nm st n:Nat):Option ((Nat×Nat×CsI ks)×List Nat):=match Nat.beq st (yj ks),hget H nm with
 |true,some (true,.cols m cs)=>match mF ks cs with
  |some c=>some ((n,m,c),[nm])
  |none=>none
 |_,_=>none
def rdW (H:zQ) (ks:List Kd) (a:PA) (n:Nat):Option ((Nat×Nat×Nat×CsI ks)×List Nat):=match Nat.beq a.st (yj ks),Nat.beq a.off 0,hget H a.nm with
 |true,true,some (true,.cols m cs)=>match mF ks cs with
  |some c=>some ((a.ix,n,m,c),[a.nm])
  |none=>none
 |_,_,_=>none
def ii (H:zQ) (z:Nat) (ks:List Kd):PV→Option ((Nat×Nat×CsI ks)×List Nat)
  | .own nm st n=>rdO H ks nm st n
  | .nils=>some ((0,0,tN ks),[z])
  | .emp=>some ((0,0,tN ks),[z])
  |_=>none
def rdE:(l:List Kd)→List PV→Option (CeI l)
  | [],[]=>some ()
  |k::l,v::vs=>match rdK k v,rdE l vs with
   |some x,some y=>some (x,y)
   |_,_=>none
  |_,_=>none
def rdP (H:zQ) (ks:List Kd):PV→Option (CeI ks×List Nat)
  | .ptr a=>match Nat.beq (pos a) 0,hget H a.nm with
   |true,some (_,.cells cs)=>match rdE ks cs with
    |some x=>some (x,[a.nm])
    |none=>none
   |_,_=>none
  |_=>none
def rdA (H:zQ) (z:Nat):(a:AK)→PV→Option (a.J×List Nat)
  | .own ks,v=>ii H z ks v
  | .cell ks,v=>rdP H ks v
  | .win ks,v=>match y9 v with
   |some (a,n)=>rdW H ks a n
   |none=>none
  | .plain k,v=>match rdK k v with
   |some x=>some (x,[])
   |none=>none
  | .list ks,.nils=>some ((0,0,0,tN ks),[z])
  | .list ks,.emp=>some ((0,0,0,tN ks),[z])
  | .list ks,v=>match y9 v with
   |some (a,n)=>rdL H ks a n
   |none=>none
def nc (H:zQ) (z:Nat):(l:List AK)→List PV→Option (AsJ l×List Nat)
  | [],[]=>some ((),[])
  |a::l,v::vs=>match rdA H z a v,nc H z l vs with
   |some (x,ns),some (y,ms)=>some ((x,y),ns++ms)
   |_,_=>none
  |_,_=>none
def lF:PV→Option (List PV)
  | .agg l=>some l
  |_=>none
theorem l8 {v:PV} {l:List PV} (h:lF v=some l):v= .agg l:=by
 cases v<;>simp only [lF,reduceCtorEq,Option.some.injEq] at h
 rw [h]
def km (g:Nat):PV→Option (List PV)
  | .fn (.func f) [] b=>match Nat.beq f g with
   |true=>some b
   |false=>none
  |_=>none
theorem mZ {g:Nat} {v:PV} {l:List PV} (h:km g v=some l):v= .fn (.func g) [] l:=by
 unfold km at h
 split at h
 · split at h
   · rename_i hb
     cases Nat.eq_of_beq_eq_true hb
     cases h
     rfl
   · cases h
 · cases h
def rdS (H:zQ) (z:Nat):(s:Sh)→PV→Option (s.J×List Nat)
  | .fn g l,v=>match km g v with
   |some vs=>nc H z l vs
   |none=>none
  | .one a,v=>rdA H z a v
  | .agg l,v=>match lF v with
   |some vs=>nc H z l vs
   |none=>none
def n8 (H:zQ) (z:Nat):(l:List Sh)→List PV→Option (SsJ l×List Nat)
  | [],[]=>some ((),[])
  |s::l,v::vs=>match rdS H z s v,n8 H z l vs with
   |some (x,ns),some (y,ms)=>some ((x,y),ns++ms)
   |_,_=>none
  |_,_=>none
section
variable {r:Mp}
def Rd (r:Mp) (ns:List Nat) (nm:Nat):Prop:= ∀ i k,ns[i]? =some k→r.use (nm+i)∧r.nm (nm+i)=k
theorem Rd.left {ns ms:List Nat} {nm:Nat} (h:Rd r (ns++ms) nm):Rd r ns nm:=fun i k hi=>h i k (by rw [List.getElem?_append_left (List.getElem?_eq_some_iff.1 hi).1]; exact hi)
theorem Rd.right {ns ms:List Nat} {nm:Nat} (h:Rd r (ns++ms) nm):Rd r ms (nm+ns.length):=fun i k hi=>by
 have:=h (ns.length+i) k (by rw [List.getElem?_append_right (by omega)]; simpa using hi)
 rwa [← Nat.add_assoc] at this
theorem pu: ∀ {k:Kd} {v:PV} {x:k.I},rdK k v=some x→Rn r (k.v x) v:=by
 intro k v x h
 cases k<;>cases v<;>simp only [rdK,reduceCtorEq] at h
 · split at h
   · rename_i hk; cases wJ hk; cases h; exact zH rfl
   · cases h
 · cases h; exact zu rfl
 · cases h; exact zR rfl
 · cases h; exact wz rfl
theorem i4 {n:Nat}: ∀ {k:Kd} {c:Col} {f:Nat→k.I},rdC k c=some f→ ∀ j,j<n→Rn r (zy (k.col f) j) (zy c j):=by
 intro k c f h j _
 cases k<;>cases c<;>simp only [rdC,reduceCtorEq] at h
 · split at h
   · rename_i hk; cases wJ hk; cases h; exact zH rfl
   · cases h
 · cases h; exact zu rfl
 · cases h; exact wz rfl
theorem te {n:Nat}: ∀ {l:List Kd} {cs:List Col} {x:CsI l},mF l cs=some x→Rcs r n (csC l x) cs
  | [],[],x,_=>trivial
  | k ::l,c::cs,x,h=>by
   simp only [mF] at h
   split at h
   · rename_i f y h1 h2
     cases h
     exact ⟨i4 h1,te h2⟩
   · cases h
  | [],_::_,_,h=>by cases h
  |_::_,[],_,h=>by cases h
theorem vF {fresh:Nat→Prop} {H':zQ}: ∀ {l m:Lvl},EntL r fresh H' l→EntL r fresh H' m→EntL r fresh H' (l++m)
  | [],m,_,h=>h
  |(n,b,blk)::l,m,h,k=>⟨h.1,vF h.2 k⟩
end
structure rB (H:zQ) (z:Nat) (pv:Nat→List PV) (lv:Nat→Lvl) (next:Nat→Nat) (o:Nat→List Nat) (le:Bool) (vs:List PV) (ns:List Nat):Prop where
 next: ∀ nm,next nm=nm+ns.length
 lt: ∀ k ∈ ns,k=z∨ ∃ e,hget H k=some e
 own: ∀ nm,∀ p ∈ lv nm,(nm≤p.1∧p.1<nm+ns.length)∧(p.2.1=true→p.1 ∈ o nm)
 ok:le=true→ ∀ (r:Mp) (fresh:Nat→Prop) nm,fresh z→Rd r ns nm→Rns r (pv nm) vs∧EntL r fresh H (lv nm)
theorem qw {r:Mp}: ∀ {ks:List Kd} {l rest:List PV} {x:CeI ks},qr ks l=some (x,rest)→ ∃ a,l=a++rest∧a.length=yj ks∧Rns r (ceP ks x) a
  | [],l,rest,x,h=>by simp only [qr,Option.some.injEq] at h; cases h; exact ⟨[],rfl,rfl,trivial⟩
  |k::ks,[],rest,x,h=>by cases h
  | k ::ks,v::l,rest,x,h=>by
   simp only [qr] at h
   split at h
   · rename_i y z r' h1 h2
     simp only [Option.some.injEq,Prod.mk.injEq] at h
     obtain ⟨rfl,rfl⟩:=h
     obtain ⟨a,e1,e2,e3⟩:=qw h2
     exact ⟨v::a,by rw [e1]; rfl,by simp [yj,e2],pu h1,e3⟩
   · cases h
theorem qj: ∀ {a b:List PV} {i:Nat},nth (a++b) i=if i<a.length then nth a i else nth b (i-a.length)
  | [],b,i=>by simp
  |v::a,b,0=>by simp [nth]
  |v::a,b,i+1=>by
   have:=qj (a:=a) (b:=b) (i:=i)
   simp only [List.cons_append,nth,List.length_cons,Nat.add_lt_add_iff_right,Nat.add_sub_add_right]
   exact this
theorem rV {r:Mp} {ks:List Kd}: ∀ {n:Nat} {l:List PV} {rows:List (CeI ks)},sj ks n l=some rows→ ∀ j row,rows[j]? =some row→ ∀ i v,nth (ceP ks row) i=some v→i<yj ks→ ∃ v',nth l (j*yj ks+i)=some v'∧Rn r v v'
  |0,[],rows,h,j,row,hj=>by simp only [sj,Option.some.injEq] at h; subst h; simp at hj
  |0,_::_,rows,h,j,row,hj=>by cases h
  | n + 1,l,rows,h,j,row,hj=>by
   intro i v hi hl
   simp only [sj] at h
   split at h
   · rename_i x rest h1
     split at h
     · rename_i xs h2
       simp only [Option.some.injEq] at h
       subst h
       obtain ⟨a,e1,e2,e3⟩:=qw (r:=r) h1
       subst e1
       cases j with
       |zero=>
        simp only [List.getElem?_cons_zero,Option.some.injEq] at hj
        subst hj
        obtain ⟨v',q1,q2⟩:=e3.nth i v hi
        exact ⟨v',by rw [Nat.zero_mul,Nat.zero_add,qj,if_pos (by omega)]; exact q1,q2⟩
       |succ j=>
        obtain ⟨v',q1,q2⟩:=rV h2 j row (by simpa using hj) i v hi hl
        refine ⟨v',?_,q2⟩
        rw [qj,Nat.succ_mul,if_neg (by omega),e2,show j*yj ks+yj ks+i-yj ks=j*yj ks+i by omega]
        exact q1
     · cases h
   · cases h
theorem tO: ∀ {ks:List Kd} {rows:List (CeI ks)} {j:Nat} {row:CeI ks},rows[j]? =some row→ ∀ i,i<yj ks→nth (ceP ks row) i=some (yR (csC ks (w9 ks rows)) j i)
  | [],rows,j,row,_,i,hi=>by simp [yj] at hi
  |k::ks,rows,j,row,h,0,hi=>by
   simp only [yR,csC,w9,yh,pe]
   show some (k.v row.1)=_
   congr 2
   simp [S.lit,List.getD,h]
  |k::ks,rows,j,row,h,i+1,hi=>by
   have:=tO (ks:=ks) (rows:=rows.map (·.2)) (j:=j) (row:=row.2) (by simp [h]) i (by simpa [yj] using hi)
   simp only [yR,csC,w9,yh]
   simp only [yR] at this
   exact this
theorem ga {H:zQ} {z:Nat} {ks:List Kd} {a:PA} {n:Nat} {v:PV} (hsp:y9 v=some (a,n)) {x:Nat×Nat×Nat×CsI ks} {ns:List Nat} (h:rdL H ks a n=some (x,ns)):rB H z (fun nm=> [AK.pj (.list ks) x nm]) (AK.lj (.list ks) x) (AK.next (.list ks)) (AK.o (.list ks)) true [v] ns:=by
 unfold rdL at h
 split at h
 · rename_i b m cs h1 h2 hh
   split at h
   · rename_i c hc
     simp only [Option.some.injEq,Prod.mk.injEq] at h
     obtain ⟨rfl,rfl⟩:=h
     have e1:=Nat.eq_of_beq_eq_true h1
     have e2:=Nat.eq_of_beq_eq_true h2
     refine ⟨fun nm=>rfl,fun k hk=> .inr ⟨_,by simp at hk; subst hk; exact hh⟩,fun nm p hp=>by simp only [AK.lj,List.mem_singleton] at hp; subst hp; exact ⟨⟨Nat.le_refl _,Nat.lt_succ_self _⟩,fun h=>by cases h⟩,fun _ r fresh nm hz hr=> ?_⟩
     obtain ⟨hu,hn⟩:=hr 0 a.nm rfl
     refine ⟨⟨?_,trivial⟩,⟨.inr ⟨hu,.inl ⟨_,_,by rw [show r.nm nm=a.nm from hn]; exact hh,by simp,by simp,uO (Nat.le_refl _) (te hc)⟩⟩,trivial⟩⟩
     have hp:pos ⟨nm,yj ks,a.ix,0⟩=pos a:=by rw [z9,z9,e1,e2]
     unfold y9 at hsp
     split at hsp<;>simp only [Option.some.injEq,Prod.mk.injEq,reduceCtorEq] at hsp
     · obtain ⟨rfl,rfl⟩:=hsp; exact zM hu hn.symm hp rfl
     · obtain ⟨rfl,rfl⟩:=hsp; exact xe hu hn.symm hp rfl
     · obtain ⟨rfl,rfl⟩:=hsp
       simp only at e1 hn
       subst e1
       exact yQ (a:=⟨nm,yj ks,0,0⟩) hu hn.symm (by simp [z9]) rfl
   · cases h
 · rename_i b cs h1 h2 hh
   split at h
   · rename_i rows h3 hc
     simp only [Option.some.injEq,Prod.mk.injEq] at h
     obtain ⟨rfl,rfl⟩:=h
     have e1:=Nat.eq_of_beq_eq_true h1
     have e2:=Nat.eq_of_beq_eq_true h2
     have e3:=Nat.eq_of_beq_eq_true h3
     refine ⟨fun nm=>rfl,fun k hk=> .inr ⟨_,by simp at hk; subst hk; exact hh⟩,fun nm p hp=>by simp only [AK.lj,List.mem_singleton] at hp; subst hp; exact ⟨⟨Nat.le_refl _,Nat.lt_succ_self _⟩,fun h=>by cases h⟩,fun _ r fresh nm hz hr=> ?_⟩
     obtain ⟨hu,hn⟩:=hr 0 a.nm rfl
     refine ⟨⟨?_,trivial⟩,⟨.inr ⟨hu,.inl ⟨_,_,by rw [show r.nm nm=a.nm from hn]; exact hh,by simp,by simp,vx fun j i hj hi=> ?_⟩⟩,trivial⟩⟩
     · have hp:pos ⟨nm,yj ks,0,0⟩=pos a:=by rw [z9,z9,e1,e2,e3]
       unfold y9 at hsp
       split at hsp<;>simp only [Option.some.injEq,Prod.mk.injEq,reduceCtorEq] at hsp
       · obtain ⟨rfl,rfl⟩:=hsp; exact zM hu hn.symm hp rfl
       · obtain ⟨rfl,rfl⟩:=hsp; exact xe hu hn.symm hp rfl
       · obtain ⟨rfl,rfl⟩:=hsp
         simp only at e1 hn
         subst e1
         exact yQ (a:=⟨nm,yj ks,0,0⟩) hu hn.symm (by simp [z9]) rfl
     · rw [uV] at hi ⊢
       rw [nK] at hj
       have hr:=List.getElem?_eq_getElem hj
       obtain ⟨v',q1,q2⟩:=rV (r:=r) hc j _ hr i _ (tO hr i hi) hi
       exact ⟨v',q1,q2⟩
   · cases h
 · cases h
theorem qB {r:Mp} {a:PA}:Rn r (.loose a 0) .emp:=fun σ τ u _ hu=>by cases hu; exact .loose a 0 _ 0 (Nat.le_refl _) (fun h=>by omega)
theorem mt {r:Mp}: ∀ {l:List Kd} {vs:List PV} {x:CeI l},rdE l vs=some x→Rns r (ceP l x) vs
  | [],[],x,_=>trivial
  | k ::l,v::vs,x,h=>by
   simp only [rdE] at h
   split at h
   · rename_i f y h1 h2
     cases h
     exact ⟨pu h1,mt h2⟩
   · cases h
  | [],_::_,_,h=>by cases h
  |_::_,[],_,h=>by cases h
theorem je {H:zQ} {z:Nat} {ks:List Kd} {v:PV} {x:Nat×Nat×CsI ks} {ns:List Nat} (h:ii H z ks v=some (x,ns)):rB H z (fun nm=> [AK.pj (.own ks) x nm]) (AK.lj (.own ks) x) (AK.next (.own ks)) (AK.o (.own ks)) (AK.le (.own ks) x) [v] ns:=by
 have ow: ∀ {ns:List Nat},ns.length=1→ ∀ nm,∀ p ∈ AK.lj (.own ks) x nm,(nm≤p.1∧p.1<nm+ns.length)∧(p.2.1=true→p.1 ∈ AK.o (.own ks) nm):=fun hl nm p hp=>by
  obtain ⟨n,m,c⟩:=x
  simp only [AK.lj,List.mem_singleton] at hp
  subst hp
  exact ⟨⟨Nat.le_refl _,by rw [hl]; exact Nat.lt_succ_self _⟩,fun _=>by simp [AK.o]⟩
 have nilcase: ∀ {v:PV},(∀ r nm,Rn r (.own nm (yj ks) 0) v)→x=(0,0,tN ks)→ns= [z]→rB H z (fun nm=> [AK.pj (.own ks) x nm]) (AK.lj (.own ks) x) (AK.next (.own ks)) (AK.o (.own ks)) (AK.le (.own ks) x) [v] ns:=fun hv e1 e2=>by
  subst e2
  refine ⟨fun nm=>rfl,fun k hk=> .inl (by simpa using hk),ow rfl,fun _ r fresh nm hz hr=> ?_⟩
  subst e1
  obtain ⟨hu,hn⟩:=hr 0 z rfl
  exact ⟨⟨hv _ _,trivial⟩,⟨.inr ⟨hu,.inr (by rw [show r.nm nm=z from hn]; exact hz)⟩,trivial⟩⟩
 cases v<;>simp only [ii,reduceCtorEq,Option.some.injEq,Prod.mk.injEq] at h
 · exact nilcase (fun r nm=>zT rfl) h.1.symm h.2.symm
 · exact nilcase (fun r nm=>oP rfl) h.1.symm h.2.symm
 · rename_i nm0 st n
   unfold rdO at h
   split at h
   · rename_i m cs h1 hh
     split at h
     · rename_i c hc
       simp only [Option.some.injEq,Prod.mk.injEq] at h
       obtain ⟨rfl,rfl⟩:=h
       have e1:=Nat.eq_of_beq_eq_true h1
       subst e1
       refine ⟨fun nm=>rfl,fun k hk=> .inr ⟨_,by simp at hk; subst hk; exact hh⟩,ow rfl,fun hle r fresh nm hz hr=> ?_⟩
       obtain ⟨hu,hn⟩:=hr 0 nm0 rfl
       refine ⟨⟨zZ hu hn.symm rfl,trivial⟩,⟨.inr ⟨hu,.inl ⟨_,_,by rw [show r.nm nm=nm0 from hn]; exact hh,by simp,by simp,uO (of_decide_eq_true hle) (te hc)⟩⟩,trivial⟩⟩
     · cases h
   · cases h
theorem gD {H:zQ} {z:Nat} {ks:List Kd} {v:PV} {x:CeI ks} {ns:List Nat} (h:rdP H ks v=some (x,ns)):rB H z (fun nm=> [AK.pj (.cell ks) x nm]) (AK.lj (.cell ks) x) (AK.next (.cell ks)) (AK.o (.cell ks)) true [v] ns:=by
 cases v<;>simp only [rdP,reduceCtorEq] at h
 rename_i a
 split at h
 · rename_i b cs h1 hh
   split at h
   · rename_i y hy
     simp only [Option.some.injEq,Prod.mk.injEq] at h
     obtain ⟨rfl,rfl⟩:=h
     have e1:=Nat.eq_of_beq_eq_true h1
     refine ⟨fun nm=>rfl,fun k hk=> .inr ⟨_,by simp at hk; subst hk; exact hh⟩,fun nm p hp=>by simp only [AK.lj,List.mem_singleton] at hp; subst hp; exact ⟨⟨Nat.le_refl _,Nat.lt_succ_self _⟩,fun h=>by cases h⟩,fun _ r fresh nm hz hr=> ?_⟩
     obtain ⟨hu,hn⟩:=hr 0 a.nm rfl
     exact ⟨⟨yG hu hn.symm (by rw [e1]; rfl),trivial⟩,⟨.inr ⟨hu,.inl ⟨_,_,by rw [show r.nm nm=a.nm from hn]; exact hh,by simp,by simp,zt (mt hy)⟩⟩,trivial⟩⟩
   · cases h
 · cases h
theorem iU {H:zQ} {z:Nat} {ks:List Kd} {a:PA} {n:Nat} {v:PV} (hsp:y9 v=some (a,n)) {x:Nat×Nat×Nat×CsI ks} {ns:List Nat} (h:rdW H ks a n=some (x,ns)):rB H z (fun nm=> [AK.pj (.win ks) x nm]) (AK.lj (.win ks) x) (AK.next (.win ks)) (AK.o (.win ks)) true [v] ns:=by
 unfold rdW at h
 split at h
 · rename_i m cs h1 h2 hh
   split at h
   · rename_i c hc
     simp only [Option.some.injEq,Prod.mk.injEq] at h
     obtain ⟨rfl,rfl⟩:=h
     have e1:=Nat.eq_of_beq_eq_true h1
     have e2:=Nat.eq_of_beq_eq_true h2
     refine ⟨fun nm=>rfl,fun k hk=> .inr ⟨_,by simp at hk; subst hk; exact hh⟩,fun nm p hp=>by simp only [AK.lj,List.mem_singleton] at hp; subst hp; exact ⟨⟨Nat.le_refl _,Nat.lt_succ_self _⟩,fun _=>by simp [AK.o]⟩,fun _ r fresh nm hz hr=> ?_⟩
     obtain ⟨hu,hn⟩:=hr 0 a.nm rfl
     refine ⟨⟨?_,trivial⟩,⟨.inr ⟨hu,.inl ⟨_,_,by rw [show r.nm nm=a.nm from hn]; exact hh,by simp,by simp,uO (Nat.le_refl _) (te hc)⟩⟩,trivial⟩⟩
     have hp:pos ⟨nm,yj ks,a.ix,0⟩=pos a:=by rw [z9,z9,e1,e2]
     unfold y9 at hsp
     split at hsp<;>simp only [Option.some.injEq,Prod.mk.injEq,reduceCtorEq] at hsp
     · obtain ⟨rfl,rfl⟩:=hsp; exact zM hu hn.symm hp rfl
     · obtain ⟨rfl,rfl⟩:=hsp; exact xe hu hn.symm hp rfl
     · obtain ⟨rfl,rfl⟩:=hsp
       simp only at e1 hn
       subst e1
       exact yQ (a:=⟨nm,yj ks,0,0⟩) hu hn.symm (by simp [z9]) rfl
   · cases h
 · cases h
theorem mb {H:zQ} {z:Nat}: ∀ {a:AK} {v:PV} {x:a.J} {ns:List Nat},rdA H z a v=some (x,ns)→rB H z (fun nm=> [a.pj x nm]) (a.lj x) a.next a.o (a.le x) [v] ns:=by
 intro a v x ns h
 have nilcase: ∀ {ks:List Kd} {v:PV},(∀ r nm,Rn r (.loose ⟨nm,yj ks,0,0⟩ 0) v)→rB H z (fun nm=> [AK.pj (.list ks) (0,0,0,tN ks) nm]) (AK.lj (.list ks) (0,0,0,tN ks)) (AK.next (.list ks)) (AK.o (.list ks)) true [v] [z]:=fun hv=>
  ⟨fun nm=>rfl,fun k hk=> .inl (by simpa using hk),fun nm p hp=>by simp only [AK.lj,List.mem_singleton] at hp; subst hp; exact ⟨⟨Nat.le_refl _,Nat.lt_succ_self _⟩,fun h=>by cases h⟩,fun _ r fresh nm hz hr=>by
   obtain ⟨hu,hn⟩:=hr 0 z rfl
   exact ⟨⟨hv _ _,trivial⟩,⟨.inr ⟨hu,.inr (by rw [show r.nm nm=z from hn]; exact hz)⟩,trivial⟩⟩⟩
 cases a with
 |own ks=>exact je h
 |cell ks=>exact gD h
 |win ks=>
  simp only [rdA] at h
  split at h
  · rename_i hsp; exact iU hsp h
  · cases h
 | plain k=>
  simp only [rdA] at h
  split at h
  · rename_i y hy
    simp only [Option.some.injEq,Prod.mk.injEq] at h
    obtain ⟨rfl,rfl⟩:=h
    exact ⟨fun nm=>rfl,fun k hk=>(by cases hk),fun nm p hp=>(by cases hp),fun _ r fresh nm hz hr=>⟨⟨pu hy,trivial⟩,trivial⟩⟩
  · cases h
 | list ks=>
  cases v
  case nils=>
   simp only [rdA,Option.some.injEq,Prod.mk.injEq] at h
   obtain ⟨rfl,rfl⟩:=h
   exact nilcase fun r nm=>vz rfl
  case emp=>
   simp only [rdA,Option.some.injEq,Prod.mk.injEq] at h
   obtain ⟨rfl,rfl⟩:=h
   exact nilcase fun r nm=>qB
  all_goals
    simp only [rdA] at h
    split at h
    · rename_i hsp; exact ga hsp h
    · cases h
theorem qg {H:zQ} {z:Nat}: ∀ {l:List AK} {vs:List PV} {x:AsJ l} {ns:List Nat},nc H z l vs=some (x,ns)→rB H z (fun nm=>mE l x nm) (rr l x) (xW l) (asO l) (pl l x) vs ns
  | [],[],x,ns,h=>by
   simp only [nc,Option.some.injEq,Prod.mk.injEq] at h
   obtain ⟨rfl,rfl⟩:=h
   exact ⟨fun nm=>rfl,fun k hk=>(by cases hk),fun nm p hp=>(by cases hp),fun _ r fresh nm hz hr=>⟨trivial,trivial⟩⟩
  | a :: l,v::vs,x,ns,h=>by
   simp only [nc] at h
   split at h
   · rename_i x' ns' y' ms' h1 h2
     simp only [Option.some.injEq,Prod.mk.injEq] at h
     obtain ⟨rfl,rfl⟩:=h
     obtain ⟨p1,p2,p3,p4⟩:=mb h1
     obtain ⟨q1,q2,q3,q4⟩:=qg h2
     refine ⟨fun nm=> ?_,fun k hk=>(List.mem_append.1 hk).elim (p2 k) (q2 k),fun nm p hp=> ?_,fun hle r fresh nm hz hr=> ?_⟩
     · show xW l (a.next nm)=_
       rw [q1,p1,List.length_append,Nat.add_assoc]
     · simp only [rr] at hp
       rw [List.length_append]
       rcases List.mem_append.1 hp with hp|hp
       · obtain ⟨⟨a1,a2⟩,a3⟩:=p3 nm p hp
         exact ⟨⟨a1,by omega⟩,fun h=>List.mem_append.2 (.inl (a3 h))⟩
       · obtain ⟨⟨a1,a2⟩,a3⟩:=q3 (a.next nm) p hp
         rw [p1] at a1 a2
         exact ⟨⟨by omega,by omega⟩,fun h=>List.mem_append.2 (.inr (a3 h))⟩
     · simp only [pl,Bool.and_eq_true] at hle
       obtain ⟨a1,a2⟩:=p4 hle.1 r fresh nm hz hr.left
       obtain ⟨b1,b2⟩:=q4 hle.2 r fresh (a.next nm) hz (by rw [p1]; exact hr.right)
       exact ⟨⟨a1.1,b1⟩,vF a2 b2⟩
   · cases h
  | [],_::_,_,_,h=>by cases h
  |_::_,[],_,_,h=>by cases h
theorem iq {H:zQ} {z:Nat}: ∀ {s:Sh} {v:PV} {x:s.J} {ns:List Nat},rdS H z s v=some (x,ns)→rB H z (fun nm=> [s.pj x nm]) (s.lj x) s.next s.o (s.le x) [v] ns:=by
 intro s v x ns h
 cases s with
 |one a=>exact mb h
 |agg l=>
  simp only [rdS] at h
  split at h
  case h_2=>cases h
  rename_i vs hv
  cases l8 hv
  obtain ⟨p1,p2,p3,p4⟩:=qg h
  exact ⟨p1,p2,p3,fun hle r fresh nm hz hr=>⟨⟨zg (p4 hle r fresh nm hz hr).1,trivial⟩,(p4 hle r fresh nm hz hr).2⟩⟩
 |fn g l=>
  simp only [rdS] at h
  split at h
  case h_2=>cases h
  rename_i vs hv
  cases mZ hv
  obtain ⟨p1,p2,p3,p4⟩:=qg h
  exact ⟨p1,p2,p3,fun hle r fresh nm hz hr=>⟨⟨j6 trivial (p4 hle r fresh nm hz hr).1,trivial⟩,(p4 hle r fresh nm hz hr).2⟩⟩
theorem oZ {H:zQ} {z:Nat}: ∀ {l:List Sh} {vs:List PV} {x:SsJ l} {ns:List Nat},n8 H z l vs=some (x,ns)→rB H z (fun nm=>lK l x nm) (uz l x) (xI l) (ssO l) (kp l x) vs ns
  | [],[],x,ns,h=>by
   simp only [n8,Option.some.injEq,Prod.mk.injEq] at h
   obtain ⟨rfl,rfl⟩:=h
   exact ⟨fun nm=>rfl,fun k hk=>(by cases hk),fun nm p hp=>(by cases hp),fun _ r fresh nm hz hr=>⟨trivial,trivial⟩⟩
  | s :: l,v::vs,x,ns,h=>by
   simp only [n8] at h
   split at h
   · rename_i x' ns' y' ms' h1 h2
     simp only [Option.some.injEq,Prod.mk.injEq] at h
     obtain ⟨rfl,rfl⟩:=h
     obtain ⟨p1,p2,p3,p4⟩:=iq h1
     obtain ⟨q1,q2,q3,q4⟩:=oZ h2
     refine ⟨fun nm=> ?_,fun k hk=>(List.mem_append.1 hk).elim (p2 k) (q2 k),fun nm p hp=> ?_,fun hle r fresh nm hz hr=> ?_⟩
     · show xI l (s.next nm)=_
       rw [q1,p1,List.length_append,Nat.add_assoc]
     · simp only [uz] at hp
       rw [List.length_append]
       rcases List.mem_append.1 hp with hp|hp
       · obtain ⟨⟨a1,a2⟩,a3⟩:=p3 nm p hp
         exact ⟨⟨a1,by omega⟩,fun h=>List.mem_append.2 (.inl (a3 h))⟩
       · obtain ⟨⟨a1,a2⟩,a3⟩:=q3 (s.next nm) p hp
         rw [p1] at a1 a2
         exact ⟨⟨by omega,by omega⟩,fun h=>List.mem_append.2 (.inr (a3 h))⟩
     · simp only [kp,Bool.and_eq_true] at hle
       obtain ⟨a1,a2⟩:=p4 hle.1 r fresh nm hz hr.left
       obtain ⟨b1,b2⟩:=q4 hle.2 r fresh (s.next nm) hz (by rw [p1]; exact hr.right)
       exact ⟨⟨a1.1,b1⟩,vF a2 b2⟩
   · cases h
  | [],_::_,_,_,h=>by cases h
  |_::_,[],_,_,h=>by cases h
def gX (ρ:Nat→Nat) (a:PA):PA:=⟨ρ a.nm,a.st,a.ix,a.off⟩
mutual
def ren (ρ:Nat→Nat):PV→PV
  | .unk=> .unk
  | .bool b=> .bool b
  | .tf b=> .tf b
  | .int k n=> .int k n
  | .str s=> .str s
  | .ptr a=> .ptr (gX ρ a)
  | .nilp=> .nilp
  | .nils=> .nils
  | .emp=> .emp
  | .loose a n=> .loose (gX ρ a) n
  | .sl a n=> .sl (gX ρ a) n
  | .own nm st n=> .own (ρ nm) st n
  | .agg cs=> .agg (rens ρ cs)
  | .tup cs=> .tup (rens ρ cs)
  | .fn f a b=> .fn f (rens ρ a) (rens ρ b)
  | .nilf=> .nilf
  | .ifc t v=> .ifc t (ren ρ v)
  | .nili=> .nili
  | .zer b=> .zer b
def rens (ρ:Nat→Nat):List PV→List PV
  | []=> []
  |v::l=>ren ρ v::rens ρ l
end
mutual
def chk (p:Nat→Bool):PV→Bool
  | .ptr a=>p a.nm
  | .loose a _=>p a.nm
  | .sl a _=>p a.nm
  | .own nm _ _=>p nm
  | .agg cs=>chks p cs
  | .tup cs=>chks p cs
  | .fn _ a b=>chks p a&&chks p b
  | .ifc _ v=>chk p v
  | .unk| .bool _| .tf _| .int _ _| .str _| .nilp| .nils| .emp| .nilf| .nili| .zer _=>true
def chks (p:Nat→Bool):List PV→Bool
  | []=>true
  |v::l=>chk p v&&chks p l
end
theorem gJ {r:Mp} {t:TypeId} {v v':PV} (h:Rn r v v'):Rn r (.ifc t v) (.ifc t v'):=fun σ τ u ht hu=>by cases hu with|ifc _ _ u' h'=>exact .ifc _ _ _ (h σ τ u' ht h')
mutual
theorem oS {r:Mp} {ρ:Nat→Nat} {p:Nat→Bool} (hp: ∀ n,p n=true→r.use (ρ n)∧r.nm (ρ n)=n): ∀ {v:PV},chk p v=true→Rn r (ren ρ v) v
  | .unk,_=>zh _
  | .bool b,_=>zu rfl
  | .tf b,_=>yW rfl
  | .int k n,_=>zH rfl
  | .str s,_=>wz rfl
  | .ptr a,h=>yG (hp _ h).1 (hp _ h).2.symm (by rw [z9,z9]; rfl)
  | .nilp,_=>jN
  | .nils,_=>xw
  | .emp,_=>gU
  | .loose a n,h=>zM (hp _ h).1 (hp _ h).2.symm (by rw [z9,z9]; rfl) rfl
  | .sl a n,h=>g8 (hp _ h).1 (hp _ h).2.symm (by rw [z9,z9]; rfl) rfl
  | .own nm st n,h=>zZ (hp _ h).1 (hp _ h).2.symm rfl
  | .agg cs,h=>zg (rens_ok hp (by simpa only [chk] using h))
  | .tup cs,h=>zm (rens_ok hp (by simpa only [chk] using h))
  | .fn f a b,h=>by
   simp only [chk,Bool.and_eq_true] at h
   exact j6 (rens_ok hp h.1) (rens_ok hp h.2)
  | .nilf,_=>jI
  | .ifc t v,h=>gJ (oS hp (by simpa only [chk] using h))
  | .nili,_=>jo
  | .zer b,_=>fun σ τ u _ hu=>by cases hu; exact .zer _ _ _ ‹_›
theorem rens_ok {r:Mp} {ρ:Nat→Nat} {p:Nat→Bool} (hp: ∀ n,p n=true→r.use (ρ n)∧r.nm (ρ n)=n): ∀ {l:List PV},chks p l=true→Rns r (rens ρ l) l
  | [],_=>trivial
  |v::l,h=>by
   simp only [chks,Bool.and_eq_true] at h
   exact ⟨oS hp h.1,rens_ok hp h.2⟩
end
def yJ:Nat→List Blk→Lvl
  |_,[]=> []
  |n,b::l=>(n,(true,b))::yJ (n+1) l
def ur:List Blk→Nat
  | []=>0
  |_::l=>ur l+1
def r9:List Blk→Bool
  | []=>true
  | .cols _ cs::l=>xh cs&&r9 l
  |_::_=>false
theorem sH: ∀ {bs:List Blk} {lo n:Nat} {e:Bool×Blk},zp (yJ lo bs) n=some e→lo≤n∧n<lo+ur bs∧e.1=true∧bs[n-lo]? =some e.2
  | [],lo,n,e,h=>by cases h
  | b ::l,lo,n,e,h=>by
   simp only [yJ,zp] at h
   split at h
   · rename_i hb
     have:=Nat.eq_of_beq_eq_true hb
     subst this
     cases h
     simp [ur]
   · obtain ⟨h1,h2,h3,h4⟩:=sH h
     refine ⟨by omega,by simp only [ur]; omega,h3,?_⟩
     rw [show n-lo=(n-(lo+1))+1 by omega]
     simpa using h4
theorem nT: ∀ {bs:List Blk} {lo i:Nat} {b:Blk},bs[i]? =some b→zp (yJ lo bs) (lo+i)=some (true,b)
  | [],lo,i,b,h=>by simp at h
  |c::l,lo,0,b,h=>by
   simp only [List.getElem?_cons_zero,Option.some.injEq] at h
   subst h
   simp [yJ,zp]
  | c ::l,lo,i+1,b,h=>by
   have:=nT (lo:=lo+1) (bs:=l) (i:=i) (b:=b) (by simpa using h)
   have hne:Nat.beq lo (lo+(i+1))=false:=by
    cases hb:Nat.beq lo (lo+(i+1))
    · rfl
    · have:=Nat.eq_of_beq_eq_true hb; omega
   simp only [yJ,zp,hne]
   rwa [show lo+(i+1)=lo+1+i by omega]
theorem so: ∀ {bs:List Blk} {i:Nat} {b:Blk},r9 bs=true→bs[i]? =some b→ ∃ n cs,b= .cols n cs∧xh cs=true
  | [],i,b,_,h=>by simp at h
  |c::l,i,b,hp,h=>by
   cases c<;>simp only [r9,Bool.and_eq_true,Bool.false_eq_true] at hp
   cases i with
   |zero=>simp only [List.getElem?_cons_zero,Option.some.injEq] at h; subst h; exact ⟨_,_,rfl,hp.1⟩
   |succ i=>exact so hp.2 (by simpa using h)
theorem sJ: ∀ {bs:List Blk} {lo:Nat},∀ p ∈ yJ lo bs,lo≤p.1∧p.1<lo+ur bs∧p.2.1=true
  | [],lo,p,h=>by cases h
  | b ::l,lo,p,h=>by
   simp only [yJ,List.mem_cons] at h
   rcases h with rfl|h
   · exact ⟨Nat.le_refl _,by simp only [ur]; omega,rfl⟩
   · obtain ⟨h1,h2,h3⟩:=sJ p h
     exact ⟨by omega,by simp only [ur]; omega,h3⟩
structure Con where
 f:Nat
 ss:List Sh
 pre:SsJ ss→Bool
 res:SsJ ss→PV
 new:SsJ ss→List Blk
 own:SsJ ss→Nat→Blk
def Con.lo (c:Con):Nat:=xI c.ss 0
def Con.ok (P:Program) (c:Con):Prop:= ∀ x,c.pre x=true→(∃ hi,c.lo+1+ur (c.new x)≤hi∧zn P c.f (lK c.ss x 0) [uz c.ss x 0] c.lo (c.res x) [yJ (c.lo+1) (c.new x)++jr c.ss x (c.own x) 0] hi)∧
 ∃ F,P.funcs[c.f]? =some F∧F.body.isSome=true∧(F.name== "runtime.NumGoroutine")=false
def xX:List Nat→Nat→Nat
  | [],_=>0
  |n::_,0=>n
  |_::l,i+1=>xX l i
def iQ:List Nat→Nat→Nat
  | [],_=>0
  |m::l,n=>match Nat.beq m n with
   |true=>0
   |false=>iQ l n+1
def rho (ns:List Nat) (lo fr:Nat) (n:Nat):Nat:=match Nat.blt n lo with
 |true=>xX ns n
 |false=>n-lo+fr
def okN (ns:List Nat) (lo fr k:Nat) (n:Nat):Bool:=match Nat.blt n lo with
 |true=>Nat.blt (xX ns n) fr&&Nat.beq (iQ ns (xX ns n)) n
 |false=>Nat.blt lo n&&Nat.ble n (lo+k)
def hadd (l:Lvl):zQ→zQ
  | []=> [l]
  |h::t=>match l with
   | []=>h::t
   |p::q=>((p::q)++h)::t
def tF (v i:Nat):List Nat→Nat→Bool
  | [],_=>true
  | m ::l,j=>match Nat.beq i j with
   |true=>tF v i l (j+1)
   |false=>match Nat.beq m v with
    |true=>false
    |false=>tF v i l (j+1)
def qe (ns:List Nat):List Nat→Bool
  | []=>true
  |i::O=>match tF (xX ns i) i ns 0 with
   |true=>qe ns O
   |false=>false
def ut (g:Nat→Blk):List Nat→Bool
  | []=>true
  |i::O=>match g i with
   | .cols _ cs=>xh cs&&ut g O
   | .dead=>ut g O
   |_=>false
def w7 (ns:List Nat) (fr:Nat) (g:Nat→Blk):List Nat→Lvl
  | []=> []
  |i::O=>match Nat.blt (xX ns i) fr with
   |true=>(xX ns i,(true,g i))::w7 ns fr g O
   |false=>w7 ns fr g O
section
variable (g9:Bool→Prop→Prop→Prop)
def AK.leK:(a:AK)→a.J→Prop→Prop
  | .own _,(n,m,_),K=>g9 (decide (n≤m)) K False
  | .plain _,_,K=>K
  | .list _,_,K=>K
  | .cell _,_,K=>K
  | .win _,_,K=>K
def ob:(l:List AK)→AsJ l→Prop→Prop
  | [],_,K=>K
  |a::l,(x,y),K=>a.leK g9 x (ob l y K)
def Sh.leK:(s:Sh)→s.J→Prop→Prop
  | .one a,x,K=>a.leK g9 x K
  | .agg l,x,K=>ob g9 l x K
  | .fn _ l,x,K=>ob g9 l x K
def o8:(l:List Sh)→SsJ l→Prop→Prop
  | [],_,K=>K
  |s::l,(x,y),K=>s.leK g9 x (o8 l y K)
end
theorem lh {a:AK} {x:a.J} {K:Prop} (h:a.leK cond x K):a.le x=true∧K:=by
 cases a with
 |own ks=>obtain ⟨n,m,c⟩:=x; exact zz h
 |plain k=>exact ⟨rfl,h⟩
 |list ks=>exact ⟨rfl,h⟩
 |cell ks=>exact ⟨rfl,h⟩
 |win ks=>exact ⟨rfl,h⟩
theorem pt: ∀ {l:List AK} {x:AsJ l} {K:Prop},ob cond l x K→pl l x=true∧K
  | [],_,_,h=>⟨rfl,h⟩
  |a::l,(x,y),K,h=>by
   obtain ⟨h1,h⟩:=lh h
   obtain ⟨h2,h⟩:=pt h
   exact ⟨by simp only [pl,h1,h2,Bool.and_self],h⟩
theorem kM: ∀ {l:List Sh} {x:SsJ l} {K:Prop},o8 cond l x K→kp l x=true∧K
  | [],_,_,h=>⟨rfl,h⟩
  | s ::l,(x,y),K,h=>by
   have h1:s.le x=true∧o8 cond l y K:=by
    cases s with
    |one a=>exact lh h
    |agg l=>exact pt h
    |fn g l=>exact pt h
   obtain ⟨h1,h⟩:=h1
   obtain ⟨h2,h⟩:=kM h
   exact ⟨by simp only [kp,h1,h2,Bool.and_self],h⟩
def mv (g9:Bool→Prop→Prop→Prop) (c:Con):Ext:=fun f args H fr K no=>match Nat.beq f c.f with
 |false=>no
 | true=>match n8 H fr c.ss args with
  |none=>no
  |some (x,ns)=>match chk (okN ns c.lo fr (ur (c.new x))) (c.res x),r9 (c.new x),qe ns (ssO c.ss 0)&&ut (c.own x) (ssO c.ss 0) with
   |true,true,true=>o8 g9 c.ss x (g9 (c.pre x) (K (ren (rho ns c.lo fr) (c.res x)) (hadd (yJ (fr+1) (c.new x)++w7 ns fr (c.own x) (ssO c.ss 0)) H) (fr+1+ur (c.new x))) False)
   |_,_,_=>no
def xK (g9:Bool→Prop→Prop→Prop):List Con→Ext
  | []=>noX
  |c::l=>jK (mv g9 c) (xK g9 l)
theorem sq: ∀ {ns:List Nat} {i:Nat},i<ns.length→ns[i]? =some (xX ns i)
  | [],i,h=>by simp at h
  |n::l,0,_=>rfl
  |n::l,i+1,h=>by simpa [xX] using sq (ns:=l) (by simpa using h)
theorem jV (l:Lvl) {H:zQ} (hne:H≠ []): ∃ h t,H=h::t∧hadd l H=(l++h)::t:=by
 cases H with
 |nil=>exact absurd rfl hne
 |cons h t=>exact ⟨h,t,rfl,by cases l<;>rfl⟩
theorem rZ {v i:Nat}: ∀ {ns:List Nat} {j0:Nat},tF v i ns j0=true→ ∀ j,j<ns.length→j0+j≠i→xX ns j≠v
  | [],j0,_,j,hj,_=>by simp at hj
  | m ::l,j0,h,j,hj,hne=>by
   simp only [tF] at h
   have step:tF v i l (j0+1)=true∧(j0=i∨m≠v):=by
    split at h
    · rename_i hb; exact ⟨h,.inl (Nat.eq_of_beq_eq_true hb).symm⟩
    · split at h
      · cases h
      · rename_i hb; exact ⟨h,.inr fun e=>by rw [e,Nat.beq_refl] at hb; cases hb⟩
   cases j with
   |zero=>exact step.2.elim (fun h=>absurd h (by simpa using hne)) id
   |succ j=>exact rZ step.1 j (by simpa using hj) (by omega)
theorem ra {ns:List Nat}: ∀ {O:List Nat},qe ns O=true→ ∀ i ∈ O,∀ j,j<ns.length→j≠i→xX ns j≠xX ns i
  | [],_,i,hi,_,_,_=>by cases hi
  | k ::O,h,i,hi,j,hj,hne=>by
   simp only [qe] at h
   split at h
   · rename_i ha
     rcases List.mem_cons.1 hi with rfl|hi
     · exact rZ ha j hj (by omega)
     · exact ra h i hi j hj hne
   · cases h
theorem ri {g:Nat→Blk}: ∀ {O:List Nat},ut g O=true→ ∀ i ∈ O,g i= .dead∨ ∃ n cs,g i= .cols n cs∧xh cs=true
  | [],_,i,hi=>by cases hi
  | k ::O,h,i,hi=>by
   simp only [ut] at h
   have:ut g O=true∧(g k= .dead∨ ∃ n cs,g k= .cols n cs∧xh cs=true):=by
    split at h
    · rename_i n cs e; simp only [Bool.and_eq_true] at h; exact ⟨h.2,.inr ⟨n,cs,e,h.1⟩⟩
    · rename_i e; exact ⟨h,.inl e⟩
    · cases h
   rcases List.mem_cons.1 hi with rfl|hi
   · exact this.2
   · exact ri this.1 i hi
theorem vj {ns:List Nat} {fr:Nat} {g:Nat→Blk}: ∀ {O:List Nat},∀ p ∈ w7 ns fr g O,∃ i ∈ O,p=(xX ns i,(true,g i))∧xX ns i<fr
  | [],p,hp=>by cases hp
  | k ::O,p,hp=>by
   simp only [w7] at hp
   split at hp
   · rename_i hb
     rcases List.mem_cons.1 hp with rfl|hp
     · exact ⟨k,by simp,rfl,vM hb⟩
     · obtain ⟨i,h1,h2⟩:=vj p hp
       exact ⟨i,by simp [h1],h2⟩
   · obtain ⟨i,h1,h2⟩:=vj p hp
     exact ⟨i,by simp [h1],h2⟩
theorem tC {ns:List Nat} {fr:Nat} {g:Nat→Blk} {i:Nat}: ∀ {O:List Nat},i ∈ O→xX ns i<fr→ ∃ e,zp (w7 ns fr g O) (xX ns i)=some e
  | [],hi,_=>by cases hi
  | k ::O,hi,hl=>by
   simp only [w7]
   split
   · simp only [zp]
     split
     · exact ⟨_,rfl⟩
     · rename_i hb
       rcases List.mem_cons.1 hi with rfl|hi
       · rw [Nat.beq_refl] at hb; cases hb
       · exact tC hi hl
   · rename_i hb
     rcases List.mem_cons.1 hi with rfl|hi
     · rw [show Nat.blt (xX ns i) fr=true by simpa [Nat.blt_eq] using hl] at hb; cases hb
     · exact tC hi hl
theorem pB: ∀ {ns:List Nat} {i:Nat},i<ns.length→xX ns i ∈ ns:=fun {ns i} h=>List.mem_of_getElem? (sq h)
theorem v8 {l:Lvl} {n:Nat} (h: ∀ p ∈ l,p.1≠n):zp l n=none:=by
 cases hl:zp l n with
 |none=>rfl
 |some e=>exact absurd rfl (h _ (yp hl))
section
variable {g:Nat→Blk}
theorem ju (a:AK) (x:a.J) (nm:Nat):(∀ p ∈ a.lo' x g nm,nm≤p.1∧p.1<a.next nm)∧ ∀ i ∈ a.o nm,nm≤i∧i<a.next nm∧zp (a.lo' x g nm) i=some (true,g i):=by
 cases a with
 |plain k=>exact ⟨fun p hp=>(by cases hp),fun i hi=>(by cases hi)⟩
 |list ks=>obtain ⟨ix,n,m,c⟩:=x; exact ⟨fun p hp=>by simp only [AK.lo',List.mem_singleton] at hp; subst hp; exact ⟨Nat.le_refl _,Nat.lt_succ_self _⟩,fun i hi=>(by cases hi)⟩
 |cell ks=>exact ⟨fun p hp=>by simp only [AK.lo',List.mem_singleton] at hp; subst hp; exact ⟨Nat.le_refl _,Nat.lt_succ_self _⟩,fun i hi=>(by cases hi)⟩
 | own ks=>obtain ⟨n,m,c⟩:=x; exact ⟨fun p hp=>by simp only [AK.lo',List.mem_singleton] at hp; subst hp; exact ⟨Nat.le_refl _,Nat.lt_succ_self _⟩,fun i hi=>by
  simp only [AK.o,List.mem_singleton] at hi; subst hi; exact ⟨Nat.le_refl _,Nat.lt_succ_self _,by simp [AK.lo',zp]⟩⟩
 | win ks=>obtain ⟨ix,n,m,c⟩:=x; exact ⟨fun p hp=>by simp only [AK.lo',List.mem_singleton] at hp; subst hp; exact ⟨Nat.le_refl _,Nat.lt_succ_self _⟩,fun i hi=>by
  simp only [AK.o,List.mem_singleton] at hi; subst hi; exact ⟨Nat.le_refl _,Nat.lt_succ_self _,by simp [AK.lo',zp]⟩⟩
theorem nH {l m:Lvl} {a b c:Nat} {O1 O2:List Nat} (hab:a≤b) (hbc:b≤c) (h1:(∀ p ∈ l,a≤p.1∧p.1<b)∧ ∀ i ∈ O1,a≤i∧i<b∧zp l i=some (true,g i)) (h2:(∀ p ∈ m,b≤p.1∧p.1<c)∧ ∀ i ∈ O2,b≤i∧i<c∧zp m i=some (true,g i)):
    (∀ p ∈ l++m,a≤p.1∧p.1<c)∧ ∀ i ∈ O1++O2,a≤i∧i<c∧zp (l++m) i=some (true,g i):=by
  refine ⟨fun p hp=> ?_,fun i hi=> ?_⟩
  · rcases List.mem_append.1 hp with hp|hp
    · have:=h1.1 p hp; omega
    · have:=h2.1 p hp; omega
  · rw [yM]
    rcases List.mem_append.1 hi with hi|hi
    · obtain ⟨q1,q2,q3⟩:=h1.2 i hi
      rw [q3]
      exact ⟨q1,by omega,rfl⟩
    · obtain ⟨q1,q2,q3⟩:=h2.2 i hi
      rw [v8 fun p hp=>by have:=h1.1 p hp; omega]
      exact ⟨by omega,q2,q3⟩
theorem kq: ∀ (l:List AK) (x:AsJ l) (nm:Nat),(∀ p ∈ kD l x g nm,nm≤p.1∧p.1<xW l nm)∧ ∀ i ∈ asO l nm,nm≤i∧i<xW l nm∧zp (kD l x g nm) i=some (true,g i)
  | [],_,nm=>⟨fun p hp=>(by cases hp),fun i hi=>(by cases hi)⟩
  |a::l,(x,y),nm=>nH (uN a nm) (wF l _) (ju a x nm) (kq l y (a.next nm))
theorem gm (s:Sh) (x:s.J) (nm:Nat):(∀ p ∈ s.lo' x g nm,nm≤p.1∧p.1<s.next nm)∧ ∀ i ∈ s.o nm,nm≤i∧i<s.next nm∧zp (s.lo' x g nm) i=some (true,g i):=by
 cases s with
 |one a=>exact ju a x nm
 |agg l=>exact kq l x nm
 |fn f l=>exact kq l x nm
theorem l9: ∀ (l:List Sh) (x:SsJ l) (nm:Nat),(∀ p ∈ jr l x g nm,nm≤p.1∧p.1<xI l nm)∧ ∀ i ∈ ssO l nm,nm≤i∧i<xI l nm∧zp (jr l x g nm) i=some (true,g i)
  | [],_,nm=>⟨fun p hp=>(by cases hp),fun i hi=>(by cases hi)⟩
  |s::l,(x,y),nm=>nH (tz s nm) (vU l _) (gm s x nm) (l9 l y (s.next nm))
end
theorem rG (a:AK) (x:a.J) (nm:Nat):(∀ p ∈ a.lj x nm,nm≤p.1∧p.1<a.next nm)∧ ∀ i ∈ a.o nm,nm≤i∧i<a.next nm∧ ∃ b,zp (a.lj x nm) i=some (true,b)∧b≠ .dead:=by
 cases a with
 |plain k=>exact ⟨fun p hp=>(by cases hp),fun i hi=>(by cases hi)⟩
 |list ks=>obtain ⟨ix,n,m,c⟩:=x; exact ⟨fun p hp=>by simp only [AK.lj,List.mem_singleton] at hp; subst hp; exact ⟨Nat.le_refl _,Nat.lt_succ_self _⟩,fun i hi=>(by cases hi)⟩
 |cell ks=>exact ⟨fun p hp=>by simp only [AK.lj,List.mem_singleton] at hp; subst hp; exact ⟨Nat.le_refl _,Nat.lt_succ_self _⟩,fun i hi=>(by cases hi)⟩
 | own ks=>obtain ⟨n,m,c⟩:=x; exact ⟨fun p hp=>by simp only [AK.lj,List.mem_singleton] at hp; subst hp; exact ⟨Nat.le_refl _,Nat.lt_succ_self _⟩,fun i hi=>by
  simp only [AK.o,List.mem_singleton] at hi; subst hi; exact ⟨Nat.le_refl _,Nat.lt_succ_self _,.cols n (csC ks c),by simp [AK.lj,zp],by simp⟩⟩
 | win ks=>obtain ⟨ix,n,m,c⟩:=x; exact ⟨fun p hp=>by simp only [AK.lj,List.mem_singleton] at hp; subst hp; exact ⟨Nat.le_refl _,Nat.lt_succ_self _⟩,fun i hi=>by
  simp only [AK.o,List.mem_singleton] at hi; subst hi; exact ⟨Nat.le_refl _,Nat.lt_succ_self _,.cols m (csC ks c),by simp [AK.lj,zp],by simp⟩⟩
theorem oq {l m:Lvl} {a b c:Nat} {O1 O2:List Nat} (hab:a≤b) (hbc:b≤c) (h1:(∀ p ∈ l,a≤p.1∧p.1<b)∧ ∀ i ∈ O1,a≤i∧i<b∧ ∃ e,zp l i=some (true,e)∧e≠ .dead) (h2:(∀ p ∈ m,b≤p.1∧p.1<c)∧ ∀ i ∈ O2,b≤i∧i<c∧ ∃ e,zp m i=some (true,e)∧e≠ .dead):
    (∀ p ∈ l++m,a≤p.1∧p.1<c)∧ ∀ i ∈ O1++O2,a≤i∧i<c∧ ∃ e,zp (l++m) i=some (true,e)∧e≠ .dead:=by
  refine ⟨fun p hp=> ?_,fun i hi=> ?_⟩
  · rcases List.mem_append.1 hp with hp|hp
    · have:=h1.1 p hp; omega
    · have:=h2.1 p hp; omega
  · rw [yM]
    rcases List.mem_append.1 hi with hi|hi
    · obtain ⟨q1,q2,e,q3,q4⟩:=h1.2 i hi
      rw [q3]
      exact ⟨q1,by omega,e,rfl,q4⟩
    · obtain ⟨q1,q2,e,q3,q4⟩:=h2.2 i hi
      rw [v8 fun p hp=>by have:=h1.1 p hp; omega]
      exact ⟨by omega,q2,e,q3,q4⟩
theorem uy: ∀ (l:List AK) (x:AsJ l) (nm:Nat),(∀ p ∈ rr l x nm,nm≤p.1∧p.1<xW l nm)∧ ∀ i ∈ asO l nm,nm≤i∧i<xW l nm∧ ∃ e,zp (rr l x nm) i=some (true,e)∧e≠ .dead
  | [],_,nm=>⟨fun p hp=>(by cases hp),fun i hi=>(by cases hi)⟩
  |a::l,(x,y),nm=>oq (uN a nm) (wF l _) (rG a x nm) (uy l y (a.next nm))
theorem nd (s:Sh) (x:s.J) (nm:Nat):(∀ p ∈ s.lj x nm,nm≤p.1∧p.1<s.next nm)∧ ∀ i ∈ s.o nm,nm≤i∧i<s.next nm∧ ∃ e,zp (s.lj x nm) i=some (true,e)∧e≠ .dead:=by
 cases s with
 |one a=>exact rG a x nm
 |agg l=>exact uy l x nm
 |fn f l=>exact uy l x nm
theorem sm: ∀ (l:List Sh) (x:SsJ l) (nm:Nat),(∀ p ∈ uz l x nm,nm≤p.1∧p.1<xI l nm)∧ ∀ i ∈ ssO l nm,nm≤i∧i<xI l nm∧ ∃ e,zp (uz l x nm) i=some (true,e)∧e≠ .dead
  | [],_,nm=>⟨fun p hp=>(by cases hp),fun i hi=>(by cases hi)⟩
  |s::l,(x,y),nm=>oq (tz s nm) (vU l _) (nd s x nm) (sm l y (s.next nm))
theorem mN (l:List Sh) (x:SsJ l) (nm i:Nat) (hi:i ∈ ssO l nm): ∃ e,zp (uz l x nm) i=some (true,e)∧e≠ .dead:=((sm l x nm).2 i hi).2.2
theorem ro {P:Program} {c:Con} (hc:c.ok P):yZ P (mv cond c):=by
 intro f args H fr K no hne hN h
 unfold mv at h
 split at h
 · exact .inr h
 rename_i hf
 cases Nat.eq_of_beq_eq_true hf
 split at h
 · exact .inr h
 rename_i x ns hrd
 split at h
 case h_2=>exact .inr h
 rename_i hchk hpl hown
 simp only [Bool.and_eq_true] at hown
 obtain ⟨hap,hplo⟩:=hown
 obtain ⟨hle,h⟩:=kM h
 obtain ⟨hp,hk⟩:=zz h
 obtain ⟨⟨hi,hhi,C⟩,hF⟩:=hc x hp
 obtain ⟨p1,p2,p3,p4⟩:=oZ hrd
 have elo:c.lo=ns.length:=by have:=p1 0; unfold Con.lo; omega
 obtain ⟨hh,tt,eH,eA⟩:=jV (yJ (fr+1) (c.new x)++w7 ns fr (c.own x) (ssO c.ss 0)) hne
 have hO: ∀ i ∈ ssO c.ss 0,i<c.lo:=fun i hi=>((l9 (g:=c.own x) c.ss x 0).2 i hi).2.1
 have hget': ∀ n e,hget (hadd (yJ (fr+1) (c.new x)++w7 ns fr (c.own x) (ssO c.ss 0)) H) n=some e→(zp (yJ (fr+1) (c.new x)) n=some e)∨(∃ i ∈ ssO c.ss 0,n=xX ns i∧e=(true,c.own x i)∧n<fr)∨(hget H n=some e∧ ∀ i ∈ ssO c.ss 0,xX ns i<fr→xX ns i≠n):=fun n e hn=>by
  rw [eA,zk,yM] at hn
  rw [eH,zk]
  rw [yM] at hn
  cases hl:zp (yJ (fr+1) (c.new x)) n with
  |some e'=>rw [hl] at hn; exact .inl hn
  | none=>
   rw [hl] at hn
   simp only at hn
   cases hl2:zp (w7 ns fr (c.own x) (ssO c.ss 0)) n with
   |some e'=>
    rw [hl2] at hn
    simp only [Option.some.injEq] at hn
    subst hn
    obtain ⟨i,q1,q2,q3⟩:=vj _ (yp hl2)
    simp only [Prod.mk.injEq] at q2
    exact .inr (.inl ⟨i,q1,q2.1,q2.2,by omega⟩)
   |none=>
    rw [hl2] at hn
    refine .inr (.inr ⟨hn,fun i hi hlt e=> ?_⟩)
    obtain ⟨e',he'⟩:=tC (g:=c.own x) hi hlt
    rw [e,hl2] at he'
    cases he'
 have hrdr: ∀ use,(∀ i,i<ns.length→use i)→Rd ⟨use,xX ns⟩ ns 0:=fun use hu i k hi=>by
  have hl:=(List.getElem?_eq_some_iff.1 hi).1
  rw [Nat.zero_add]
  refine ⟨hu i hl,?_⟩
  have:=sq hl
  rw [hi] at this
  exact (Option.some.inj this).symm
 obtain ⟨a1,a2⟩:=p4 hle ⟨fun n=>n<c.lo,xX ns⟩ (fun n=>fr≤n∧n<fr+1+ur (c.new x)) 0 (by omega) (hrdr _ fun i hi=>by rw [elo]; exact hi)
 have hmem: ∀ n e,hget [uz c.ss x 0] n=some e→n<ns.length∧(e.1=true→n ∈ ssO c.ss 0):=fun n e hn=>by
  rw [zk] at hn
  cases hl:zp (uz c.ss x 0) n with
  |none=>rw [hl] at hn; cases hn
  |some e'=>
   rw [hl] at hn
   cases hn
   obtain ⟨⟨_,q1⟩,q2⟩:=p3 0 _ (yp hl)
   exact ⟨by simpa using q1,q2⟩
 have hHp:HpR ⟨fun n=>n<c.lo,xX ns⟩ (fun n=>fr≤n∧n<fr+1+ur (c.new x)) [uz c.ss x 0] H:=by
  constructor
  · intro n e hn hd
    rw [wX] at hn
    have a2:EntL ⟨fun n=>n<c.lo,xX ns⟩ (fun n=>fr≤n∧n<fr+1+ur (c.new x)) H (wh [uz c.ss x 0]):=by simpa [wh] using a2
    rcases a2.mem _ (yp hn) with h1|⟨h1,h2⟩
    · exact absurd h1 hd
    · exact ⟨h1,h2.imp (fun ⟨b',blk',q⟩=>⟨(b',blk'),q⟩) id⟩
  · intro n m e e' hn hm ht _ _ hne'
    obtain ⟨q1,q2⟩:=hmem n e hn
    obtain ⟨q3,_⟩:=hmem m e' hm
    exact fun he=>ra hap n (q2 ht) m q3 (Ne.symm hne') he.symm
 refine .inl ⟨_,_,_,hk,⟨by omega,⟨yJ (fr+1) (c.new x)++w7 ns fr (c.own x) (ssO c.ss 0),fun h t e=> ?_,fun p hp=> ?_⟩,fun n e hn=> ?_⟩,?_,hF⟩
 · obtain ⟨rfl,rfl⟩:h=hh∧t=tt:=by rw [eH] at e; simpa [eq_comm] using e
   exact eA
 · rcases List.mem_append.1 hp with hp|hp
   · obtain ⟨_,q2,q3⟩:=sJ p hp
     exact ⟨by omega,.inl q3⟩
   · obtain ⟨i,q1,q2,q3⟩:=vj p hp
     subst q2
     exact ⟨by show xX ns i<_; omega,.inl rfl⟩
 · rcases hget' n e hn with h1|⟨i,q1,q2,q3,q4⟩|⟨h1,_⟩
   · obtain ⟨q1,q2,_,_⟩:=sH h1
     exact .inr ⟨by omega,by omega⟩
   · have hin:xX ns i ∈ ns:=pB (by rw [← elo]; exact hO i q1)
     rcases p2 _ hin with h|h
     · omega
     · rw [q2]; exact .inl h
   · exact .inl ⟨e,h1⟩
 refine gA C hN (xX ns) (iQ ns) (by omega) (by omega) a1 hHp (oS (fun n hn=> ?_) hchk) fun n e hn=> ?_
 · cases hb:Nat.blt n c.lo<;>simp only [okN,rho,hb,Bool.and_eq_true] at hn ⊢
   · have e1:c.lo<n:=vM hn.1
     have e2:n≤c.lo+ur (c.new x):=qu hn.2
     rw [if_pos (by omega)]
     exact ⟨.inl (by omega),by omega⟩
   · have e1:xX ns n<fr:=vM hn.1
     have e2:=Nat.eq_of_beq_eq_true hn.2
     have e3:n<c.lo:=vM hb
     rw [if_neg (by omega),e2]
     exact ⟨.inr ⟨by omega,e3,rfl⟩,rfl⟩
 · rcases hget' n e hn with h1|⟨i,q1,q2,q3,q4⟩|⟨h1,h0⟩
   · obtain ⟨q1,q2,q3,q4⟩:=sH h1
     refine .inr (.inl ⟨by omega,by omega,.inr ⟨q3,?_⟩⟩)
     obtain ⟨m,cs,e1,e2⟩:=so hpl q4
     refine ⟨e.2,?_,by rw [e1]; simp,by rw [e1]; exact sI e2⟩
     rw [zk,yM,show n-fr+c.lo=c.lo+1+(n-(fr+1)) by omega,nT q4]
   · subst q3
     rcases ri hplo i q1 with hd|⟨m,cs,hd,hpc⟩
     · exact .inr (.inr (.inl hd))
     ·
      have hi':=hO i q1
      rcases p2 _ (pB (by rw [← elo]; exact hi'):xX ns i ∈ ns) with h|⟨e0,h⟩
      · omega
      obtain ⟨b0,hb0,hb1⟩:=mN c.ss x 0 i q1
      refine .inr (.inr (.inr ⟨q4,rfl,i,b0,c.own x i,hi',?_,hb1,q2.symm,?_,by rw [hd]; simp,?_⟩))
      · rw [zk,hb0]
      · rw [zk,yM,v8 fun p hp=>by have:=(sJ p hp).1; omega,((l9 (g:=c.own x) c.ss x 0).2 i q1).2.2]
      · show Rb _ (c.own x i) (c.own x i)
        rw [hd]
        exact sI hpc
   · refine .inl ⟨h1,fun m b hm hb=> ?_⟩
     obtain ⟨q1,q2⟩:=hmem m _ hm
     by_cases hlt:xX ns m<fr
     · exact h0 m (q2 rfl) hlt
     · have:=hN n e h1
       omega
def j9 (P:Program):List Con→Prop
  | []=>True
  |c::l=>c.ok P∧j9 P l
theorem yN {P:Program}: ∀ {l:List Con},j9 P l→yZ P (xK cond l)
  | [],_=>y3
  |c::l,h=>rv (ro h.1) (yN h.2)
def AK.j:(a:AK)→a.I→a.J
  | .plain _,x=>x
  | .list _,(n,c)=>(0,n,n,c)
  | .own _,(n,c)=>(n,n,c)
  | .cell _,x=>x
  | .win _,(n,c)=>(0,n,n,c)
def asj:(l:List AK)→AsI l→AsJ l
  | [],_=>()
  |a::l,(x,y)=>(a.j x,asj l y)
def Sh.j:(s:Sh)→s.I→s.J
  | .one a,x=>a.j x
  | .agg l,x=>asj l x
  | .fn _ l,x=>asj l x
def ssj:(l:List Sh)→SsI l→SsJ l
  | [],_=>()
  |s::l,(x,y)=>(s.j x,ssj l y)
theorem akj (a:AK) (x:a.I) (nm:Nat):a.pj (a.j x) nm=a.pv x nm∧a.lj (a.j x) nm=a.lvl x nm:=by cases a<;>exact ⟨rfl,rfl⟩
theorem sP: ∀ (l:List AK) (x:AsI l) (nm:Nat),mE l (asj l x) nm=qP l x nm∧rr l (asj l x) nm=tW l x nm
  | [],_,_=>⟨rfl,rfl⟩
  |a::l,(x,y),nm=>by
   obtain ⟨h1,h2⟩:=akj a x nm
   obtain ⟨h3,h4⟩:=sP l y (a.next nm)
   exact ⟨by simp only [mE,qP,asj,h1,h3],by simp only [rr,tW,asj,h2,h4]⟩
theorem shj (s:Sh) (x:s.I) (nm:Nat):s.pj (s.j x) nm=s.pv x nm∧s.lj (s.j x) nm=s.lvl x nm:=by
 cases s with
 |one a=>exact akj a x nm
 |agg l=>exact ⟨congrArg PV.agg (sP l x nm).1,(sP l x nm).2⟩
 |fn g l=>exact ⟨congrArg (PV.fn (.func g) []) (sP l x nm).1,(sP l x nm).2⟩
theorem pk: ∀ (l:List Sh) (x:SsI l) (nm:Nat),lK l (ssj l x) nm=pY l x nm∧uz l (ssj l x) nm=vJ l x nm
  | [],_,_=>⟨rfl,rfl⟩
  |s::l,(x,y),nm=>by
   obtain ⟨h1,h2⟩:=shj s x nm
   obtain ⟨h3,h4⟩:=pk l y (s.next nm)
   exact ⟨by simp only [lK,pY,ssj,h1,h3],by simp only [uz,vJ,ssj,h2,h4]⟩
section
variable {P:Program} {E:Env} (ok:xa P E) (hm:P.follows .mixedOrders=true) {X:Ext} (hX:yZ P X)
include ok hm hX
theorem pn {f:FuncId} {fn:FnI} {args:List PV} {H H0:zQ} {lo hi:Nat} {v0:PV} {sy:Bool} {n:Nat} (hf:xG E.fs f=some fn) (hl:lo≤hi) (hne:H≠ []) (hN:Names H lo) {T:Prop}
    (e:run cond E sy X true n ⟨f,[.cd fn.body],yD 0 args,[]::H,lo⟩ (zq lo [] (fun _ _ _ _=>False) (sS lo hi fun v H'=>v=v0∧H'=H0))=T) (h:T):zn P f args H lo v0 H0 hi∧ ∃ F,P.funcs[f]? =some F∧F.body.isSome=true∧(F.name== "runtime.NumGoroutine")=false:=
  mC ok hm hX hf hl hne hN (e ▸ h)
end
section
variable {r:Mp}
theorem rz:Rns r [] []:=trivial
theorem sY {v v':PV} {l l':List PV} (h:Rn r v v') (hl:Rns r l l'):Rns r (v::l) (v'::l'):=⟨h,hl⟩
theorem zP {n:Nat}:Rcs r n [] []:=trivial
theorem zO {n:Nat} {k:IntKind} {f g:Nat→Int} {l m:List Col} (h: ∀ j,j<n→f j=g j) (hl:Rcs r n l m):Rcs r n (.int k f::l) (.int k g::m):=⟨fun j hj=>zH (h j hj),hl⟩
theorem t8 {n:Nat} {f g:Nat→Bool} {l m:List Col} (h: ∀ j,j<n→f j=g j) (hl:Rcs r n l m):Rcs r n (.bool f::l) (.bool g::m):=⟨fun j hj=>zu (h j hj),hl⟩
theorem qG {n:Nat} {f g:Nat→ByteArray} {l m:List Col} (h: ∀ j,j<n→f j=g j) (hl:Rcs r n l m):Rcs r n (.str f::l) (.str g::m):=⟨fun j hj=>wz (h j hj),hl⟩
theorem n5 {fresh:Nat→Prop} {H':zQ} {k n n':Nat} {b b':Bool} {cs ds:List Col} {l:Lvl} (hu:r.use k) (hg:hget H' (r.nm k)=some (b',.cols n' ds)) (hb:b=true→b'=true) (hn:n≤n') (h:Rcs r n cs ds) (hl:EntL r fresh H' l):EntL r fresh H' ((k,b,.cols n cs)::l):=
 ⟨.inr ⟨hu,.inl ⟨b',_,hg,by simp,hb,uO hn h⟩⟩,hl⟩
end
theorem pT (L:Lvl):wh [L]=L:=by simp [wh]
theorem lH {lo hi:Nat} {v0 v':PV} {L:Lvl} {H':zQ} {fr':Nat} {k:Nat} (hv:Rn (Ren.mp ⟨lo,hi,hi,fun _=>k⟩) v0 v') (hf:Nat.ble fr' hi=true) (hi':uY (Ren.mp ⟨lo,hi,hi,fun _=>k⟩).nm (L.map (·.1))=true)
    (hH:EntL (Ren.mp ⟨lo,hi,hi,fun _=>k⟩) (fun n=>fr'≤n∧n<hi) H' L):sS lo hi (fun v H'=>v=v0∧H'= [L]) v' H' fr':=
  u7 _ v0 [L] ⟨rfl,rfl⟩ hf hv (by rw [pT]; exact hi') (by rw [pT]; exact hH)
theorem zc {a b n:Nat} (h:(Nat.ble a n&&Nat.blt n b)=true):a≤n∧n<b:=by
 simp only [Bool.and_eq_true] at h
 exact ⟨qu h.1,vM h.2⟩
theorem gP {lo hi fr k n:Nat} (h:(Nat.ble lo n&&Nat.blt n hi)=true):k=(Ren.mp ⟨lo,hi,fr,fun _=>k⟩).nm n:=by
 simp only [Bool.and_eq_true] at h
 have h1:=qu h.1
 have h2:=vM h.2
 unfold Ren.mp
 simp only
 rw [if_neg (by omega)]
theorem ly {r:Ren} {n:Nat} (h:Nat.blt n r.lo=true):n=r.mp.nm n:=by
 have:=vM h
 unfold Ren.mp
 simp only
 rw [if_pos (.inl this)]
theorem zB {r:Mp} {fresh:Nat→Prop} {H':zQ} {k n:Nat} {cs:List Col} {l:Lvl} (hu:r.use k) (hg:hget H' (r.nm k)=some (false,.cols n cs)) (h:xh cs=true) (hl:EntL r fresh H' l):EntL r fresh H' ((k,false,.cols n cs)::l):=
 pm hu hg id h hl
theorem zL {r:Mp} {fresh:Nat→Prop} {H':zQ} {k n n':Nat} {cs ds:List Col} {l:Lvl} (hu:r.use k) (hg:hget H' (r.nm k)=some (true,.cols n' ds)) (hn:n≤n') (h:Rcs r n cs ds) (hl:EntL r fresh H' l):EntL r fresh H' ((k,true,.cols n cs)::l):=
 n5 hu hg id hn h hl
theorem uw {r:Mp} {fresh:Nat→Prop} {H':zQ} {k n n' st:Nat} {cs:List Col} {F:Nat→Nat→PV} {l:Lvl} (hu:r.use k) (hg:hget H' (r.nm k)=some (true,.rows st n' F)) (hs:yB cs=st) (hn:n≤n') (h: ∀ i c,yh cs i=some c→ ∀ j,j<n→Rn r (zy c j) (F j i)) (hl:EntL r fresh H' l):EntL r fresh H' ((k,true,.cols n cs)::l):=
 ⟨.inr ⟨hu,.inl ⟨true,_,hg,by simp,id,fun σ τ w rb ht hb j i c hj hi=>by
  subst hs
  obtain ⟨u,h1,h2⟩:=hb j i (by omega) (wN hi)
  rw [z9] at h1
  exact ⟨u,by simpa [Nat.add_comm] using h1,h i c hi j hj σ τ u ht h2.1,h2.2⟩⟩⟩,hl⟩
theorem pI {P:Program} {f:FuncId} {a:PA} {n:Nat} {args:List PV} {H:zQ} {fr:Nat} {v:PV} {H':zQ} {fr':Nat} (h1:0<n→zn P f (.sl a n::args) H fr v H' fr') (h2:n=0→ ∀ b,zn P f (.zer b::args) H fr v H' fr'):zn P f (.loose a n::args) H fr v H' fr':=by
 intro σ w vals hv
 generalize hq:vals.toList=q at hv
 cases hv with
 | cons _ u _ m hu hl=>
  cases hu with
  | loose _ _ A c hc hA=>
   rcases Nat.eq_zero_or_pos n with h0|h0
   · subst h0
     exact h2 rfl A.isSome σ w vals (by rw [hq]; exact .cons _ _ _ _ (.zer _ A c rfl) hl)
   · obtain ⟨rb,e1,e2⟩:=hA h0
     subst e2
     exact h1 h0 σ w vals (by rw [hq]; exact .cons _ _ _ _ (.sl _ _ rb _ hc e1) hl)
theorem tM {r:Mp} {fresh:Nat→Prop} {H':zQ} {k n:Nat} {b':Blk} {cs:List Col} {l:Lvl} (hu:r.use k) (hg:hget H' (r.nm k)=some (true,b')) (hd:b'≠ .dead) (hn:n=0) (hl:EntL r fresh H' l):EntL r fresh H' ((k,true,.cols n cs)::l):=
 ⟨.inr ⟨hu,.inl ⟨true,_,hg,hd,id,fun σ τ w rb ht hb j i c hj hi=>by subst hn; omega⟩⟩,hl⟩
def AllC (p:Nat→Col→Prop):Nat→List Col→Prop
  |_,[]=>True
  |i,c::l=>p i c∧AllC p (i+1) l
theorem AllC.get {p:Nat→Col→Prop}: ∀ {l:List Col} {i0 i:Nat} {c:Col},AllC p i0 l→yh l i=some c→p (i0+i) c
  | [],_,i,c,_,h=>by simp [yh] at h
  |d::l,i0,0,c,h,e=>by simp only [yh,Option.some.injEq] at e; subst e; exact h.1
  |d::l,i0,i+1,c,h,e=>by
   have:=AllC.get (i:=i) h.2 e
   rwa [show i0+1+i=i0+(i+1) by omega] at this
theorem sL {l:List Col} {p:Nat→Col→Prop} (h:AllC p 0 l): ∀ i c,yh l i=some c→p i c:=fun i c e=>by
 have:=h.get e
 rwa [Nat.zero_add] at this
end Go.Ev
namespace Go.Ev
open Go.RowKit Go.Deep Go.WideShapes Go.ChangeAt
section
variable {H:Type} {enc:TypeId×Value→H} {P:Program} {w:World} {held:Bool}
def sA (P:Program) (B:Nat):CK→Value→Prop
  | .list e,c=> ∀ A n cap,c= .slice A n cap→1≤P.bytesOf e→n≤B
  |_,_=>True
theorem ww {B:Nat}: ∀ {ts:List TypeId} {ds:List (DataW H)},(DataW.weightsEach P ts ds).all (fun k=>decide (k≤B))=true→ ∀ (i:Nat) (t:TypeId) (d:DataW H),ts[i]? =some t→ds[i]? =some d→(DataW.weights P t d).all (fun k=>decide (k≤B))=true
  | [],_,_,i,t,d,h,_=>by simp at h
  |_::_,[],_,i,t,d,_,h=>by simp at h
  | t0::ts,d0::ds,h,i,t,d,h1,h2=>by
   rw [DataW.weightsEach,List.all_append,Bool.and_eq_true] at h
   cases i with
   |zero=>
    simp only [List.getElem?_cons_zero,Option.some.injEq] at h1 h2
    subst h1; subst h2
    exact h.1
   |succ i=>exact ww h.2 i t d (by simpa using h1) (by simpa using h2)
theorem vD {B:Nat} {e:TypeId}: ∀ {ds:List (DataW H)},(DataW.weightsAll P e ds).all (fun k=>decide (k≤B))=true→ ∀ (i:Nat) (d:DataW H),ds[i]? =some d→(DataW.weights P e d).all (fun k=>decide (k≤B))=true
  | [],_,i,d,h=>by simp at h
  | d0::ds,h,i,d,h2=>by
   rw [DataW.weightsAll,List.all_append,Bool.and_eq_true] at h
   cases i with
   |zero=>
    simp only [List.getElem?_cons_zero,Option.some.injEq] at h2
    subst h2
    exact h.1
   |succ i=>exact vD h.2 i d (by simpa using h2)
theorem pq {B:Nat}: ∀ {n:Nat} {t:TypeId} {ks:List CK} {cs:List Value} {fuel:Nat} {x:DataW H×List MemPlace},wS P n t=some ks→DataW.trod enc P w 0 (fun _=>true) held fuel t cs=some x→(x.1.weights P t).all (fun k=>decide (k≤B))=true→CKs (sA P B) ks cs:=by
 intro n
 induction n with
 |zero=>intro t ks cs fuel x h; cases h
 | succ n ih=>
  intro t ks cs fuel x h ht hw
  simp only [wS] at h
  split at h
  · rename_i hu
    cases h
    obtain ⟨b,rfl,_⟩:=DataW.trod_bool hu ht
    exact .cons trivial .nil
  · rename_i k hu
    cases h
    obtain ⟨z,rfl,_,hw⟩:=DataW.trod_int hu ht
    exact .cons trivial .nil
  · rename_i hu
    cases h
    obtain ⟨s,rfl,_,hs⟩:=DataW.trod_string hu ht
    exact .cons trivial .nil
  · rename_i e hu
    cases h
    rcases Go.Deep.open_slice hu ht with ⟨h0,_⟩|⟨a,len,cap,k,m,Dd,Pl,hcs,hb,hl,hm,hk,hx,_⟩
    · subst h0
      refine .cons (fun A n cap e1 _=> ?_) .nil
      cases e1
      exact Nat.zero_le _
    · subst hcs
      refine .cons (fun A n0 cap0 e1 hbe=> ?_) .nil
      simp only [Value.slice.injEq] at e1
      obtain ⟨-,e2,e3⟩:=e1
      simp only [if_true] at hk
      subst hx
      simp only [DataW.weights,hu,List.all_cons,Bool.and_eq_true,decide_eq_true_eq,List.length_map,List.length_range] at hw
      have h1:=hw.1
      have h2:(len+(k-len))*1≤(len+(k-len))*P.bytesOf e:=Nat.mul_le_mul_left _ hbe
      omega
  · rename_i fs hu
    split at h
    · rename_i l hj
      split at h
      · rename_i hc
        cases h
        obtain ⟨xs,m,_,rfl,hl,hx,hg⟩:=DataW.trod_struct hu ht
        have a:=sC (R:=sA P B) (cs:=cs) hj fun f hf l hl=>by
         obtain ⟨i,hi,rfl⟩:=List.getElem_of_mem hf
         have:=hg i fs[i] (Array.getElem?_eq_getElem (by simpa using hi))
         rw [List.getElem?_eq_getElem (by simpa [hx] using hi)] at this
         refine ih hl this ?_
         simp only [DataW.weights,hu] at hw
         exact ww hw i _ _ (by simp [List.getElem?_eq_getElem hi]) (by rw [List.getElem?_map,List.getElem?_eq_getElem (by simpa [hx] using hi)]; rfl)
        simp only [List.drop_zero] at a
        rw [Nat.eq_of_beq_eq_true hc,← hl,List.take_length] at a
        exact a
      · cases h
    · cases h
  · rename_i m e hu
    split at h
    · rename_i l hj
      split at h
      · rename_i h1 h2
        cases h
        obtain ⟨xs,k,_,rfl,hl,hx,hg⟩:=DataW.trod_array hu ht
        have a:=sn (R:=sA P B) (cs:=cs) (ks:=l) (m:=m) fun i hi=>by
         have:=hg i hi
         rw [List.getElem?_eq_getElem (by omega),← Nat.eq_of_beq_eq_true h1] at this
         refine ih hj this ?_
         simp only [DataW.weights,hu] at hw
         exact vD hw i _ (by rw [List.getElem?_map,List.getElem?_eq_getElem (by omega)]; rfl)
        rw [Nat.eq_of_beq_eq_true h2,← hl,List.take_length] at a
        exact a
      · cases h
    · cases h
  · cases h
def AK.small (B:Nat):(a:AK)→a.I→Prop
  | .list _,(n,_)=>n≤B
  | .own _,(n,_)=>n≤B
  | .plain _,_=>True
  | .cell _,_=>True
  | .win _,(n,_)=>n≤B
def tv (B:Nat):(l:List AK)→AsI l→Prop
  | [],_=>True
  |a::l,(x,y)=>a.small B x∧tv B l y
def Sh.small (B:Nat):(s:Sh)→s.I→Prop
  | .one a,x=>a.small B x
  | .agg l,x=>tv B l x
  | .fn _ l,x=>tv B l x
def uX (B:Nat):(l:List Sh)→SsI l→Prop
  | [],_=>True
  |s::l,(x,y)=>s.small B x∧uX B l y
def uC (P:Program):List CK→Bool
  | []=>true
  | .list e::l=>Nat.ble 1 (P.bytesOf e)&&uC P l
  |_::l=>uC P l
def qc (P:Program) (n:Nat):List TypeId→Bool
  | []=>true
  |t::ts=>(match wS P n t with|some ks=>uC P ks|none=>true)&&qc P n ts
theorem lw {n B:Nat} {ck:CK} {a:AK} (ha:s8 P n ck=some a) {c:Value} (h:sA P B ck c) (hb: ∀ e,ck= .list e→1≤P.bytesOf e) {σ:Sg} {x:a.I} {nm:Nat} (hv:VR σ (a.pv x nm) c):a.small B x:=by
 cases a with
 |plain k=>trivial
 |cell ks=>trivial
 | own ks=>
  cases ck<;>simp only [s8] at ha
  case list e=>
   (repeat' split at ha)<;>cases ha
  all_goals (split at ha<;>cases ha)
 | win ks=>
  cases ck<;>simp only [s8] at ha
  case list e=>
   (repeat' split at ha)<;>cases ha
  all_goals (split at ha<;>cases ha)
 | list ks=>
  obtain ⟨n0,y⟩:=x
  cases ck<;>simp only [s8] at ha
  case list e=>
   have hv:VR σ (.loose ⟨nm,yj ks,0,0⟩ n0) c:=hv
   cases hv with
   |loose _ _ A cap hc hr=>exact h A n0 cap rfl (hb e rfl)
  all_goals (split at ha<;>cases ha)
theorem s7 {n B:Nat}: ∀ {cks:List CK} {al:List AK} {cs:List Value},rU P n cks=some al→CKs (sA P B) cks cs→uC P cks=true→ ∀ {σ:Sg} {x:AsI al} {nm:Nat},VRs σ (qP al x nm) cs→tv B al x
  | [],al,cs,h,hc,_,σ,x,nm,hv=>by
   cases h
   trivial
  | ck :: l,al,cs,h,hc,hb,σ,x,nm,hv=>by
   simp only [rU] at h
   split at h
   · rename_i a m h1 h2
     cases h
     obtain ⟨x,y⟩:=x
     cases hc with
     | cons hcell hl=>
      simp only [qP] at hv
      cases hv with
      | cons _ _ _ _ q1 q2=>
       refine ⟨lw h1 hcell (fun e he=> ?_) q1,s7 h2 hl ?_ q2⟩
       · subst he
         simp only [uC,Bool.and_eq_true] at hb
         exact Nat.le_of_ble_eq_true hb.1
       · cases ck<;>simp only [uC,Bool.and_eq_true] at hb<;>first|exact hb|exact hb.2
   · cases h
theorem mX {n B:Nat} {t:TypeId} {s:Sh} (hs:kN P n t=some s) {v:Value} {d:DataW H} {p:List MemPlace} (h:DataW.Trod enc P w 0 (fun _=>true) held t v d p) (hone:isAgg P t=false→v.cells= #[v]) (hagg:isAgg P t=true→ ∃ cs,v= .agg cs)
    (hw:(d.weights P t).all (fun k=>decide (k≤B))=true) (hb:(match wS P n t with|some ks=>uC P ks|none=>true)=true) {σ:Sg} {x:s.I} {nm:Nat} (hv:VR σ (s.pv x nm) v):s.small B x:=by
  obtain ⟨fuel,hf⟩:=h
  unfold kN qN at hs
  split at hs
  · rename_i l hl
    split at hl
    · rename_i cs hcs
      rw [hcs] at hb
      have hc:=pq hcs hf hw
      split at hs
      · rename_i l' ha
        cases hs
        obtain ⟨c,rfl⟩:=hagg ha
        have hv:VR σ (.agg (qP _ x nm)) (.agg c):=hv
        cases hv with
        |agg _ _ q=>exact s7 hl hc hb q
      · rename_i a ha
        cases hs
        rw [hone ha] at hc
        exact (s7 (x:=(x,())) (nm:=nm) hl hc hb (.cons _ _ _ _ hv .nil)).1
      · cases hs
    · cases hl
  · cases hs
theorem pJ {n B:Nat}: ∀ {ts:List TypeId} {ss:List Sh} {vs:List Value} {ds:List (DataW H)} {ps:List MemPlace},shsOf P n ts=some ss→DataW.TrodAll enc P w 0 (fun _=>true) held ts vs ds ps→
 (∀ (j:Nat) t v,ts[j]? =some t→vs[j]? =some v→(isAgg P t=false→v.cells= #[v])∧(isAgg P t=true→ ∃ cs,v= .agg cs))→(DataW.weightsEach P ts ds).all (fun k=>decide (k≤B))=true→qc P n ts=true→ ∀ {σ:Sg} {x:SsI ss} {nm:Nat},VRs σ (pY ss x nm) vs→uX B ss x
 | [],ss,[],[],ps,h,hA,hv,hw,hb,σ,x,nm,hr=>by
  cases h
  trivial
 | t ::ts,ss,v::vs,d::ds,ps,h,hA,hv,hw,hb,σ,x,nm,hr=>by
  obtain ⟨p,q,hT,hA,_⟩:=hA
  simp only [shsOf] at h
  split at h
  · rename_i s m h1 h2
    cases h
    obtain ⟨x,y⟩:=x
    simp only [pY] at hr
    rw [DataW.weightsEach,List.all_append,Bool.and_eq_true] at hw
    simp only [qc,Bool.and_eq_true] at hb
    cases hr with
    |cons _ _ _ _ q1 q2=>
     exact ⟨mX h1 hT (hv 0 t v rfl rfl).1 (hv 0 t v rfl rfl).2 hw.1 hb.1 q1,pJ h2 hA (fun j t v e1 e2=>hv (j+1) t v (by simpa using e1) (by simpa using e2)) hw.2 hb.2 q2⟩
  · cases h
 | [],_,_::_,_,_,_,hA,_,_,_,_,_,_,_=>hA.elim
 | [],_,[],_::_,_,_,hA,_,_,_,_,_,_,_=>hA.elim
 |_::_,_,[],_,_,_,hA,_,_,_,_,_,_,_=>hA.elim
 |_::_,_,_::_,[],_,_,hA,_,_,_,_,_,_,_=>hA.elim
end
theorem gj {P:Program} {f:FuncId} {H:Type} {enc:TypeId×Value→H} {n:Nat} {ts:List TypeId} {ss:List Sh} {W:World} {args:Array Value} {ds:List (DataW H)} {ps:List MemPlace} {r:Reach} {b0:Nat} (hss:shsOf P n ts=some ss)
    (hA:DataW.TrodAll enc P W 0 (fun _=>true) true ts args.toList ds ps) (hv: ∀ (j:Nat) t v,ts[j]? =some t→args[j]? =some v→Value.okWide P W r b0 t v)
    {Q:SsI ss→Prop} (hQ: ∀ (x:SsI ss) (σ:Sg),VRs σ (pY ss x 0) args.toList→Q x) (hc: ∀ (x:SsI ss),sQ ss x→Q x→ ∃ H' fr',zn P f (pY ss x 0) [vJ ss x 0] (xI ss 0) (.bool true) H' fr'):Calls P f args W fun e W'=>e= .returned (.bool true)∧Below W.heap.size W W':=by
  obtain ⟨x,ρ,h1,h2,h3,h4⟩:=iI (w:=W) (r:=r) (b0:=b0) hss hA (fun j t v e1 e2=>by
   have hok:=hv j t v e1 (by simpa using e2)
   refine ⟨hok,fun ha=> ?_⟩
   unfold isAgg at ha
   unfold Value.okWide at hok
   split at ha
   · cases ha
   · cases ha
   · rename_i u1 u2
     split at hok
     · rename_i q _ _ hq; exact absurd hq (u1 _)
     · rename_i q _ _ hq; exact absurd hq (u2 _ _)
     · unfold Cell.okWide at hok
       cases v<;>first|rfl|(exfalso; revert hok; split<;>simp_all<;>unfold Cell.ok<;>split<;>simp_all)) 0
  let σ:Sg:=fun k=>if k<xI ss 0 then ρ k else none
  have hσ: ∀ k,k<xI ss 0→σ k=ρ k:=fun k hk=>if_pos hk
  obtain ⟨H',fr',C⟩:=hc x h1 (hQ x σ (h2 σ fun k _ hk=>hσ k hk))
  have hfl: ∀ n e,hget [vJ ss x 0] n=some e→(n,e) ∈ vJ ss x 0:=fun n e hn=>by
   have:=yp (l:=vJ ss x 0) (n:=n) (e:=e) (by simp only [hget] at hn; split at hn<;>simp_all)
   exact this
  have hno: ∀ n b,hget [vJ ss x 0] n=some (true,b)→False:=fun n b hn=>by
   have:=(h4 _ (hfl _ _ hn)).2.2.1
   cases this
  have hsim:Sim σ W [vJ ss x 0]:=by
   refine ⟨fun n e hn hd rb hrb=> ?_,fun n m b e hn _ _ _ _=>(hno n b hn).elim⟩
   obtain ⟨q1,q2,q3,q4⟩:=h4 _ (hfl _ _ hn)
   rw [hσ n q2] at hrb
   obtain ⟨q5,q6⟩:=q4 rb hrb
   exact ⟨q5,nz (fun _ _ h=>by cases h) q6,fun ht=>by
    have:e.1=false:=q3
    rw [ht] at this; cases this⟩
  refine Calls.mono (C σ W args (h2 σ fun k _ hk=>hσ k hk) hsim fun k hk _=>if_neg (by omega)) fun e W' he=> ?_
  obtain ⟨v',σ',rfl,ho⟩:=he
  have hvt:v'= .bool true:=by cases ho.v; rfl
  subst hvt
  exact ⟨rfl,ho.frm.os,ho.frm.tape,ho.frm.output,ho.frm.size,fun k hk=>ho.frm.old k hk fun ⟨n,b,rb,q1,_⟩=>hno n b q1⟩
theorem pD {P:Program} {W:World} {r:Reach} {b0:Nat} {t:TypeId} {v:Value} (hok:Value.okWide P W r b0 t v):(isAgg P t=false→v.cells= #[v])∧(isAgg P t=true→ ∃ cs,v= .agg cs):=by
 refine ⟨fun ha=> ?_,fun ha=>rY ha hok⟩
 unfold isAgg at ha
 unfold Value.okWide at hok
 split at ha
 · cases ha
 · cases ha
 · rename_i u1 u2
   split at hok
   · rename_i q _ _ hq; exact absurd hq (u1 _)
   · rename_i q _ _ hq; exact absurd hq (u2 _ _)
   · unfold Cell.okWide at hok
     cases v<;>first|rfl|(exfalso; revert hok; split<;>simp_all<;>unfold Cell.ok<;>split<;>simp_all)
theorem law_linkS {P:Program} {c:Con} (hc:c.ok P) (hres: ∀ x,c.res x= .bool true) {H:Type} {enc:TypeId×Value→H} {n:Nat} {ts:List TypeId} {W:World} {args:Array Value} {ds:List (DataW H)} {ps:List MemPlace} {r:Reach} {b0:Nat} (hss:shsOf P n ts=some c.ss)
    (hb:qc P n ts=true) (hp: ∀ x,sQ c.ss x→uX reachBytes c.ss x→c.pre (ssj c.ss x)=true) (hA:DataW.TrodAll enc P W 0 (fun _=>true) true ts args.toList ds ps) (hv: ∀ (j:Nat) t v,ts[j]? =some t→args[j]? =some v→Value.okWide P W r b0 t v)
    (hw:(DataW.weightsEach P ts ds).all (fun k=>decide (k≤reachBytes))=true):
    Calls P c.f args W fun e W'=>e= .returned (.bool true)∧Below W.heap.size W W':=
  gj (Q:=fun x=>uX reachBytes c.ss x) hss hA hv (fun x σ hr=>pJ hss hA (fun j t v e1 e2=>pD (hv j t v e1 (by simpa using e2))) hw hb hr) fun x hx hq=>by
   obtain ⟨⟨hi,_,C⟩,_⟩:=hc _ (hp x hx hq)
   rw [(pk _ _ _).1,(pk _ _ _).2,hres] at C
   exact ⟨_,_,C⟩
end Go.Ev
