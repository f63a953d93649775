/-
  The reckoner, 3 of 3: what this statement needs of it.
-/
import Derived.Test.YtblfgknonjogfaaGreatDoorY506R2
set_option linter.unusedVariables false
set_option linter.unusedSimpArgs false
set_option linter.unusedSectionVars false
namespace Go.Ev
open Go.RowKit
def qQ {S R:Type} (q:S→Option (S⊕R)):Nat→S→Option R
  |0,_=>none
  |k+1,s=>match q s with
   |some (.inl s')=>qQ q k s'
   |some (.inr r)=>some r
   |none=>none
def Comes {S R:Type} (q:S→Option (S⊕R)) (s:S) (r:R):Prop:= ∃ k,qQ q k s=some r
def zY {S R:Type} (q:S→Option (S⊕R)) (p:Option (S⊕R)) (r:R):Prop:=match p with
 |some (.inl s)=>Comes q s r
 |some (.inr r')=>r'=r
 |none=>False
section
variable {S R:Type} {q:S→Option (S⊕R)}
theorem Comes.next {s s':S} {r:R} (e:q s=some (.inl s')) (h:Comes q s' r):Comes q s r:=by
 obtain ⟨k,hk⟩:=h
 exact ⟨k+1,by simp only [qQ,e]; exact hk⟩
theorem Comes.done {s:S} {r:R} (e:q s=some (.inr r)):Comes q s r:=⟨1,by simp only [qQ,e]⟩
theorem Comes.of {s:S} {r:R} (h:zY q (q s) r):Comes q s r:=by
 unfold zY at h
 split at h
 · rename_i e; exact .next e h
 · rename_i e; subst h; exact .done e
 · exact h.elim
theorem zG {r r':R}:zY q (some (.inr r')) r=(r'=r):=rfl
theorem zK {r:R}:zY q none r=False:=rfl
theorem zP {b:Bool} {x y:Option (S⊕R)} {r:R} (h1:b=true→zY q x r) (h2:b=false→zY q y r):zY q (cond b x y) r:=by
 cases b
 · exact h2 rfl
 · exact h1 rfl
theorem zH {b:Bool} {x y:Option (S⊕R)} {r:R} (hb:b=true) (h1:zY q x r):zY q (cond b x y) r:=by subst hb; exact h1
theorem zb {b:Bool} {x y:Option (S⊕R)} {r:R} (hb:b=false) (h1:zY q y r):zY q (cond b x y) r:=by subst hb; exact h1
end
inductive Holds (p:Prop):Prop
  |mk (h:p):Holds p
theorem Holds.eq {a b:Prop} (h:a=b) (hb:b):Holds a:=⟨h ▸ hb⟩
theorem Holds.get {a:Prop}:Holds a→a
  |⟨h⟩=>h
def gN (lo hi:Nat) (d:Hd) (vals:List PV) (H':zS) (fr':Nat):Prop:=
 fr'≤hi∧ ∃ ρ:Nat→Nat,Rns (Ren.mp ⟨lo,hi,d.fr,ρ⟩) d.V vals∧HpR (Ren.mp ⟨lo,hi,d.fr,ρ⟩) (fun n=>fr'≤n∧n<hi) d.H H'
abbrev KS:=List It→List PV→zS→Nat→Prop
abbrev KR:=PV→zS→Nat→Prop
def HS (lo hi:Nat) {S R:Type} (I:S→Hd) (fS:KS) (x:S⊕R):Prop:= ∀ s,x= .inl s→ ∀ V' H' fr',gN lo hi (I s) V' H' fr'→fS (I s).todo V' H' fr'
def HR (lo hi:Nat) {S R:Type} (V:R→PV) (H1:R→zS) (fT:KR) (x:S⊕R):Prop:= ∀ r,x= .inr r→ ∀ v' H' fr',so lo hi (fun v H=>v=V r∧H=H1 r) v' H' fr'→fT v' H' fr'
theorem zA {α:Type} {c:Bool} {a b:Option α} {x:α} {A B:Prop} (h:cond c a b=some x) (h1:c=true→a=some x→A) (h2:c=false→b=some x→B):cond c A B:=by
 cases c
 · exact h2 rfl h
 · exact h1 rfl h
theorem zF {α:Type} {x:α} {A:Prop} (h:(none:Option α)=some x):A:=by cases h
theorem ze {lo hi:Nat} {S R:Type} {I:S→Hd} {fS:KS} {x:S⊕R} (hS:HS lo hi I fS x) {todo':List It} {vals:List PV} {H':zS} {fr':Nat} (j:S) (hx:some (Sum.inl j)=some x) (ρ:Nat→Nat) {todo:List It} {V:List PV} {H:zS} {fr:Nat} (e:I j=⟨todo,V,H,fr⟩)
    (hf:Nat.ble fr' hi=true) (ht:todo'=todo) (hV:Rns (Ren.mp ⟨lo,hi,fr,ρ⟩) V vals) (hi':ub (Ren.mp ⟨lo,hi,fr,ρ⟩).nm ((wo H).map (·.1))=true) (hH:EntL (Ren.mp ⟨lo,hi,fr,ρ⟩) (fun n=>fr'≤n∧n<hi) H' (wo H)):fS todo' vals H' fr':=by
  have:=hS j (Option.some.inj hx).symm vals H' fr' ⟨pg hf,ρ,by rw [e]; exact hV,by rw [e]; exact HpR.mk' hi' hH⟩
  rw [e] at this
  rw [ht]
  exact this
theorem zV {lo hi:Nat} {S R:Type} {V:R→PV} {H1:R→zS} {fT:KR} {x:S⊕R} (hR:HR lo hi V H1 fT x) {v':PV} {H':zS} {fr':Nat} (r:R) (hx:some (Sum.inr r)=some x) (ρ:Nat→Nat) {v0:PV} {H0:zS} (e1:V r=v0) (e2:H1 r=H0)
    (hf:Nat.ble fr' hi=true) (hv:Rn (Ren.mp ⟨lo,hi,hi,ρ⟩) v0 v') (hi':ub (Ren.mp ⟨lo,hi,hi,ρ⟩).nm ((wo H0).map (·.1))=true) (hH:EntL (Ren.mp ⟨lo,hi,hi,ρ⟩) (fun n=>fr'≤n∧n<hi) H' (wo H0)):fT v' H' fr':=
  hR r (Option.some.inj hx).symm v' H' fr' (ux ρ v0 H0 ⟨e1.symm,e2.symm⟩ hf hv hi' hH)
section
variable {P:Program} {E:Env} (ok:xf P E) (hm:P.follows .mixedOrders=true) {X:Ext} (hX:yT P X)
include ok hm hX
theorem zf {lo hi:Nat} {S R:Type} {q:S→Option (S⊕R)} {p:Option (S⊕R)} {r:R} (I:S→Hd) (V:R→PV) (H1:R→zS) {f:FuncId} {fn:FnI} {args:List PV} {H:zS} {n:Nat} {ts:List Nat} (hf:xF E.fs f=some fn) (hl:lo≤hi) (hne:H≠ []) (hN:Names H lo)
    (hI: ∀ s,rP (I s).todo∧(I s).H≠ []∧Names (I s).H (I s).fr∧lo≤(I s).fr)
    (entry: ∀ fS fT x,HS lo hi I fS x→HR lo hi V H1 fT x→p=some x→Holds (run cond E true X true n ⟨f,[.cd fn.body],z8 0 args,[]::H,lo⟩ (zr lo ts fS fT)))
    (step: ∀ fS fT x,HS lo hi I fS x→HR lo hi V H1 fT x→ ∀ s,q s=some x→Holds (run cond E true X true n ⟨f,(I s).todo,yd ts (I s).V,(I s).H,(I s).fr⟩ (zr lo ts fS fT)))
    (h:zY q p r):zn P f args H lo (V r) (H1 r) hi∧ ∃ F,P.funcs[f]? =some F∧F.body.isSome=true∧(F.name== "runtime.NumGoroutine")=false:=by
  have hRet: ∀ x:S⊕R,x= .inr r→HR lo hi V H1 (so lo hi fun v H'=>v=V r∧H'=H1 r) x:=fun x hx r' hr v' H' fr' h=>by
   rw [hx] at hr
   cases hr
   exact h
  have hRet': ∀ s:S,HR lo hi V H1 (so lo hi fun v H'=>v=V r∧H'=H1 r) (.inl s:S⊕R):=fun s r' hr=>by cases hr
  have hSt': ∀ {ι:Type} (I':ι→Hd) (good below:ι→Prop),HS lo hi I (nN lo hi I' good below) (.inr r:S⊕R):=fun I' good below s hs=>by cases hs
  have hL : ∀ i:Nat×S,qQ q i.1 i.2=some r→tW P E ⟨f,(I i.2).todo,yd ts (I i.2).V,(I i.2).H,(I i.2).fr⟩ lo hi fun v H'=>v=V r∧H'=H1 r:=by
   refine fA ok hm hX (fun i:Nat×S=>I i.2) (fun i=>qQ q i.1 i.2=some r) (fun i=>i.1) (n:=n) (sy:=true) (fun i _=>⟨(hI i.2).1,(hI i.2).2⟩) fun i hi=> ?_
   obtain ⟨k,s⟩:=i
   cases k with
   |zero=>cases hi
   | succ k=>
    simp only [qQ] at hi
    cases hq:q s with
    |none=>rw [hq] at hi; cases hi
    | some x=>
     rw [hq] at hi
     cases x with
     |inl s'=>
      refine (step _ _ (.inl s') (fun s1 hs V' H' fr' ⟨h1,ρ,h2,h3⟩=> ?_) (hRet' s') s hq).get
      cases hs
      exact ⟨h1,(k,s'),ρ,hi,Nat.lt_succ_self k,rfl,h2,h3⟩
     |inr r'=>
      obtain rfl:r'=r:=by simpa using hi
      exact (step _ _ (.inr r') (hSt' _ _ _) (hRet _ rfl) s hq).get
  cases hp:p with
  |none=>rw [hp] at h; exact h.elim
  | some x=>
   rw [hp] at h
   cases x with
   |inl s=>
    obtain ⟨k,hk⟩:=h
    refine rC ok hm hX (n:=n) (sy:=true) (ts:=ts) (fun i:Nat×S=>I i.2) (fun i=>qQ q i.1 i.2=some r) hf hl hN (fun i _=>(hI i.2).2.2.2) ?_ hL
    refine (entry _ _ (.inl s) (fun s1 hs V' H' fr' ⟨h1,ρ,h2,h3⟩=> ?_) (hRet' s) hp).get
    cases hs
    exact ⟨h1,(k,s),ρ,hk,trivial,rfl,h2,h3⟩
   |inr r'=>
    cases h
    refine rC ok hm hX (n:=n) (sy:=true) (ts:=ts) (fun i:Nat×S=>I i.2) (fun i=>qQ q i.1 i.2=some r) hf hl hN (fun i _=>(hI i.2).2.2.2) ?_ hL
    exact (entry _ _ (.inr r) (hSt' _ _ _) (hRet _ rfl) hp).get
end
theorem rF (n:Nat):((n:Int)-1).toNat=n-1:=by omega
theorem s7 (n:Nat):((n:Int)+1).toNat=n+1:=by omega
section
variable {P:Program} {E:Env} (ok:xf P E) (hm:P.follows .mixedOrders=true) {X:Ext} (hX:yT P X)
include ok hm hX
theorem se {f:FuncId} {fn:FnI} {args:List PV} {H H0:zS} {lo hi:Nat} {v0:PV} {sy:Bool} {n:Nat} (hf:xF E.fs f=some fn) (hl:lo≤hi) (hne:H≠ []) (hN:Names H lo)
    (h:Holds (run cond E sy X false n ⟨f,[.cd fn.body],z8 0 args,[]::H,lo⟩ (zr lo [] (fun _ _ _ _=>False) (so lo hi fun v H'=>v=v0∧H'=H0)))):zn P f args H lo v0 H0 hi∧ ∃ F,P.funcs[f]? =some F∧F.body.isSome=true∧(F.name== "runtime.NumGoroutine")=false:=by
  refine ws ok hf hl ?_
  intro σ w a b cs ha hs hn hb hbk
  obtain ⟨l,hl',hok⟩:=sE ok hX (sP ok hm) n false ⟨f,[.cd fn.body],z8 0 args,[]::H,lo⟩ _ (by intro i hi; simp at hi; subst hi; trivial) (by simp) (fun n e hn=>hN n e (by simpa [hget,zt] using hn)) h.get
  cases l with
  |stop j c'=>exact hl'.elim
  | ret v' H' fr'=>
   obtain ⟨hf',ρ,v,H2,hR,hv,hH⟩:=hl'
   have hH:=hH.untrim
   obtain ⟨hgr,hrun⟩:=hok
   obtain ⟨σ',w',u,fm,q1,q2,q3,q4⟩:=hrun σ w a b cs ha hs (hn.cut hf') hb hbk
   have htr:=Ren.tr ⟨lo,hi,hi,ρ⟩ σ'
   have hfresh: ∀ m,fr'≤m∧m<hi→σ' m=none:=fun m hm=>by
    have:=hgr.1
    simp only at this
    rw [q4.ext m (by show m<lo∨fr'≤m; omega)]
    exact hn m (by show lo≤m; omega) hm.2
   refine ⟨Ren.sg ⟨lo,hi,hi,ρ⟩ σ',w',u,fm,v,H2,q1,q2,q3,hR,hv σ' _ u htr q4.v,hH.sim htr hfresh q4.sim,fun m hm=> ?_,q4.frm.mono (fun _ h=>h) fun k hk=>hH.own htr hfresh hk⟩
   unfold Ren.sg
   rw [if_pos hm]
   have:=hgr.1
   simp only at this
   exact q4.ext m (by show m<lo∨fr'≤m; omega)
theorem my {f:FuncId} {fn:FnI} {hi n:Nat} (hf:xF E.fs f=some fn) (h1:1≤hi) {fr:Nat} (hfr:Nat.ble fr hi=true)
    (e: ∀ (fS:KS) (fT:KR),run cond E true X false n ⟨f,[.cd fn.body],[],[[],[]],0⟩ (zr 0 [] fS fT)=fT (.tf true) [[]] fr):Con.ok P ⟨f,[],fun _=>true,fun _=> .bool true,fun _=> [],fun _ _=> .dead⟩:=fun x _=>by
  obtain ⟨h2,h3⟩:=se (args:= []) (H:= [[]]) (H0:= [[]]) (lo:=0) (hi:=hi) (v0:= .bool true) (sy:=true) (n:=n) ok hm hX hf (Nat.zero_le _) (by simp) (zW rfl)
    (Holds.eq (e _ _) (ux id _ _ ⟨rfl,rfl⟩ hfr (zR rfl) rfl zE))
  exact ⟨⟨hi,h1,h2⟩,h3⟩
end
namespace S
def fb {α:Type} (n:Nat) (f:Nat→α):List α:=(List.range n).map f
def at' {α:Type} [Inhabited α] (L:List α) (j:Nat):α:=L.getD j default
def fZ {α:Type} (L:List α) (x:α):List α:=L++ [x]
end S
section
variable {α β:Type} [Inhabited α]
theorem zZ {n:Nat} {f:Nat→α}:(S.fb n f).length=n:=by simp [S.fb]
theorem y9 {n:Nat} {f:Nat→α} {j:Nat} (h:j<n):S.at' (S.fb n f) j=f j:=by simp [S.fb,S.at',h]
theorem z4 {n:Nat} {f:Nat→α} (p:α→β) {j:Nat} (h:j<(S.fb n f).length):p (S.at' (S.fb n f) j)=p (f j):=by rw [y9 (by simpa [S.fb] using h)]
theorem wW (L:List α):S.fb L.length (S.at' L)=L:=by
 apply List.ext_getElem
 · simp [S.fb]
 · intro i h1 h2; simp [S.fb,S.at',h2]
theorem tX {L:List α} {j:Nat} (h:j<L.length):S.at' L j=L[j]:=by simp [S.at',h]
theorem yG {L:List α} {x:α}:(S.fZ L x).length=L.length+1:=by simp [S.fZ]
theorem kt {L:List α} {x:α} (p:α→β) (j:Nat) (h:j<(S.fZ L x).length):p (S.at' (S.fZ L x) j)=uL L.length (fun j=>p (S.at' L j)) (fun _=>p x) j:=by
 unfold uL
 cases hb:Nat.blt j L.length with
 |true=>
  have:j<L.length:=w8 hb
  simp only [cond_true]
  rw [S.fZ,S.at',List.getD_eq_getElem?_getD,List.getElem?_append_left this]
  simp [S.at']
 |false=>
  have h1: ¬ j<L.length:=fun h=>by rw [show Nat.blt j L.length=true by simpa [Nat.blt_eq] using h] at hb; cases hb
  rw [yG] at h
  have:j=L.length:=by omega
  subst this
  simp [S.fZ,S.at']
theorem xn {n:Nat} {f g:Nat→α} (h: ∀ j,j<n→f j=g j):S.fb n f=S.fb n g:=by
 unfold S.fb
 exact List.map_congr_left fun j hj=>h j (List.mem_range.1 hj)
theorem gF {n:Nat} {f:Nat→α} {L:List α} (hn:n=L.length) (h: ∀ j,j<n→f j=S.at' L j):S.fb n f=L:=by
 subst hn; rw [xn h,wW]
theorem qF {n m:Nat} {f g:Nat→α}:S.fb n f=S.fb m g↔n=m∧ ∀ j,j<n→f j=g j:=by
 constructor
 · intro h
   have hl:=congrArg List.length h
   rw [zZ,zZ] at hl
   refine ⟨hl,fun j hj=> ?_⟩
   rw [← y9 (f:=f) hj,h,y9 (by omega)]
 · rintro ⟨rfl,h⟩; exact xn h
end
theorem gD {r:Mp} {n:Nat} {cs:List Col} {l:List PV} (h: ∀ j,j<n→ ∀ i,i<yF cs→ ∃ v',nth l (j*yF cs+i)=some v'∧Rn r (yO cs j i) v'):Rb r (.cols n cs) (.cells l):=vu fun j i hj hi=>h j hj i hi
theorem xX {r:Mp} {fresh:Nat→Prop} {H':zS} {k:Nat} {blk blk':Blk} {l:Lvl} (hu:r.use k) (hg:hget H' (r.nm k)=some (true,blk')) (hd:blk'≠ .dead) (h:Rb r blk blk') (hl:EntL r fresh H' l):EntL r fresh H' ((k,true,blk)::l):=
 kr hu hg hd id h hl
section
variable {α β:Type} [Inhabited α]
theorem z7 {L:List α} {x:α} {n:Nat} (h:L.length=n):(S.fZ L x).length=n+1:=by rw [yG,h]
theorem ym {L:List α} {x:α} (p:α→β) {n:Nat} (hn:L.length=n) {f:Nat→β} (hf: ∀ j,j<L.length→p (S.at' L j)=f j) (j:Nat) (h:j<(S.fZ L x).length):p (S.at' (S.fZ L x) j)=cond (Nat.blt j n) (f j) (p x):=by
 subst hn
 rw [kt p j h]
 unfold uL
 cases hb:Nat.blt j L.length with
 |true=>exact hf j (w8 hb)
 |false=>rfl
end
section
variable {α β γ δ ε ζ:Type} [Inhabited α] [Inhabited β] [Inhabited γ] [Inhabited δ] [Inhabited ε] [Inhabited ζ]
theorem jx (L:List α):(S.fb L.length fun j=>S.at' L j)=L:=wW L
omit [Inhabited α] in
theorem uN {n:Nat} {f:Nat→α}:S.fb (n+1) f=S.fZ (S.fb n f) (f n):=by simp [S.fb,S.fZ,List.range_succ]
end
theorem zm {p:Prop} {d:Decidable p} {b:Bool} (h:b=true) (e:b= @decide p d):p:=by
 subst e; exact @of_decide_eq_true p d h
end Go.Ev
namespace Go.Ev
open Go.Proofs
noncomputable abbrev pvE:PV:=PV.str {data:= {toList:= []}}
noncomputable def Tryz.tys:List TyI:=
([⟨.other,1,0,none,true,true⟩,
 ⟨.func,1,8,some [PV.nilf],true,true⟩,
 ⟨.int .i64,1,8,some [.int .i64 0],true,true⟩,
 ⟨.int .i64,1,8,some [.int .i64 0],true,true⟩,
 ⟨.bool,1,1,some [PV.tf false],true,true⟩,
 ⟨.int .u8,1,1,some [.int .u8 0],true,true⟩,
 ⟨.int .u8,1,1,some [.int .u8 0],true,true⟩,
 ⟨.struct [(0,2),(1,3),(2,4),(3,6)],4,24,some [.int .i64 0,.int .i64 0,PV.tf false,.int .u8 0],true,true⟩,
 ⟨.struct [(0,2),(1,3),(2,4),(3,6)],4,24,some [.int .i64 0,.int .i64 0,PV.tf false,.int .u8 0],true,true⟩,
 ⟨.string,1,16,some [pvE],true,true⟩,
 ⟨.string,1,16,some [pvE],true,true⟩,
 ⟨.string,1,16,some [pvE],true,true⟩,
 ⟨.int .u64,1,8,some [.int .u64 0],true,true⟩,
 ⟨.struct [(0,9),(1,12)],2,24,some [pvE,.int .u64 0],false,true⟩,
 ⟨.struct [(0,9),(1,12)],2,24,some [pvE,.int .u64 0],false,true⟩,
 ⟨.ptr 162,1,8,some [PV.nilp],true,true⟩,
 ⟨.ptr 165,1,8,some [PV.nilp],true,true⟩,
 ⟨.ptr 172,1,8,some [PV.nilp],true,true⟩,
 ⟨.struct [(0,17)],1,8,some [PV.nilp],false,true⟩,
 ⟨.struct [(0,17)],1,8,some [PV.nilp],false,true⟩,
 ⟨.other,1,16,some [PV.nili],true,true⟩,
 ⟨.int .i32,1,4,some [.int .i32 0],true,true⟩,
 ⟨.slice 3,1,24,some [PV.nils],true,true⟩,
 ⟨.struct [(0,4),(1,22)],2,32,some [PV.tf false,PV.nils],true,true⟩,
 ⟨.struct [(0,4),(1,22)],2,32,some [PV.tf false,PV.nils],true,true⟩,
 ⟨.array 2 24,4,64,some [PV.tf false,PV.nils,PV.tf false,PV.nils],true,true⟩,
 ⟨.func,1,8,some [PV.nilf],true,true⟩,
 ⟨.func,1,8,some [PV.nilf],true,true⟩,
 ⟨.slice 24,1,24,some [PV.nils],true,true⟩,
 ⟨.struct [(0,24),(2,24)],4,64,some [PV.tf false,PV.nils,PV.tf false,PV.nils],true,true⟩,
 ⟨.struct [(0,24),(2,24)],4,64,some [PV.tf false,PV.nils,PV.tf false,PV.nils],true,true⟩,
 ⟨.int .i64,1,8,some [.int .i64 0],true,true⟩,
 ⟨.other,1,0,none,true,true⟩,
 ⟨.func,1,8,some [PV.nilf],true,true⟩,
 ⟨.func,1,8,some [PV.nilf],true,true⟩,
 ⟨.func,1,8,some [PV.nilf],true,true⟩,
 ⟨.func,1,8,some [PV.nilf],true,true⟩,
 ⟨.func,1,8,some [PV.nilf],true,true⟩,
 ⟨.slice 30,1,24,some [PV.nils],true,true⟩,
 ⟨.other,1,0,none,true,true⟩]++List.replicate 6 ⟨.func,1,8,some [PV.nilf],true,true⟩++([⟨.array 2 45,2,16,some [PV.nilf,PV.nilf],true,true⟩,
 ⟨.slice 46,1,24,some [PV.nils],true,true⟩,
 ⟨.int .i16,1,2,some [.int .i16 0],true,true⟩,
 ⟨.struct [(0,48),(1,5)],2,4,some [.int .i16 0,.int .u8 0],true,true⟩,
 ⟨.struct [(0,48),(1,5)],2,4,some [.int .i16 0,.int .u8 0],true,true⟩,
 ⟨.func,1,8,some [PV.nilf],true,true⟩,
 ⟨.func,1,8,some [PV.nilf],true,true⟩,
 ⟨.array 2 30,8,128,some [PV.tf false,PV.nils,PV.tf false,PV.nils,PV.tf false,PV.nils,PV.tf false,PV.nils],true,true⟩,
 ⟨.slice 53,1,24,some [PV.nils],true,true⟩,
 ⟨.func,1,8,some [PV.nilf],true,true⟩,
 ⟨.func,1,8,some [PV.nilf],true,true⟩,
 ⟨.func,1,8,some [PV.nilf],true,true⟩,
 ⟨.func,1,8,some [PV.nilf],true,true⟩,
 ⟨.other,1,0,none,true,true⟩]++List.replicate 12 ⟨.func,1,8,some [PV.nilf],true,true⟩++([⟨.other,1,0,none,true,true⟩,
 ⟨.func,1,8,some [PV.nilf],true,true⟩,
 ⟨.func,1,8,some [PV.nilf],true,true⟩,
 ⟨.func,1,8,some [PV.nilf],true,true⟩,
 ⟨.func,1,8,some [PV.nilf],true,true⟩,
 ⟨.slice 31,1,24,some [PV.nils],true,true⟩,
 ⟨.other,1,0,none,true,true⟩,
 ⟨.func,1,8,some [PV.nilf],true,true⟩,
 ⟨.func,1,8,some [PV.nilf],true,true⟩,
 ⟨.func,1,8,some [PV.nilf],true,true⟩,
 ⟨.func,1,8,some [PV.nilf],true,true⟩,
 ⟨.struct [(0,31)],1,8,some [.int .i64 0],true,true⟩,
 ⟨.struct [(0,31)],1,8,some [.int .i64 0],true,true⟩,
 ⟨.func,1,8,some [PV.nilf],true,true⟩,
 ⟨.func,1,8,some [PV.nilf],true,true⟩,
 ⟨.func,1,8,some [PV.nilf],true,true⟩,
 ⟨.func,1,8,some [PV.nilf],true,true⟩,
 ⟨.func,1,8,some [PV.nilf],true,true⟩,
 ⟨.other,1,0,none,true,true⟩,
 ⟨.func,1,8,some [PV.nilf],true,true⟩,
 ⟨.func,1,8,some [PV.nilf],true,true⟩,
 ⟨.func,1,8,some [PV.nilf],true,true⟩,
 ⟨.func,1,8,some [PV.nilf],true,true⟩,
 ⟨.func,1,8,some [PV.nilf],true,true⟩,
 ⟨.int .u64,1,8,some [.int .u64 0],true,true⟩,
 ⟨.func,1,8,some [PV.nilf],true,true⟩,
 ⟨.slice 5,1,24,some [PV.nils],true,true⟩,
 ⟨.func,1,8,some [PV.nilf],true,true⟩,
 ⟨.other,1,0,none,true,true⟩]++List.replicate 6 ⟨.func,1,8,some [PV.nilf],true,true⟩++ [⟨.ptr 84,1,8,some [PV.nilp],true,true⟩,
 ⟨.func,1,8,some [PV.nilf],true,true⟩,
 ⟨.func,1,8,some [PV.nilf],true,true⟩,
 ⟨.int .u64,1,8,some [.int .u64 0],true,true⟩,
 ⟨.other,1,0,none,true,true⟩,
 ⟨.func,1,8,some [PV.nilf],true,true⟩,
 ⟨.ptr 115,1,8,some [PV.nilp],true,true⟩,
 ⟨.struct [(0,113),(1,98)],2,32,some [PV.nilp,PV.nils],true,true⟩,
 ⟨.struct [(0,113),(1,98)],2,32,some [PV.nilp,PV.nils],true,true⟩,
 ⟨.func,1,8,some [PV.nilf],true,true⟩,
 ⟨.other,1,16,some [PV.nili],false,true⟩,
 ⟨.other,1,16,some [PV.nili],false,true⟩,
 ⟨.other,1,0,none,true,true⟩,
 ⟨.func,1,8,some [PV.nilf],true,true⟩,
 ⟨.func,1,8,some [PV.nilf],true,true⟩,
 ⟨.func,1,8,some [PV.nilf],true,true⟩,
 ⟨.func,1,8,some [PV.nilf],true,true⟩,
 ⟨.array 256 4,256,256,some (rep [PV.tf false] 256),true,true⟩,
 ⟨.array 256 4,256,256,some (rep [PV.tf false] 256),true,true⟩,
 ⟨.other,1,0,none,true,true⟩,
 ⟨.func,1,8,some [PV.nilf],true,true⟩,
 ⟨.func,1,8,some [PV.nilf],true,true⟩,
 ⟨.ptr 125,1,8,some [PV.nilp],true,true⟩,
 ⟨.func,1,8,some [PV.nilf],true,true⟩,
 ⟨.func,1,8,some [PV.nilf],true,true⟩,
 ⟨.func,1,8,some [PV.nilf],true,true⟩,
 ⟨.func,1,8,some [PV.nilf],true,true⟩,
 ⟨.other,1,0,none,true,true⟩,
 ⟨.func,1,8,some [PV.nilf],true,true⟩,
 ⟨.int .u32,1,4,some [.int .u32 0],true,true⟩,
 ⟨.other,1,0,none,true,true⟩,
 ⟨.func,1,8,some [PV.nilf],true,true⟩,
 ⟨.other,1,0,none,true,true⟩,
 ⟨.func,1,8,some [PV.nilf],true,true⟩,
 ⟨.ptr 5,1,8,some [PV.nilp],true,true⟩,
 ⟨.other,1,0,none,true,true⟩,
 ⟨.func,1,8,some [PV.nilf],true,true⟩,
 ⟨.func,1,8,some [PV.nilf],true,true⟩,
 ⟨.func,1,8,some [PV.nilf],true,true⟩,
 ⟨.other,1,0,none,true,true⟩,
 ⟨.func,1,8,some [PV.nilf],true,true⟩,
 ⟨.func,1,8,some [PV.nilf],true,true⟩,
 ⟨.func,1,8,some [PV.nilf],true,true⟩,
 ⟨.func,1,8,some [PV.nilf],true,true⟩,
 ⟨.other,1,8,some [PV.nilp],true,true⟩,
 ⟨.func,1,8,some [PV.nilf],true,true⟩,
 ⟨.func,1,8,some [PV.nilf],true,true⟩,
 ⟨.func,1,8,some [PV.nilf],true,true⟩,
 ⟨.func,1,8,some [PV.nilf],true,true⟩,
 ⟨.array 256 5,256,256,some (rep [.int .u8 0] 256),true,true⟩,
 ⟨.struct [(0,5),(1,5)],2,2,some [.int .u8 0,.int .u8 0],true,true⟩,
 ⟨.struct [(0,5),(1,5)],2,2,some [.int .u8 0,.int .u8 0],true,true⟩,
 ⟨.array 16 158,32,32,some (rep [.int .u8 0] 32),true,true⟩,
 ⟨.func,1,8,some [PV.nilf],true,true⟩,
 ⟨.struct [(0,17),(1,17),(2,17),(3,9)],4,40,some [PV.nilp,PV.nilp,PV.nilp,pvE],false,true⟩,
 ⟨.struct [(0,17),(1,17),(2,17),(3,9)],4,40,some [PV.nilp,PV.nilp,PV.nilp,pvE],false,true⟩,
 ⟨.array 0 16,0,0,some [],true,true⟩,
 ⟨.struct [(0,163)],0,0,some [],false,true⟩,
 ⟨.struct [(0,163)],0,0,some [],false,true⟩,
 ⟨.int .u8,1,1,some [.int .u8 0],true,true⟩,
 ⟨.int .u8,1,1,some [.int .u8 0],true,true⟩,
 ⟨.func,1,8,some [PV.nilf],true,true⟩,
 ⟨.int .i32,1,4,some [.int .i32 0],true,true⟩,
 ⟨.int .i32,1,4,some [.int .i32 0],true,true⟩,
  {
   d:=
    TD.struct
      [(0,12),(1,12),(2,136),(3,166),(4,5),(5,5),(6,167),(7,168),(8,141),(9,169),(10,170)],
   size:=11,bytes:=48,
   zero :=
    some
      [.int .u64 0,.int .u64 0,
       .int .u32 0,.int .u8 0,
       .int .u8 0,.int .u8 0,
       .int .u8 0,PV.nilf,PV.nilp,
       .int .i32 0,.int .i32 0],
   eqok:=false,known:=true},
  {
   d:=
    TD.struct
      [(0,12),(1,12),(2,136),(3,166),(4,5),(5,5),(6,167),(7,168),(8,141),(9,169),(10,170)],
   size:=11,bytes:=48,
   zero :=
    some
      [.int .u64 0,.int .u64 0,
       .int .u32 0,.int .u8 0,
       .int .u8 0,.int .u8 0,
       .int .u8 0,PV.nilf,PV.nilp,
       .int .i32 0,.int .i32 0],
   eqok:=false,known:=true}])))
noncomputable def Tryz.fns:List (Option FnI):=
 [none,none,some (zU Tryz.f2),some (zU Tryz.f3),some (zU Tryz.f4),some (zU Tryz.f5),some (zU Tryz.f6),some (zU Tryz.f7),some (zU Tryz.f8),some (zU Tryz.f9),some (zU Tryz.f10),some (zU Tryz.f11),some (zU Tryz.f12),some (zU Tryz.f13),some (zU Tryz.f14),some (zU Tryz.f15),some (zU Tryz.f16),some (zU Tryz.f17),some (zU Tryz.f18),some (zU Tryz.f19),some (zU Tryz.f20),some (zU Tryz.f21),some (zU Tryz.f22),some (zU Tryz.f23),some (zU Tryz.f24),some (zU Tryz.f25),some (zU Tryz.f26),some (zU Tryz.f27),some (zU Tryz.f28),some (zU Tryz.f29),some (zU Tryz.f30),some (zU Tryz.f31),some (zU Tryz.f32),some (zU Tryz.f33),some (zU Tryz.f34),some (zU Tryz.f35),some (zU Tryz.f36),some (zU Tryz.f37),some (zU Tryz.f38),some (zU Tryz.f39),some (zU Tryz.f40),some (zU Tryz.f41),some (zU Tryz.f42),some (zU Tryz.f43),some (zU Tryz.f44),some (zU Tryz.f45),some (zU Tryz.f46),some (zU Tryz.f47),some (zU Tryz.f48),some (zU Tryz.f49),some (zU Tryz.f50),some (zU Tryz.f51),some (zU Tryz.f52),some (zU Tryz.f53),some (zU Tryz.f54),some (zU Tryz.f55),some (zU Tryz.f56),some (zU Tryz.f57),some (zU Tryz.f58),some (zU Tryz.f59),some (zU Tryz.f60),some (zU Tryz.f61),some (zU Tryz.f62),some (zU Tryz.f63),some (zU Tryz.f64),some (zU Tryz.f65),some (zU Tryz.f66),some (zU Tryz.f67),some (zU Tryz.f68),some (zU Tryz.f69),some (zU Tryz.f70),some (zU Tryz.f71),some (zU Tryz.f72),some (zU Tryz.f73),some (zU Tryz.f74),some (zU Tryz.f75),some (zU Tryz.f76),some (zU Tryz.f77),some (zU Tryz.f78),some (zU Tryz.f79),some (zU Tryz.f80),some (zU Tryz.f81),some (zU Tryz.f82),some (zU Tryz.f83),some (zU Tryz.f84),some (zU Tryz.f85),some (zU Tryz.f86),some (zU Tryz.f87),some (zU Tryz.f88),some (zU Tryz.f89),some (zU Tryz.f90),some (zU Tryz.f91),some (zU Tryz.f92),some (zU Tryz.f93),some (zU Tryz.f94),some (zU Tryz.f95),some (zU Tryz.f96),some (zU Tryz.f97),some (zU Tryz.f98),some (zU Tryz.f99),some (zU Tryz.f100),some (zU Tryz.f101),some (zU Tryz.f102),some (zU Tryz.f103),some (zU Tryz.f104),some (zU Tryz.f105),some (zU Tryz.f106),some (zU Tryz.f107),some (zU Tryz.f108),some (zU Tryz.f109),some (zU Tryz.f110),some (zU Tryz.f111),some (zU Tryz.f112),some (zU Tryz.f113),some (zU Tryz.f114),some (zU Tryz.f115),some (zU Tryz.f116),some (zU Tryz.f117),some (zU Tryz.f118),some (zU Tryz.f119),some (zU Tryz.f120),some (zU Tryz.f121),some (zU Tryz.f122),some (zU Tryz.f123),some (zU Tryz.f124),some (zU Tryz.f125),some (zU Tryz.f126),some (zU Tryz.f127),some (zU Tryz.f128),some (zU Tryz.f129),some (zU Tryz.f130),some (zU Tryz.f131),some (zU Tryz.f132),some (zU Tryz.f133),some (zU Tryz.f134),some (zU Tryz.f135),some (zU Tryz.f136),some (zU Tryz.f137),some (zU Tryz.f138),some (zU Tryz.f139),some (zU Tryz.f140),some (zU Tryz.f141),some (zU Tryz.f142),some (zU Tryz.f143),some (zU Tryz.f144),some (zU Tryz.f145),some (zU Tryz.f146),some (zU Tryz.f147),some (zU Tryz.f148),some (zU Tryz.f149),some (zU Tryz.f150),some (zU Tryz.f151),none,some (zU Tryz.f153),some (zU Tryz.f154),some (zU Tryz.f155),none,none,some (zU Tryz.f158),some (zU Tryz.f159),none,some (zU Tryz.f161),some (zU Tryz.f162),some (zU Tryz.f163),none,none,none,none,none,none,none,none,none,none,none,none,none,none,none,none,none,none,none,none,none,some (zU Tryz.f185)]
noncomputable def Tryz.env:Env:=⟨Tryz.tys,Tryz.fns⟩
theorem Tryz.tys_ok:Tryz.tys=(List.range 173).map (yt Tryz.prog):=by kernel_rfl
theorem Tryz.fns_ok:Tryz.fns=Tryz.prog.funcs.toList.map ls:=by kernel_rfl
theorem Tryz.named_ok:iT Tryz.prog.funcs.toList=true:=by kernel_rfl
theorem Tryz.envOk:xf Tryz.prog Tryz.env:=li 173 Tryz.tys_ok Tryz.fns_ok Tryz.named_ok
theorem Tryz.mixed:Tryz.prog.follows .mixedOrders=true:=by kernel_rfl
end Go.Ev
