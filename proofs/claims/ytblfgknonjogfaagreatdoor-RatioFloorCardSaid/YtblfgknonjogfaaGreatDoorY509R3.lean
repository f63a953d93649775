/-
  The reckoner, 3 of 3: what this statement needs of it.
-/
import Derived.Test.YtblfgknonjogfaaGreatDoorY509R2
set_option linter.unusedVariables false
set_option linter.unusedSimpArgs false
set_option linter.unusedSectionVars false
namespace Go.Ev
open Go.RowKit
def qU {S R:Type} (q:S→Option (S⊕R)):Nat→S→Option R
  |0,_=>none
  |k+1,s=>match q s with
   |some (.inl s')=>qU q k s'
   |some (.inr r)=>some r
   |none=>none
def Comes {S R:Type} (q:S→Option (S⊕R)) (s:S) (r:R):Prop:= ∃ k,qU q k s=some r
def zX {S R:Type} (q:S→Option (S⊕R)) (p:Option (S⊕R)) (r:R):Prop:=match p with
 |some (.inl s)=>Comes q s r
 |some (.inr r')=>r'=r
 |none=>False
section
variable {S R:Type} {q:S→Option (S⊕R)}
theorem Comes.next {s s':S} {r:R} (e:q s=some (.inl s')) (h:Comes q s' r):Comes q s r:=by
 obtain ⟨k,hk⟩:=h
 exact ⟨k+1,by simp only [qU,e]; exact hk⟩
theorem Comes.done {s:S} {r:R} (e:q s=some (.inr r)):Comes q s r:=⟨1,by simp only [qU,e]⟩
theorem Comes.of {s:S} {r:R} (h:zX q (q s) r):Comes q s r:=by
 unfold zX at h
 split at h
 · rename_i e; exact .next e h
 · rename_i e; subst h; exact .done e
 · exact h.elim
theorem zG {r r':R}:zX q (some (.inr r')) r=(r'=r):=rfl
theorem zI {r:R}:zX q none r=False:=rfl
theorem zN {b:Bool} {x y:Option (S⊕R)} {r:R} (h1:b=true→zX q x r) (h2:b=false→zX q y r):zX q (cond b x y) r:=by
 cases b
 · exact h2 rfl
 · exact h1 rfl
theorem zK {b:Bool} {x y:Option (S⊕R)} {r:R} (hb:b=true) (h1:zX q x r):zX q (cond b x y) r:=by subst hb; exact h1
theorem zd {b:Bool} {x y:Option (S⊕R)} {r:R} (hb:b=false) (h1:zX q y r):zX q (cond b x y) r:=by subst hb; exact h1
end
inductive Holds (p:Prop):Prop
  |mk (h:p):Holds p
theorem Holds.eq {a b:Prop} (h:a=b) (hb:b):Holds a:=⟨h ▸ hb⟩
theorem Holds.get {a:Prop}:Holds a→a
  |⟨h⟩=>h
def iZ (lo hi:Nat) (d:Hd) (vals:List PV) (H':zQ) (fr':Nat):Prop:=
 fr'≤hi∧ ∃ ρ:Nat→Nat,Rns (Ren.mp ⟨lo,hi,d.fr,ρ⟩) d.V vals∧HpR (Ren.mp ⟨lo,hi,d.fr,ρ⟩) (fun n=>fr'≤n∧n<hi) d.H H'
abbrev KS:=List It→List PV→zQ→Nat→Prop
abbrev KR:=PV→zQ→Nat→Prop
def HS (lo hi:Nat) {S R:Type} (I:S→Hd) (fA:KS) (x:S⊕R):Prop:= ∀ s,x= .inl s→ ∀ V' H' fr',iZ lo hi (I s) V' H' fr'→fA (I s).todo V' H' fr'
def HR (lo hi:Nat) {S R:Type} (V:R→PV) (H1:R→zQ) (fC:KR) (x:S⊕R):Prop:= ∀ r,x= .inr r→ ∀ v' H' fr',sS lo hi (fun v H=>v=V r∧H=H1 r) v' H' fr'→fC v' H' fr'
theorem zA {α:Type} {c:Bool} {a b:Option α} {x:α} {A B:Prop} (h:cond c a b=some x) (h1:c=true→a=some x→A) (h2:c=false→b=some x→B):cond c A B:=by
 cases c
 · exact h2 rfl h
 · exact h1 rfl h
theorem zF {α:Type} {x:α} {A:Prop} (h:(none:Option α)=some x):A:=by cases h
theorem zb {lo hi:Nat} {S R:Type} {I:S→Hd} {fA:KS} {x:S⊕R} (hS:HS lo hi I fA x) {todo':List It} {vals:List PV} {H':zQ} {fr':Nat} (j:S) (hx:some (Sum.inl j)=some x) (ρ:Nat→Nat) {todo:List It} {V:List PV} {H:zQ} {fr:Nat} (e:I j=⟨todo,V,H,fr⟩)
    (hf:Nat.ble fr' hi=true) (ht:todo'=todo) (hV:Rns (Ren.mp ⟨lo,hi,fr,ρ⟩) V vals) (hi':uY (Ren.mp ⟨lo,hi,fr,ρ⟩).nm ((wh H).map (·.1))=true) (hH:EntL (Ren.mp ⟨lo,hi,fr,ρ⟩) (fun n=>fr'≤n∧n<hi) H' (wh H)):fA todo' vals H' fr':=by
  have:=hS j (Option.some.inj hx).symm vals H' fr' ⟨qu hf,ρ,by rw [e]; exact hV,by rw [e]; exact HpR.mk' hi' hH⟩
  rw [e] at this
  rw [ht]
  exact this
theorem zU {lo hi:Nat} {S R:Type} {V:R→PV} {H1:R→zQ} {fC:KR} {x:S⊕R} (hR:HR lo hi V H1 fC x) {v':PV} {H':zQ} {fr':Nat} (r:R) (hx:some (Sum.inr r)=some x) (ρ:Nat→Nat) {v0:PV} {H0:zQ} (e1:V r=v0) (e2:H1 r=H0)
    (hf:Nat.ble fr' hi=true) (hv:Rn (Ren.mp ⟨lo,hi,hi,ρ⟩) v0 v') (hi':uY (Ren.mp ⟨lo,hi,hi,ρ⟩).nm ((wh H0).map (·.1))=true) (hH:EntL (Ren.mp ⟨lo,hi,hi,ρ⟩) (fun n=>fr'≤n∧n<hi) H' (wh H0)):fC v' H' fr':=
  hR r (Option.some.inj hx).symm v' H' fr' (u7 ρ v0 H0 ⟨e1.symm,e2.symm⟩ hf hv hi' hH)
section
variable {P:Program} {E:Env} (ok:xa P E) (hm:P.follows .mixedOrders=true) {X:Ext} (hX:yZ P X)
include ok hm hX
theorem zf {lo hi:Nat} {S R:Type} {q:S→Option (S⊕R)} {p:Option (S⊕R)} {r:R} (I:S→Hd) (V:R→PV) (H1:R→zQ) {f:FuncId} {fn:FnI} {args:List PV} {H:zQ} {n:Nat} {ts:List Nat} (hf:xG E.fs f=some fn) (hl:lo≤hi) (hne:H≠ []) (hN:Names H lo)
    (hI: ∀ s,rQ (I s).todo∧(I s).H≠ []∧Names (I s).H (I s).fr∧lo≤(I s).fr)
    (entry: ∀ fA fC x,HS lo hi I fA x→HR lo hi V H1 fC x→p=some x→Holds (run cond E true X true n ⟨f,[.cd fn.body],yD 0 args,[]::H,lo⟩ (zq lo ts fA fC)))
    (step: ∀ fA fC x,HS lo hi I fA x→HR lo hi V H1 fC x→ ∀ s,q s=some x→Holds (run cond E true X true n ⟨f,(I s).todo,yc ts (I s).V,(I s).H,(I s).fr⟩ (zq lo ts fA fC)))
    (h:zX q p r):zn P f args H lo (V r) (H1 r) hi∧ ∃ F,P.funcs[f]? =some F∧F.body.isSome=true∧(F.name== "runtime.NumGoroutine")=false:=by
  have hRet: ∀ x:S⊕R,x= .inr r→HR lo hi V H1 (sS lo hi fun v H'=>v=V r∧H'=H1 r) x:=fun x hx r' hr v' H' fr' h=>by
   rw [hx] at hr
   cases hr
   exact h
  have hRet': ∀ s:S,HR lo hi V H1 (sS lo hi fun v H'=>v=V r∧H'=H1 r) (.inl s:S⊕R):=fun s r' hr=>by cases hr
  have hSt': ∀ {ι:Type} (I':ι→Hd) (good below:ι→Prop),HS lo hi I (om lo hi I' good below) (.inr r:S⊕R):=fun I' good below s hs=>by cases hs
  have hL : ∀ i:Nat×S,qU q i.1 i.2=some r→tX P E ⟨f,(I i.2).todo,yc ts (I i.2).V,(I i.2).H,(I i.2).fr⟩ lo hi fun v H'=>v=V r∧H'=H1 r:=by
   refine gx ok hm hX (fun i:Nat×S=>I i.2) (fun i=>qU q i.1 i.2=some r) (fun i=>i.1) (n:=n) (sy:=true) (fun i _=>⟨(hI i.2).1,(hI i.2).2⟩) fun i hi=> ?_
   obtain ⟨k,s⟩:=i
   cases k with
   |zero=>cases hi
   | succ k=>
    simp only [qU] at hi
    cases hq:q s with
    |none=>rw [hq] at hi; cases hi
    | some x=>
     rw [hq] at hi
     cases x with
     |inl s'=>
      refine (step _ _ (.inl s') (fun s1 hs V' H' fr' ⟨h1,ρ,h2,h3⟩=> ?_) (hRet' s') s hq).get
      cases hs
      exact ⟨h1,(k,s'),ρ,hi,Nat.lt_succ_self k,rfl,h2,h3⟩
     |inr r'=>
      obtain rfl:r'=r:=by simpa using hi
      exact (step _ _ (.inr r') (hSt' _ _ _) (hRet _ rfl) s hq).get
  cases hp:p with
  |none=>rw [hp] at h; exact h.elim
  | some x=>
   rw [hp] at h
   cases x with
   |inl s=>
    obtain ⟨k,hk⟩:=h
    refine t9 ok hm hX (n:=n) (sy:=true) (ts:=ts) (fun i:Nat×S=>I i.2) (fun i=>qU q i.1 i.2=some r) hf hl hN (fun i _=>(hI i.2).2.2.2) ?_ hL
    refine (entry _ _ (.inl s) (fun s1 hs V' H' fr' ⟨h1,ρ,h2,h3⟩=> ?_) (hRet' s) hp).get
    cases hs
    exact ⟨h1,(k,s),ρ,hk,trivial,rfl,h2,h3⟩
   |inr r'=>
    cases h
    refine t9 ok hm hX (n:=n) (sy:=true) (ts:=ts) (fun i:Nat×S=>I i.2) (fun i=>qU q i.1 i.2=some r) hf hl hN (fun i _=>(hI i.2).2.2.2) ?_ hL
    exact (entry _ _ (.inr r) (hSt' _ _ _) (hRet _ rfl) hp).get
end
theorem se (n:Nat):((n:Int)-1).toNat=n-1:=by omega
theorem sM (n:Nat):((n:Int)+1).toNat=n+1:=by omega
section
variable {P:Program} {E:Env} (ok:xa P E) (hm:P.follows .mixedOrders=true) {X:Ext} (hX:yZ P X)
include ok hm hX
theorem sd {f:FuncId} {fn:FnI} {args:List PV} {H H0:zQ} {lo hi:Nat} {v0:PV} {sy:Bool} {n:Nat} (hf:xG E.fs f=some fn) (hl:lo≤hi) (hne:H≠ []) (hN:Names H lo)
    (h:Holds (run cond E sy X false n ⟨f,[.cd fn.body],yD 0 args,[]::H,lo⟩ (zq lo [] (fun _ _ _ _=>False) (sS lo hi fun v H'=>v=v0∧H'=H0)))):zn P f args H lo v0 H0 hi∧ ∃ F,P.funcs[f]? =some F∧F.body.isSome=true∧(F.name== "runtime.NumGoroutine")=false:=by
  refine wg ok hf hl ?_
  intro σ w a b cs ha hs hn hb hbk
  obtain ⟨l,hl',hok⟩:=sf ok hX (sG ok hm) n false ⟨f,[.cd fn.body],yD 0 args,[]::H,lo⟩ _ (by intro i hi; simp at hi; subst hi; trivial) (by simp) (fun n e hn=>hN n e (by simpa [hget,zp] using hn)) h.get
  cases l with
  |stop j c'=>exact hl'.elim
  | ret v' H' fr'=>
   obtain ⟨hf',ρ,v,H2,hR,hv,hH⟩:=hl'
   have hH:=hH.untrim
   obtain ⟨hgr,hrun⟩:=hok
   obtain ⟨σ',w',u,fm,q1,q2,q3,q4⟩:=hrun σ w a b cs ha hs (hn.cut hf') hb hbk
   have htr:=Ren.tr ⟨lo,hi,hi,ρ⟩ σ'
   have hfresh: ∀ m,fr'≤m∧m<hi→σ' m=none:=fun m hm=>by
    have:=hgr.1
    simp only at this
    rw [q4.ext m (by show m<lo∨fr'≤m; omega)]
    exact hn m (by show lo≤m; omega) hm.2
   refine ⟨Ren.sg ⟨lo,hi,hi,ρ⟩ σ',w',u,fm,v,H2,q1,q2,q3,hR,hv σ' _ u htr q4.v,hH.sim htr hfresh q4.sim,fun m hm=> ?_,q4.frm.mono (fun _ h=>h) fun k hk=>hH.own htr hfresh hk⟩
   unfold Ren.sg
   rw [if_pos hm]
   have:=hgr.1
   simp only at this
   exact q4.ext m (by show m<lo∨fr'≤m; omega)
theorem kl {f:FuncId} {fn:FnI} {hi n:Nat} (hf:xG E.fs f=some fn) (h1:1≤hi) {fr:Nat} (hfr:Nat.ble fr hi=true)
    (e: ∀ (fA:KS) (fC:KR),run cond E true X false n ⟨f,[.cd fn.body],[],[[],[]],0⟩ (zq 0 [] fA fC)=fC (.tf true) [[]] fr):Con.ok P ⟨f,[],fun _=>true,fun _=> .bool true,fun _=> [],fun _ _=> .dead⟩:=fun x _=>by
  obtain ⟨h2,h3⟩:=sd (args:= []) (H:= [[]]) (H0:= [[]]) (lo:=0) (hi:=hi) (v0:= .bool true) (sy:=true) (n:=n) ok hm hX hf (Nat.zero_le _) (by simp) (zV rfl)
    (Holds.eq (e _ _) (u7 id _ _ ⟨rfl,rfl⟩ hfr (zR rfl) rfl zE))
  exact ⟨⟨hi,h1,h2⟩,h3⟩
end
namespace S
def fJ {α:Type} (n:Nat) (f:Nat→α):List α:=(List.range n).map f
def at' {α:Type} [Inhabited α] (L:List α) (j:Nat):α:=L.getD j default
def fI {α:Type} (L:List α) (x:α):List α:=L++ [x]
end S
section
variable {α β:Type} [Inhabited α]
theorem zW {n:Nat} {f:Nat→α}:(S.fJ n f).length=n:=by simp [S.fJ]
theorem y7 {n:Nat} {f:Nat→α} {j:Nat} (h:j<n):S.at' (S.fJ n f) j=f j:=by simp [S.fJ,S.at',h]
theorem z3 {n:Nat} {f:Nat→α} (p:α→β) {j:Nat} (h:j<(S.fJ n f).length):p (S.at' (S.fJ n f) j)=p (f j):=by rw [y7 (by simpa [S.fJ] using h)]
theorem wT (L:List α):S.fJ L.length (S.at' L)=L:=by
 apply List.ext_getElem
 · simp [S.fJ]
 · intro i h1 h2; simp [S.fJ,S.at',h2]
theorem tT {L:List α} {j:Nat} (h:j<L.length):S.at' L j=L[j]:=by simp [S.at',h]
theorem yE {L:List α} {x:α}:(S.fI L x).length=L.length+1:=by simp [S.fI]
theorem mc {L:List α} {x:α} (p:α→β) (j:Nat) (h:j<(S.fI L x).length):p (S.at' (S.fI L x) j)=uZ L.length (fun j=>p (S.at' L j)) (fun _=>p x) j:=by
 unfold uZ
 cases hb:Nat.blt j L.length with
 |true=>
  have:j<L.length:=vM hb
  simp only [cond_true]
  rw [S.fI,S.at',List.getD_eq_getElem?_getD,List.getElem?_append_left this]
  simp [S.at']
 |false=>
  have h1: ¬ j<L.length:=fun h=>by rw [show Nat.blt j L.length=true by simpa [Nat.blt_eq] using h] at hb; cases hb
  rw [yE] at h
  have:j=L.length:=by omega
  subst this
  simp [S.fI,S.at']
theorem xk {n:Nat} {f g:Nat→α} (h: ∀ j,j<n→f j=g j):S.fJ n f=S.fJ n g:=by
 unfold S.fJ
 exact List.map_congr_left fun j hj=>h j (List.mem_range.1 hj)
theorem gQ {n:Nat} {f:Nat→α} {L:List α} (hn:n=L.length) (h: ∀ j,j<n→f j=S.at' L j):S.fJ n f=L:=by
 subst hn; rw [xk h,wT]
theorem qh {n m:Nat} {f g:Nat→α}:S.fJ n f=S.fJ m g↔n=m∧ ∀ j,j<n→f j=g j:=by
 constructor
 · intro h
   have hl:=congrArg List.length h
   rw [zW,zW] at hl
   refine ⟨hl,fun j hj=> ?_⟩
   rw [← y7 (f:=f) hj,h,y7 (by omega)]
 · rintro ⟨rfl,h⟩; exact xk h
end
theorem iW {r:Mp} {n:Nat} {cs:List Col} {l:List PV} (h: ∀ j,j<n→ ∀ i,i<yB cs→ ∃ v',nth l (j*yB cs+i)=some v'∧Rn r (yR cs j i) v'):Rb r (.cols n cs) (.cells l):=vx fun j i hj hi=>h j hj i hi
theorem yK {r:Mp} {fresh:Nat→Prop} {H':zQ} {k:Nat} {blk blk':Blk} {l:Lvl} (hu:r.use k) (hg:hget H' (r.nm k)=some (true,blk')) (hd:blk'≠ .dead) (h:Rb r blk blk') (hl:EntL r fresh H' l):EntL r fresh H' ((k,true,blk)::l):=
 li hu hg hd id h hl
section
variable {α β:Type} [Inhabited α]
theorem z5 {L:List α} {x:α} {n:Nat} (h:L.length=n):(S.fI L x).length=n+1:=by rw [yE,h]
theorem yq {L:List α} {x:α} (p:α→β) {n:Nat} (hn:L.length=n) {f:Nat→β} (hf: ∀ j,j<L.length→p (S.at' L j)=f j) (j:Nat) (h:j<(S.fI L x).length):p (S.at' (S.fI L x) j)=cond (Nat.blt j n) (f j) (p x):=by
 subst hn
 rw [mc p j h]
 unfold uZ
 cases hb:Nat.blt j L.length with
 |true=>exact hf j (vM hb)
 |false=>rfl
end
section
variable {α β γ δ ε ζ:Type} [Inhabited α] [Inhabited β] [Inhabited γ] [Inhabited δ] [Inhabited ε] [Inhabited ζ]
theorem jD (L:List α):(S.fJ L.length fun j=>S.at' L j)=L:=wT L
omit [Inhabited α] in
theorem uh {n:Nat} {f:Nat→α}:S.fJ (n+1) f=S.fI (S.fJ n f) (f n):=by simp [S.fJ,S.fI,List.range_succ]
end
theorem zo {p:Prop} {d:Decidable p} {b:Bool} (h:b=true) (e:b= @decide p d):p:=by
 subst e; exact @of_decide_eq_true p d h
end Go.Ev
namespace Go.Ev
open Go.Proofs
noncomputable abbrev pvE:PV:=PV.str {data:= {toList:= []}}
noncomputable def Tryz.tys:List TyI:=
([⟨.other,1,0,none,true,true⟩,
 ⟨.func,1,8,some [PV.nilf],true,true⟩,
 ⟨.int .i64,1,8,some [.int .i64 0],true,true⟩,
 ⟨.int .i64,1,8,some [.int .i64 0],true,true⟩,
 ⟨.bool,1,1,some [PV.tf false],true,true⟩,
 ⟨.int .u8,1,1,some [.int .u8 0],true,true⟩,
 ⟨.int .u8,1,1,some [.int .u8 0],true,true⟩,
 ⟨.struct [(0,2),(1,3),(2,4),(3,6)],4,24,some [.int .i64 0,.int .i64 0,PV.tf false,.int .u8 0],true,true⟩,
 ⟨.struct [(0,2),(1,3),(2,4),(3,6)],4,24,some [.int .i64 0,.int .i64 0,PV.tf false,.int .u8 0],true,true⟩,
 ⟨.string,1,16,some [pvE],true,true⟩,
 ⟨.string,1,16,some [pvE],true,true⟩,
 ⟨.string,1,16,some [pvE],true,true⟩,
 ⟨.int .u64,1,8,some [.int .u64 0],true,true⟩,
 ⟨.struct [(0,9),(1,12)],2,24,some [pvE,.int .u64 0],false,true⟩,
 ⟨.struct [(0,9),(1,12)],2,24,some [pvE,.int .u64 0],false,true⟩,
 ⟨.ptr 162,1,8,some [PV.nilp],true,true⟩,
 ⟨.ptr 165,1,8,some [PV.nilp],true,true⟩,
 ⟨.ptr 172,1,8,some [PV.nilp],true,true⟩,
 ⟨.struct [(0,17)],1,8,some [PV.nilp],false,true⟩,
 ⟨.struct [(0,17)],1,8,some [PV.nilp],false,true⟩,
 ⟨.other,1,16,some [PV.nili],true,true⟩,
 ⟨.int .i32,1,4,some [.int .i32 0],true,true⟩,
 ⟨.slice 3,1,24,some [PV.nils],true,true⟩,
 ⟨.struct [(0,4),(1,22)],2,32,some [PV.tf false,PV.nils],true,true⟩,
 ⟨.struct [(0,4),(1,22)],2,32,some [PV.tf false,PV.nils],true,true⟩,
 ⟨.array 2 24,4,64,some [PV.tf false,PV.nils,PV.tf false,PV.nils],true,true⟩,
 ⟨.func,1,8,some [PV.nilf],true,true⟩,
 ⟨.func,1,8,some [PV.nilf],true,true⟩,
 ⟨.slice 24,1,24,some [PV.nils],true,true⟩,
 ⟨.struct [(0,24),(2,24)],4,64,some [PV.tf false,PV.nils,PV.tf false,PV.nils],true,true⟩,
 ⟨.struct [(0,24),(2,24)],4,64,some [PV.tf false,PV.nils,PV.tf false,PV.nils],true,true⟩,
 ⟨.int .i64,1,8,some [.int .i64 0],true,true⟩,
 ⟨.other,1,0,none,true,true⟩,
 ⟨.func,1,8,some [PV.nilf],true,true⟩,
 ⟨.func,1,8,some [PV.nilf],true,true⟩,
 ⟨.func,1,8,some [PV.nilf],true,true⟩,
 ⟨.func,1,8,some [PV.nilf],true,true⟩,
 ⟨.func,1,8,some [PV.nilf],true,true⟩,
 ⟨.slice 30,1,24,some [PV.nils],true,true⟩,
 ⟨.other,1,0,none,true,true⟩]++List.replicate 6 ⟨.func,1,8,some [PV.nilf],true,true⟩++([⟨.array 2 45,2,16,some [PV.nilf,PV.nilf],true,true⟩,
 ⟨.slice 46,1,24,some [PV.nils],true,true⟩,
 ⟨.int .i16,1,2,some [.int .i16 0],true,true⟩,
 ⟨.struct [(0,48),(1,5)],2,4,some [.int .i16 0,.int .u8 0],true,true⟩,
 ⟨.struct [(0,48),(1,5)],2,4,some [.int .i16 0,.int .u8 0],true,true⟩,
 ⟨.func,1,8,some [PV.nilf],true,true⟩,
 ⟨.func,1,8,some [PV.nilf],true,true⟩,
 ⟨.array 2 30,8,128,some [PV.tf false,PV.nils,PV.tf false,PV.nils,PV.tf false,PV.nils,PV.tf false,PV.nils],true,true⟩,
 ⟨.slice 53,1,24,some [PV.nils],true,true⟩,
 ⟨.func,1,8,some [PV.nilf],true,true⟩,
 ⟨.func,1,8,some [PV.nilf],true,true⟩,
 ⟨.func,1,8,some [PV.nilf],true,true⟩,
 ⟨.func,1,8,some [PV.nilf],true,true⟩,
 ⟨.other,1,0,none,true,true⟩]++List.replicate 12 ⟨.func,1,8,some [PV.nilf],true,true⟩++([⟨.other,1,0,none,true,true⟩,
 ⟨.func,1,8,some [PV.nilf],true,true⟩,
 ⟨.func,1,8,some [PV.nilf],true,true⟩,
 ⟨.func,1,8,some [PV.nilf],true,true⟩,
 ⟨.func,1,8,some [PV.nilf],true,true⟩,
 ⟨.slice 31,1,24,some [PV.nils],true,true⟩,
 ⟨.other,1,0,none,true,true⟩,
 ⟨.func,1,8,some [PV.nilf],true,true⟩,
 ⟨.func,1,8,some [PV.nilf],true,true⟩,
 ⟨.func,1,8,some [PV.nilf],true,true⟩,
 ⟨.func,1,8,some [PV.nilf],true,true⟩,
 ⟨.struct [(0,31)],1,8,some [.int .i64 0],true,true⟩,
 ⟨.struct [(0,31)],1,8,some [.int .i64 0],true,true⟩,
 ⟨.func,1,8,some [PV.nilf],true,true⟩,
 ⟨.func,1,8,some [PV.nilf],true,true⟩,
 ⟨.func,1,8,some [PV.nilf],true,true⟩,
 ⟨.func,1,8,some [PV.nilf],true,true⟩,
 ⟨.func,1,8,some [PV.nilf],true,true⟩,
 ⟨.other,1,0,none,true,true⟩,
 ⟨.func,1,8,some [PV.nilf],true,true⟩,
 ⟨.func,1,8,some [PV.nilf],true,true⟩,
 ⟨.func,1,8,some [PV.nilf],true,true⟩,
 ⟨.func,1,8,some [PV.nilf],true,true⟩,
 ⟨.func,1,8,some [PV.nilf],true,true⟩,
 ⟨.int .u64,1,8,some [.int .u64 0],true,true⟩,
 ⟨.func,1,8,some [PV.nilf],true,true⟩,
 ⟨.slice 5,1,24,some [PV.nils],true,true⟩,
 ⟨.func,1,8,some [PV.nilf],true,true⟩,
 ⟨.other,1,0,none,true,true⟩]++List.replicate 6 ⟨.func,1,8,some [PV.nilf],true,true⟩++ [⟨.ptr 84,1,8,some [PV.nilp],true,true⟩,
 ⟨.func,1,8,some [PV.nilf],true,true⟩,
 ⟨.func,1,8,some [PV.nilf],true,true⟩,
 ⟨.int .u64,1,8,some [.int .u64 0],true,true⟩,
 ⟨.other,1,0,none,true,true⟩,
 ⟨.func,1,8,some [PV.nilf],true,true⟩,
 ⟨.ptr 115,1,8,some [PV.nilp],true,true⟩,
 ⟨.struct [(0,113),(1,98)],2,32,some [PV.nilp,PV.nils],true,true⟩,
 ⟨.struct [(0,113),(1,98)],2,32,some [PV.nilp,PV.nils],true,true⟩,
 ⟨.func,1,8,some [PV.nilf],true,true⟩,
 ⟨.other,1,16,some [PV.nili],false,true⟩,
 ⟨.other,1,16,some [PV.nili],false,true⟩,
 ⟨.other,1,0,none,true,true⟩,
 ⟨.func,1,8,some [PV.nilf],true,true⟩,
 ⟨.func,1,8,some [PV.nilf],true,true⟩,
 ⟨.func,1,8,some [PV.nilf],true,true⟩,
 ⟨.func,1,8,some [PV.nilf],true,true⟩,
 ⟨.array 256 4,256,256,some (rep [PV.tf false] 256),true,true⟩,
 ⟨.array 256 4,256,256,some (rep [PV.tf false] 256),true,true⟩,
 ⟨.other,1,0,none,true,true⟩,
 ⟨.func,1,8,some [PV.nilf],true,true⟩,
 ⟨.func,1,8,some [PV.nilf],true,true⟩,
 ⟨.ptr 125,1,8,some [PV.nilp],true,true⟩,
 ⟨.func,1,8,some [PV.nilf],true,true⟩,
 ⟨.func,1,8,some [PV.nilf],true,true⟩,
 ⟨.func,1,8,some [PV.nilf],true,true⟩,
 ⟨.func,1,8,some [PV.nilf],true,true⟩,
 ⟨.other,1,0,none,true,true⟩,
 ⟨.func,1,8,some [PV.nilf],true,true⟩,
 ⟨.int .u32,1,4,some [.int .u32 0],true,true⟩,
 ⟨.other,1,0,none,true,true⟩,
 ⟨.func,1,8,some [PV.nilf],true,true⟩,
 ⟨.other,1,0,none,true,true⟩,
 ⟨.func,1,8,some [PV.nilf],true,true⟩,
 ⟨.ptr 5,1,8,some [PV.nilp],true,true⟩,
 ⟨.other,1,0,none,true,true⟩,
 ⟨.func,1,8,some [PV.nilf],true,true⟩,
 ⟨.func,1,8,some [PV.nilf],true,true⟩,
 ⟨.func,1,8,some [PV.nilf],true,true⟩,
 ⟨.other,1,0,none,true,true⟩,
 ⟨.func,1,8,some [PV.nilf],true,true⟩,
 ⟨.func,1,8,some [PV.nilf],true,true⟩,
 ⟨.func,1,8,some [PV.nilf],true,true⟩,
 ⟨.func,1,8,some [PV.nilf],true,true⟩,
 ⟨.other,1,8,some [PV.nilp],true,true⟩,
 ⟨.func,1,8,some [PV.nilf],true,true⟩,
 ⟨.func,1,8,some [PV.nilf],true,true⟩,
 ⟨.func,1,8,some [PV.nilf],true,true⟩,
 ⟨.func,1,8,some [PV.nilf],true,true⟩,
 ⟨.array 256 5,256,256,some (rep [.int .u8 0] 256),true,true⟩,
 ⟨.struct [(0,5),(1,5)],2,2,some [.int .u8 0,.int .u8 0],true,true⟩,
 ⟨.struct [(0,5),(1,5)],2,2,some [.int .u8 0,.int .u8 0],true,true⟩,
 ⟨.array 16 158,32,32,some (rep [.int .u8 0] 32),true,true⟩,
 ⟨.func,1,8,some [PV.nilf],true,true⟩,
 ⟨.struct [(0,17),(1,17),(2,17),(3,9)],4,40,some [PV.nilp,PV.nilp,PV.nilp,pvE],false,true⟩,
 ⟨.struct [(0,17),(1,17),(2,17),(3,9)],4,40,some [PV.nilp,PV.nilp,PV.nilp,pvE],false,true⟩,
 ⟨.array 0 16,0,0,some [],true,true⟩,
 ⟨.struct [(0,163)],0,0,some [],false,true⟩,
 ⟨.struct [(0,163)],0,0,some [],false,true⟩,
 ⟨.int .u8,1,1,some [.int .u8 0],true,true⟩,
 ⟨.int .u8,1,1,some [.int .u8 0],true,true⟩,
 ⟨.func,1,8,some [PV.nilf],true,true⟩,
 ⟨.int .i32,1,4,some [.int .i32 0],true,true⟩,
 ⟨.int .i32,1,4,some [.int .i32 0],true,true⟩,
  {
   d:=
    TD.struct
      [(0,12),(1,12),(2,136),(3,166),(4,5),(5,5),(6,167),(7,168),(8,141),(9,169),(10,170)],
   size:=11,bytes:=48,
   zero :=
    some
      [.int .u64 0,.int .u64 0,
       .int .u32 0,.int .u8 0,
       .int .u8 0,.int .u8 0,
       .int .u8 0,PV.nilf,PV.nilp,
       .int .i32 0,.int .i32 0],
   eqok:=false,known:=true},
  {
   d:=
    TD.struct
      [(0,12),(1,12),(2,136),(3,166),(4,5),(5,5),(6,167),(7,168),(8,141),(9,169),(10,170)],
   size:=11,bytes:=48,
   zero :=
    some
      [.int .u64 0,.int .u64 0,
       .int .u32 0,.int .u8 0,
       .int .u8 0,.int .u8 0,
       .int .u8 0,PV.nilf,PV.nilp,
       .int .i32 0,.int .i32 0],
   eqok:=false,known:=true}])))
noncomputable def Tryz.fns:List (Option FnI):=
 [none,none,some (zS Tryz.f2),some (zS Tryz.f3),some (zS Tryz.f4),some (zS Tryz.f5),some (zS Tryz.f6),some (zS Tryz.f7),some (zS Tryz.f8),some (zS Tryz.f9),some (zS Tryz.f10),some (zS Tryz.f11),some (zS Tryz.f12),some (zS Tryz.f13),some (zS Tryz.f14),some (zS Tryz.f15),some (zS Tryz.f16),some (zS Tryz.f17),some (zS Tryz.f18),some (zS Tryz.f19),some (zS Tryz.f20),some (zS Tryz.f21),some (zS Tryz.f22),some (zS Tryz.f23),some (zS Tryz.f24),some (zS Tryz.f25),some (zS Tryz.f26),some (zS Tryz.f27),some (zS Tryz.f28),some (zS Tryz.f29),some (zS Tryz.f30),some (zS Tryz.f31),some (zS Tryz.f32),some (zS Tryz.f33),some (zS Tryz.f34),some (zS Tryz.f35),some (zS Tryz.f36),some (zS Tryz.f37),some (zS Tryz.f38),some (zS Tryz.f39),some (zS Tryz.f40),some (zS Tryz.f41),some (zS Tryz.f42),some (zS Tryz.f43),some (zS Tryz.f44),some (zS Tryz.f45),some (zS Tryz.f46),some (zS Tryz.f47),some (zS Tryz.f48),some (zS Tryz.f49),some (zS Tryz.f50),some (zS Tryz.f51),some (zS Tryz.f52),some (zS Tryz.f53),some (zS Tryz.f54),some (zS Tryz.f55),some (zS Tryz.f56),some (zS Tryz.f57),some (zS Tryz.f58),some (zS Tryz.f59),some (zS Tryz.f60),some (zS Tryz.f61),some (zS Tryz.f62),some (zS Tryz.f63),some (zS Tryz.f64),some (zS Tryz.f65),some (zS Tryz.f66),some (zS Tryz.f67),some (zS Tryz.f68),some (zS Tryz.f69),some (zS Tryz.f70),some (zS Tryz.f71),some (zS Tryz.f72),some (zS Tryz.f73),some (zS Tryz.f74),some (zS Tryz.f75),some (zS Tryz.f76),some (zS Tryz.f77),some (zS Tryz.f78),some (zS Tryz.f79),some (zS Tryz.f80),some (zS Tryz.f81),some (zS Tryz.f82),some (zS Tryz.f83),some (zS Tryz.f84),some (zS Tryz.f85),some (zS Tryz.f86),some (zS Tryz.f87),some (zS Tryz.f88),some (zS Tryz.f89),some (zS Tryz.f90),some (zS Tryz.f91),some (zS Tryz.f92),some (zS Tryz.f93),some (zS Tryz.f94),some (zS Tryz.f95),some (zS Tryz.f96),some (zS Tryz.f97),some (zS Tryz.f98),some (zS Tryz.f99),some (zS Tryz.f100),some (zS Tryz.f101),some (zS Tryz.f102),some (zS Tryz.f103),some (zS Tryz.f104),some (zS Tryz.f105),some (zS Tryz.f106),some (zS Tryz.f107),some (zS Tryz.f108),some (zS Tryz.f109),some (zS Tryz.f110),some (zS Tryz.f111),some (zS Tryz.f112),some (zS Tryz.f113),some (zS Tryz.f114),some (zS Tryz.f115),some (zS Tryz.f116),some (zS Tryz.f117),some (zS Tryz.f118),some (zS Tryz.f119),some (zS Tryz.f120),some (zS Tryz.f121),some (zS Tryz.f122),some (zS Tryz.f123),some (zS Tryz.f124),some (zS Tryz.f125),some (zS Tryz.f126),some (zS Tryz.f127),some (zS Tryz.f128),some (zS Tryz.f129),some (zS Tryz.f130),some (zS Tryz.f131),some (zS Tryz.f132),some (zS Tryz.f133),some (zS Tryz.f134),some (zS Tryz.f135),some (zS Tryz.f136),some (zS Tryz.f137),some (zS Tryz.f138),some (zS Tryz.f139),some (zS Tryz.f140),some (zS Tryz.f141),some (zS Tryz.f142),some (zS Tryz.f143),some (zS Tryz.f144),some (zS Tryz.f145),some (zS Tryz.f146),some (zS Tryz.f147),some (zS Tryz.f148),some (zS Tryz.f149),some (zS Tryz.f150),some (zS Tryz.f151),none,some (zS Tryz.f153),some (zS Tryz.f154),some (zS Tryz.f155),none,none,some (zS Tryz.f158),some (zS Tryz.f159),none,some (zS Tryz.f161),some (zS Tryz.f162),some (zS Tryz.f163),none,none,none,none,none,none,none,none,none,none,none,none,none,none,none,none,none,none,none,none,none,some (zS Tryz.f185)]
noncomputable def Tryz.env:Env:=⟨Tryz.tys,Tryz.fns⟩
theorem Tryz.tys_ok:Tryz.tys=(List.range 173).map (yt Tryz.prog):=by kernel_rfl
theorem Tryz.fns_ok:Tryz.fns=Tryz.prog.funcs.toList.map kJ:=by kernel_rfl
theorem Tryz.named_ok:j7 Tryz.prog.funcs.toList=true:=by kernel_rfl
theorem Tryz.envOk:xa Tryz.prog Tryz.env:=kf 173 Tryz.tys_ok Tryz.fns_ok Tryz.named_ok
theorem Tryz.mixed:Tryz.prog.follows .mixedOrders=true:=by kernel_rfl
end Go.Ev
