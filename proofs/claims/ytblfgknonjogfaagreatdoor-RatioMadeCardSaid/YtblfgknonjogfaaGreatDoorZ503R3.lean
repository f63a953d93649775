/-
  The reckoner, 3 of 3: what this statement needs of it.
-/
import Derived.Test.YtblfgknonjogfaaGreatDoorZ503R2
namespace Go.Ev
open Go.RowKit Go.Deep Go.WideShapes Go.ChangeAt
set_option linter.unusedSimpArgs false
set_option linter.unusedVariables false
section
variable {H:Type} {enc:TypeId×Value→H} {P:Program} {w:World} {held:Bool}
def SmallC (P:Program) (B:Nat):CK→Value→Prop
  | .list e,c=> ∀ A n cap,c= .slice A n cap→1≤P.bytesOf e→n≤B
  |_,_=>True
theorem weightsEach_get {B:Nat}: ∀ {ts:List TypeId} {ds:List (DataW H)},(DataW.weightsEach P ts ds).all (fun k=>decide (k≤B))=true→ ∀ (i:Nat) (t:TypeId) (d:DataW H),ts[i]? =some t→ds[i]? =some d→(DataW.weights P t d).all (fun k=>decide (k≤B))=true
  | [],_,_,i,t,d,h,_=>by simp at h
  |_::_,[],_,i,t,d,_,h=>by simp at h
  | t0::ts,d0::ds,h,i,t,d,h1,h2=>by
    rw [DataW.weightsEach,List.all_append,Bool.and_eq_true] at h
    cases i with
    |zero=>
      simp only [List.getElem?_cons_zero,Option.some.injEq] at h1 h2
      subst h1; subst h2
      exact h.1
    |succ i=>exact weightsEach_get h.2 i t d (by simpa using h1) (by simpa using h2)
theorem weightsAll_get {B:Nat} {e:TypeId}: ∀ {ds:List (DataW H)},(DataW.weightsAll P e ds).all (fun k=>decide (k≤B))=true→ ∀ (i:Nat) (d:DataW H),ds[i]? =some d→(DataW.weights P e d).all (fun k=>decide (k≤B))=true
  | [],_,i,d,h=>by simp at h
  | d0::ds,h,i,d,h2=>by
    rw [DataW.weightsAll,List.all_append,Bool.and_eq_true] at h
    cases i with
    |zero=>
      simp only [List.getElem?_cons_zero,Option.some.injEq] at h2
      subst h2
      exact h.1
    |succ i=>exact weightsAll_get h.2 i d (by simpa using h2)
theorem flat_small {B:Nat}: ∀ {n:Nat} {t:TypeId} {ks:List CK} {cs:List Value} {fuel:Nat} {x:DataW H×List MemPlace},flatOf P n t=some ks→DataW.trod enc P w 0 (fun _=>true) held fuel t cs=some x→(x.1.weights P t).all (fun k=>decide (k≤B))=true→CKs (SmallC P B) ks cs:=by
  intro n
  induction n with
  |zero=>intro t ks cs fuel x h; cases h
  | succ n ih=>
    intro t ks cs fuel x h ht hw
    simp only [flatOf] at h
    split at h
    · rename_i hu
      cases h
      obtain ⟨b,rfl,_⟩:=DataW.trod_bool hu ht
      exact .cons trivial .nil
    · rename_i k hu
      cases h
      obtain ⟨z,rfl,_,hw⟩:=DataW.trod_int hu ht
      exact .cons trivial .nil
    · rename_i hu
      cases h
      obtain ⟨s,rfl,_,hs⟩:=DataW.trod_string hu ht
      exact .cons trivial .nil
    · rename_i e hu
      cases h
      rcases Go.Deep.open_slice hu ht with ⟨h0,_⟩|⟨a,len,cap,k,m,Dd,Pl,hcs,hb,hl,hm,hk,hx,_⟩
      · subst h0
        refine .cons (fun A n cap e1 _=> ?_) .nil
        cases e1
        exact Nat.zero_le _
      · subst hcs
        refine .cons (fun A n0 cap0 e1 hbe=> ?_) .nil
        simp only [Value.slice.injEq] at e1
        obtain ⟨-,e2,e3⟩:=e1
        simp only [if_true] at hk
        subst hx
        simp only [DataW.weights,hu,List.all_cons,Bool.and_eq_true,decide_eq_true_eq,List.length_map,List.length_range] at hw
        have h1:=hw.1
        have h2:(len+(k-len))*1≤(len+(k-len))*P.bytesOf e:=Nat.mul_le_mul_left _ hbe
        omega
    · rename_i fs hu
      split at h
      · rename_i l hj
        split at h
        · rename_i hc
          cases h
          obtain ⟨xs,m,_,rfl,hl,hx,hg⟩:=DataW.trod_struct hu ht
          have a:=joinS_ok (R:=SmallC P B) (cs:=cs) hj fun f hf l hl=>by
            obtain ⟨i,hi,rfl⟩:=List.getElem_of_mem hf
            have:=hg i fs[i] (Array.getElem?_eq_getElem (by simpa using hi))
            rw [List.getElem?_eq_getElem (by simpa [hx] using hi)] at this
            refine ih hl this ?_
            simp only [DataW.weights,hu] at hw
            exact weightsEach_get hw i _ _ (by simp [List.getElem?_eq_getElem hi]) (by rw [List.getElem?_map,List.getElem?_eq_getElem (by simpa [hx] using hi)]; rfl)
          simp only [List.drop_zero] at a
          rw [Nat.eq_of_beq_eq_true hc,← hl,List.take_length] at a
          exact a
        · cases h
      · cases h
    · rename_i m e hu
      split at h
      · rename_i l hj
        split at h
        · rename_i h1 h2
          cases h
          obtain ⟨xs,k,_,rfl,hl,hx,hg⟩:=DataW.trod_array hu ht
          have a:=joinA_ok (R:=SmallC P B) (cs:=cs) (ks:=l) (m:=m) fun i hi=>by
            have:=hg i hi
            rw [List.getElem?_eq_getElem (by omega),← Nat.eq_of_beq_eq_true h1] at this
            refine ih hj this ?_
            simp only [DataW.weights,hu] at hw
            exact weightsAll_get hw i _ (by rw [List.getElem?_map,List.getElem?_eq_getElem (by omega)]; rfl)
          rw [Nat.eq_of_beq_eq_true h2,← hl,List.take_length] at a
          exact a
        · cases h
      · cases h
    · cases h
def AK.small (B:Nat):(a:AK)→a.I→Prop
  | .list _,(n,_)=>n≤B
  | .own _,(n,_)=>n≤B
  | .plain _,_=>True
  | .cell _,_=>True
  | .win _,(n,_)=>n≤B
def asSmall (B:Nat):(l:List AK)→AsI l→Prop
  | [],_=>True
  |a::l,(x,y)=>a.small B x∧asSmall B l y
def Sh.small (B:Nat):(s:Sh)→s.I→Prop
  | .one a,x=>a.small B x
  | .agg l,x=>asSmall B l x
  | .fn _ l,x=>asSmall B l x
def ssSmall (B:Nat):(l:List Sh)→SsI l→Prop
  | [],_=>True
  |s::l,(x,y)=>s.small B x∧ssSmall B l y
def bytesC (P:Program):List CK→Bool
  | []=>true
  | .list e::l=>Nat.ble 1 (P.bytesOf e)&&bytesC P l
  |_::l=>bytesC P l
def bytesT (P:Program) (n:Nat):List TypeId→Bool
  | []=>true
  |t::ts=>(match flatOf P n t with|some ks=>bytesC P ks|none=>true)&&bytesT P n ts
theorem ak_small {n B:Nat} {ck:CK} {a:AK} (ha:akOf P n ck=some a) {c:Value} (h:SmallC P B ck c) (hb: ∀ e,ck= .list e→1≤P.bytesOf e) {σ:Sg} {x:a.I} {nm:Nat} (hv:VR σ (a.pv x nm) c):a.small B x:=by
  cases a with
  |plain k=>trivial
  |cell ks=>trivial
  | own ks=>
    cases ck<;>simp only [akOf] at ha
    case list e=>
      (repeat' split at ha)<;>cases ha
    all_goals (split at ha<;>cases ha)
  | win ks=>
    cases ck<;>simp only [akOf] at ha
    case list e=>
      (repeat' split at ha)<;>cases ha
    all_goals (split at ha<;>cases ha)
  | list ks=>
    obtain ⟨n0,y⟩:=x
    cases ck<;>simp only [akOf] at ha
    case list e=>
      have hv:VR σ (.loose ⟨nm,lenD ks,0,0⟩ n0) c:=hv
      cases hv with
      |loose _ _ A cap hc hr=>exact h A n0 cap rfl (hb e rfl)
    all_goals (split at ha<;>cases ha)
theorem as_small {n B:Nat}: ∀ {cks:List CK} {al:List AK} {cs:List Value},aksOf P n cks=some al→CKs (SmallC P B) cks cs→bytesC P cks=true→ ∀ {σ:Sg} {x:AsI al} {nm:Nat},VRs σ (asPV al x nm) cs→asSmall B al x
  | [],al,cs,h,hc,_,σ,x,nm,hv=>by
    cases h
    trivial
  | ck :: l,al,cs,h,hc,hb,σ,x,nm,hv=>by
    simp only [aksOf] at h
    split at h
    · rename_i a m h1 h2
      cases h
      obtain ⟨x,y⟩:=x
      cases hc with
      | cons hcell hl=>
        simp only [asPV] at hv
        cases hv with
        | cons _ _ _ _ q1 q2=>
          refine ⟨ak_small h1 hcell (fun e he=> ?_) q1,as_small h2 hl ?_ q2⟩
          · subst he
            simp only [bytesC,Bool.and_eq_true] at hb
            exact Nat.le_of_ble_eq_true hb.1
          · cases ck<;>simp only [bytesC,Bool.and_eq_true] at hb<;>first|exact hb|exact hb.2
    · cases h
theorem sh_small {n B:Nat} {t:TypeId} {s:Sh} (hs:shOf P n t=some s) {v:Value} {d:DataW H} {p:List MemPlace} (h:DataW.Trod enc P w 0 (fun _=>true) held t v d p) (hone:isAgg P t=false→v.cells= #[v]) (hagg:isAgg P t=true→ ∃ cs,v= .agg cs)
    (hw:(d.weights P t).all (fun k=>decide (k≤B))=true) (hb:(match flatOf P n t with|some ks=>bytesC P ks|none=>true)=true) {σ:Sg} {x:s.I} {nm:Nat} (hv:VR σ (s.pv x nm) v):s.small B x:=by
  obtain ⟨fuel,hf⟩:=h
  unfold shOf typeAks at hs
  split at hs
  · rename_i l hl
    split at hl
    · rename_i cs hcs
      rw [hcs] at hb
      have hc:=flat_small hcs hf hw
      split at hs
      · rename_i l' ha
        cases hs
        obtain ⟨c,rfl⟩:=hagg ha
        have hv:VR σ (.agg (asPV _ x nm)) (.agg c):=hv
        cases hv with
        |agg _ _ q=>exact as_small hl hc hb q
      · rename_i a ha
        cases hs
        rw [hone ha] at hc
        exact (as_small (x:=(x,())) (nm:=nm) hl hc hb (.cons _ _ _ _ hv .nil)).1
      · cases hs
    · cases hl
  · cases hs
theorem ss_small {n B:Nat}: ∀ {ts:List TypeId} {ss:List Sh} {vs:List Value} {ds:List (DataW H)} {ps:List MemPlace},shsOf P n ts=some ss→DataW.TrodAll enc P w 0 (fun _=>true) held ts vs ds ps→
    (∀ (j:Nat) t v,ts[j]? =some t→vs[j]? =some v→(isAgg P t=false→v.cells= #[v])∧(isAgg P t=true→ ∃ cs,v= .agg cs))→(DataW.weightsEach P ts ds).all (fun k=>decide (k≤B))=true→bytesT P n ts=true→ ∀ {σ:Sg} {x:SsI ss} {nm:Nat},VRs σ (ssPV ss x nm) vs→ssSmall B ss x
  | [],ss,[],[],ps,h,hA,hv,hw,hb,σ,x,nm,hr=>by
    cases h
    trivial
  | t ::ts,ss,v::vs,d::ds,ps,h,hA,hv,hw,hb,σ,x,nm,hr=>by
    obtain ⟨p,q,hT,hA,_⟩:=hA
    simp only [shsOf] at h
    split at h
    · rename_i s m h1 h2
      cases h
      obtain ⟨x,y⟩:=x
      simp only [ssPV] at hr
      rw [DataW.weightsEach,List.all_append,Bool.and_eq_true] at hw
      simp only [bytesT,Bool.and_eq_true] at hb
      cases hr with
      |cons _ _ _ _ q1 q2=>
        exact ⟨sh_small h1 hT (hv 0 t v rfl rfl).1 (hv 0 t v rfl rfl).2 hw.1 hb.1 q1,ss_small h2 hA (fun j t v e1 e2=>hv (j+1) t v (by simpa using e1) (by simpa using e2)) hw.2 hb.2 q2⟩
    · cases h
  | [],_,_::_,_,_,_,hA,_,_,_,_,_,_,_=>hA.elim
  | [],_,[],_::_,_,_,hA,_,_,_,_,_,_,_=>hA.elim
  |_::_,_,[],_,_,_,hA,_,_,_,_,_,_,_=>hA.elim
  |_::_,_,_::_,[],_,_,hA,_,_,_,_,_,_,_=>hA.elim
end
theorem linkQ {P:Program} {f:FuncId} {H:Type} {enc:TypeId×Value→H} {n:Nat} {ts:List TypeId} {ss:List Sh} {W:World} {args:Array Value} {ds:List (DataW H)} {ps:List MemPlace} {r:Reach} {b0:Nat} (hss:shsOf P n ts=some ss)
    (hA:DataW.TrodAll enc P W 0 (fun _=>true) true ts args.toList ds ps) (hv: ∀ (j:Nat) t v,ts[j]? =some t→args[j]? =some v→Value.okWide P W r b0 t v)
    {Q:SsI ss→Prop} (hQ: ∀ (x:SsI ss) (σ:Sg),VRs σ (ssPV ss x 0) args.toList→Q x) (hc: ∀ (x:SsI ss),ssFits ss x→Q x→ ∃ H' fr',CallR P f (ssPV ss x 0) [ssLvl ss x 0] (ssNext ss 0) (.bool true) H' fr'):Calls P f args W fun e W'=>e= .returned (.bool true)∧Below W.heap.size W W':=by
  obtain ⟨x,ρ,h1,h2,h3,h4⟩:=ss_ok (w:=W) (r:=r) (b0:=b0) hss hA (fun j t v e1 e2=>by
    have hok:=hv j t v e1 (by simpa using e2)
    refine ⟨hok,fun ha=> ?_⟩
    unfold isAgg at ha
    unfold Value.okWide at hok
    split at ha
    · cases ha
    · cases ha
    · rename_i u1 u2
      split at hok
      · rename_i q _ _ hq; exact absurd hq (u1 _)
      · rename_i q _ _ hq; exact absurd hq (u2 _ _)
      · unfold Cell.okWide at hok
        cases v<;>first|rfl|(exfalso; revert hok; split<;>simp_all<;>unfold Cell.ok<;>split<;>simp_all)) 0
  let σ:Sg:=fun k=>if k<ssNext ss 0 then ρ k else none
  have hσ: ∀ k,k<ssNext ss 0→σ k=ρ k:=fun k hk=>if_pos hk
  obtain ⟨H',fr',C⟩:=hc x h1 (hQ x σ (h2 σ fun k _ hk=>hσ k hk))
  have hfl: ∀ n e,hget [ssLvl ss x 0] n=some e→(n,e) ∈ ssLvl ss x 0:=fun n e hn=>by
    have:=lget_mem (l:=ssLvl ss x 0) (n:=n) (e:=e) (by simp only [hget] at hn; split at hn<;>simp_all)
    exact this
  have hno: ∀ n b,hget [ssLvl ss x 0] n=some (true,b)→False:=fun n b hn=>by
    have:=(h4 _ (hfl _ _ hn)).2.2.1
    cases this
  have hsim:Sim σ W [ssLvl ss x 0]:=by
    refine ⟨fun n e hn hd rb hrb=> ?_,fun n m b e hn _ _ _ _=>(hno n b hn).elim⟩
    obtain ⟨q1,q2,q3,q4⟩:=h4 _ (hfl _ _ hn)
    rw [hσ n q2] at hrb
    obtain ⟨q5,q6⟩:=q4 rb hrb
    exact ⟨q5,blkR_mono (fun _ _ h=>by cases h) q6,fun ht=>by
      have:e.1=false:=q3
      rw [ht] at this; cases this⟩
  refine Calls.mono (C σ W args (h2 σ fun k _ hk=>hσ k hk) hsim fun k hk _=>if_neg (by omega)) fun e W' he=> ?_
  obtain ⟨v',σ',rfl,ho⟩:=he
  have hvt:v'= .bool true:=by cases ho.v; rfl
  subst hvt
  exact ⟨rfl,ho.frm.os,ho.frm.tape,ho.frm.output,ho.frm.size,fun k hk=>ho.frm.old k hk fun ⟨n,b,rb,q1,_⟩=>hno n b q1⟩
theorem one_cell_of {P:Program} {W:World} {r:Reach} {b0:Nat} {t:TypeId} {v:Value} (hok:Value.okWide P W r b0 t v):(isAgg P t=false→v.cells= #[v])∧(isAgg P t=true→ ∃ cs,v= .agg cs):=by
  refine ⟨fun ha=> ?_,fun ha=>isAgg_agg ha hok⟩
  unfold isAgg at ha
  unfold Value.okWide at hok
  split at ha
  · cases ha
  · cases ha
  · rename_i u1 u2
    split at hok
    · rename_i q _ _ hq; exact absurd hq (u1 _)
    · rename_i q _ _ hq; exact absurd hq (u2 _ _)
    · unfold Cell.okWide at hok
      cases v<;>first|rfl|(exfalso; revert hok; split<;>simp_all<;>unfold Cell.ok<;>split<;>simp_all)
theorem law_linkS {P:Program} {c:Con} (hc:c.ok P) (hres: ∀ x,c.res x= .bool true) {H:Type} {enc:TypeId×Value→H} {n:Nat} {ts:List TypeId} {W:World} {args:Array Value} {ds:List (DataW H)} {ps:List MemPlace} {r:Reach} {b0:Nat} (hss:shsOf P n ts=some c.ss)
    (hb:bytesT P n ts=true) (hp: ∀ x,ssFits c.ss x→ssSmall reachBytes c.ss x→c.pre (ssj c.ss x)=true) (hA:DataW.TrodAll enc P W 0 (fun _=>true) true ts args.toList ds ps) (hv: ∀ (j:Nat) t v,ts[j]? =some t→args[j]? =some v→Value.okWide P W r b0 t v)
    (hw:(DataW.weightsEach P ts ds).all (fun k=>decide (k≤reachBytes))=true):
    Calls P c.f args W fun e W'=>e= .returned (.bool true)∧Below W.heap.size W W':=
  linkQ (Q:=fun x=>ssSmall reachBytes c.ss x) hss hA hv (fun x σ hr=>ss_small hss hA (fun j t v e1 e2=>one_cell_of (hv j t v e1 (by simpa using e2))) hw hb hr) fun x hx hq=>by
    obtain ⟨⟨hi,_,C⟩,_⟩:=hc _ (hp x hx hq)
    rw [(ssj_eq _ _ _).1,(ssj_eq _ _ _).2,hres] at C
    exact ⟨_,_,C⟩
end Go.Ev
namespace Go.Ev
open Go.RowKit
set_option linter.unusedSimpArgs false
set_option linter.unusedVariables false
set_option linter.unusedSectionVars false
def runs {S R:Type} (q:S→Option (S⊕R)):Nat→S→Option R
  |0,_=>none
  |k+1,s=>match q s with
    |some (.inl s')=>runs q k s'
    |some (.inr r)=>some r
    |none=>none
def Comes {S R:Type} (q:S→Option (S⊕R)) (s:S) (r:R):Prop:= ∃ k,runs q k s=some r
def Goes {S R:Type} (q:S→Option (S⊕R)) (p:Option (S⊕R)) (r:R):Prop:=match p with
  |some (.inl s)=>Comes q s r
  |some (.inr r')=>r'=r
  |none=>False
section
variable {S R:Type} {q:S→Option (S⊕R)}
theorem Comes.next {s s':S} {r:R} (e:q s=some (.inl s')) (h:Comes q s' r):Comes q s r:=by
  obtain ⟨k,hk⟩:=h
  exact ⟨k+1,by simp only [runs,e]; exact hk⟩
theorem Comes.done {s:S} {r:R} (e:q s=some (.inr r)):Comes q s r:=⟨1,by simp only [runs,e]⟩
theorem Comes.of {s:S} {r:R} (h:Goes q (q s) r):Comes q s r:=by
  unfold Goes at h
  split at h
  · rename_i e; exact .next e h
  · rename_i e; subst h; exact .done e
  · exact h.elim
theorem goes_inr {r r':R}:Goes q (some (.inr r')) r=(r'=r):=rfl
theorem goes_none {r:R}:Goes q none r=False:=rfl
theorem goes_if {b:Bool} {x y:Option (S⊕R)} {r:R} (h1:b=true→Goes q x r) (h2:b=false→Goes q y r):Goes q (cond b x y) r:=by
  cases b
  · exact h2 rfl
  · exact h1 rfl
theorem goes_ok {b:Bool} {x y:Option (S⊕R)} {r:R} (hb:b=true) (h1:Goes q x r):Goes q (cond b x y) r:=by subst hb; exact h1
theorem goes_no {b:Bool} {x y:Option (S⊕R)} {r:R} (hb:b=false) (h1:Goes q y r):Goes q (cond b x y) r:=by subst hb; exact h1
end
inductive Holds (p:Prop):Prop
  |mk (h:p):Holds p
theorem Holds.eq {a b:Prop} (h:a=b) (hb:b):Holds a:=⟨h ▸ hb⟩
theorem Holds.get {a:Prop}:Holds a→a
  |⟨h⟩=>h
def StopAt (lo hi:Nat) (d:Hd) (vals:List PV) (H':Heap) (fr':Nat):Prop:=
  fr'≤hi∧ ∃ ρ:Nat→Nat,Rns (Ren.mp ⟨lo,hi,d.fr,ρ⟩) d.V vals∧HpR (Ren.mp ⟨lo,hi,d.fr,ρ⟩) (fun n=>fr'≤n∧n<hi) d.H H'
abbrev KS:=List It→List PV→Heap→Nat→Prop
abbrev KR:=PV→Heap→Nat→Prop
def HS (lo hi:Nat) {S R:Type} (I:S→Hd) (Kst:KS) (x:S⊕R):Prop:= ∀ s,x= .inl s→ ∀ V' H' fr',StopAt lo hi (I s) V' H' fr'→Kst (I s).todo V' H' fr'
def HR (lo hi:Nat) {S R:Type} (V:R→PV) (H1:R→Heap) (Kret:KR) (x:S⊕R):Prop:= ∀ r,x= .inr r→ ∀ v' H' fr',RetR lo hi (fun v H=>v=V r∧H=H1 r) v' H' fr'→Kret v' H' fr'
theorem bif_split {α:Type} {c:Bool} {a b:Option α} {x:α} {A B:Prop} (h:cond c a b=some x) (h1:c=true→a=some x→A) (h2:c=false→b=some x→B):cond c A B:=by
  cases c
  · exact h2 rfl h
  · exact h1 rfl h
theorem no_some {α:Type} {x:α} {A:Prop} (h:(none:Option α)=some x):A:=by cases h
theorem stop_at {lo hi:Nat} {S R:Type} {I:S→Hd} {Kst:KS} {x:S⊕R} (hS:HS lo hi I Kst x) {todo':List It} {vals:List PV} {H':Heap} {fr':Nat} (j:S) (hx:some (Sum.inl j)=some x) (ρ:Nat→Nat) {todo:List It} {V:List PV} {H:Heap} {fr:Nat} (e:I j=⟨todo,V,H,fr⟩)
    (hf:Nat.ble fr' hi=true) (ht:todo'=todo) (hV:Rns (Ren.mp ⟨lo,hi,fr,ρ⟩) V vals) (hi':injL (Ren.mp ⟨lo,hi,fr,ρ⟩).nm ((flat H).map (·.1))=true) (hH:EntL (Ren.mp ⟨lo,hi,fr,ρ⟩) (fun n=>fr'≤n∧n<hi) H' (flat H)):Kst todo' vals H' fr':=by
  have:=hS j (Option.some.inj hx).symm vals H' fr' ⟨le_ok hf,ρ,by rw [e]; exact hV,by rw [e]; exact HpR.mk' hi' hH⟩
  rw [e] at this
  rw [ht]
  exact this
theorem ret_at {lo hi:Nat} {S R:Type} {V:R→PV} {H1:R→Heap} {Kret:KR} {x:S⊕R} (hR:HR lo hi V H1 Kret x) {v':PV} {H':Heap} {fr':Nat} (r:R) (hx:some (Sum.inr r)=some x) (ρ:Nat→Nat) {v0:PV} {H0:Heap} (e1:V r=v0) (e2:H1 r=H0)
    (hf:Nat.ble fr' hi=true) (hv:Rn (Ren.mp ⟨lo,hi,hi,ρ⟩) v0 v') (hi':injL (Ren.mp ⟨lo,hi,hi,ρ⟩).nm ((flat H0).map (·.1))=true) (hH:EntL (Ren.mp ⟨lo,hi,hi,ρ⟩) (fun n=>fr'≤n∧n<hi) H' (flat H0)):Kret v' H' fr':=
  hR r (Option.some.inj hx).symm v' H' fr' (ret_intro ρ v0 H0 ⟨e1.symm,e2.symm⟩ hf hv hi' hH)
section
variable {P:Program} {E:Env} (ok:EnvOk P E) (hm:P.follows .mixedOrders=true) {X:Ext} (hX:ExtOk P X)
include ok hm hX
theorem dec_calls {lo hi:Nat} {S R:Type} {q:S→Option (S⊕R)} {p:Option (S⊕R)} {r:R} (I:S→Hd) (V:R→PV) (H1:R→Heap) {f:FuncId} {fn:FnI} {args:List PV} {H:Heap} {n:Nat} {ts:List Nat} (hf:nthFn E.fs f=some fn) (hl:lo≤hi) (hne:H≠ []) (hN:Names H lo)
    (hI: ∀ s,ItsOk (I s).todo∧(I s).H≠ []∧Names (I s).H (I s).fr∧lo≤(I s).fr)
    (entry: ∀ Kst Kret x,HS lo hi I Kst x→HR lo hi V H1 Kret x→p=some x→Holds (run cond E true X true n ⟨f,[.cd fn.body],argT 0 args,[]::H,lo⟩ (proj lo ts Kst Kret)))
    (step: ∀ Kst Kret x,HS lo hi I Kst x→HR lo hi V H1 Kret x→ ∀ s,q s=some x→Holds (run cond E true X true n ⟨f,(I s).todo,zipT ts (I s).V,(I s).H,(I s).fr⟩ (proj lo ts Kst Kret)))
    (h:Goes q p r):CallR P f args H lo (V r) (H1 r) hi∧ ∃ F,P.funcs[f]? =some F∧F.body.isSome=true∧(F.name== "runtime.NumGoroutine")=false:=by
  have hRet: ∀ x:S⊕R,x= .inr r→HR lo hi V H1 (RetR lo hi fun v H'=>v=V r∧H'=H1 r) x:=fun x hx r' hr v' H' fr' h=>by
    rw [hx] at hr
    cases hr
    exact h
  have hRet': ∀ s:S,HR lo hi V H1 (RetR lo hi fun v H'=>v=V r∧H'=H1 r) (.inl s:S⊕R):=fun s r' hr=>by cases hr
  have hSt': ∀ {ι:Type} (I':ι→Hd) (good below:ι→Prop),HS lo hi I (StopR lo hi I' good below) (.inr r:S⊕R):=fun I' good below s hs=>by cases hs
  have hL : ∀ i:Nat×S,runs q i.1 i.2=some r→Lands P E ⟨f,(I i.2).todo,zipT ts (I i.2).V,(I i.2).H,(I i.2).fr⟩ lo hi fun v H'=>v=V r∧H'=H1 r:=by
    refine lands ok hm hX (fun i:Nat×S=>I i.2) (fun i=>runs q i.1 i.2=some r) (fun i=>i.1) (n:=n) (sy:=true) (fun i _=>⟨(hI i.2).1,(hI i.2).2⟩) fun i hi=> ?_
    obtain ⟨k,s⟩:=i
    cases k with
    |zero=>cases hi
    | succ k=>
      simp only [runs] at hi
      cases hq:q s with
      |none=>rw [hq] at hi; cases hi
      | some x=>
        rw [hq] at hi
        cases x with
        |inl s'=>
          refine (step _ _ (.inl s') (fun s1 hs V' H' fr' ⟨h1,ρ,h2,h3⟩=> ?_) (hRet' s') s hq).get
          cases hs
          exact ⟨h1,(k,s'),ρ,hi,Nat.lt_succ_self k,rfl,h2,h3⟩
        |inr r'=>
          obtain rfl:r'=r:=by simpa using hi
          exact (step _ _ (.inr r') (hSt' _ _ _) (hRet _ rfl) s hq).get
  cases hp:p with
  |none=>rw [hp] at h; exact h.elim
  | some x=>
    rw [hp] at h
    cases x with
    |inl s=>
      obtain ⟨k,hk⟩:=h
      refine calls_loop ok hm hX (n:=n) (sy:=true) (ts:=ts) (fun i:Nat×S=>I i.2) (fun i=>runs q i.1 i.2=some r) hf hl hN (fun i _=>(hI i.2).2.2.2) ?_ hL
      refine (entry _ _ (.inl s) (fun s1 hs V' H' fr' ⟨h1,ρ,h2,h3⟩=> ?_) (hRet' s) hp).get
      cases hs
      exact ⟨h1,(k,s),ρ,hk,trivial,rfl,h2,h3⟩
    |inr r'=>
      cases h
      refine calls_loop ok hm hX (n:=n) (sy:=true) (ts:=ts) (fun i:Nat×S=>I i.2) (fun i=>runs q i.1 i.2=some r) hf hl hN (fun i _=>(hI i.2).2.2.2) ?_ hL
      exact (entry _ _ (.inr r) (hSt' _ _ _) (hRet _ rfl) hp).get
end
theorem toNat_pred (n:Nat):((n:Int)-1).toNat=n-1:=by omega
theorem toNat_succ (n:Nat):((n:Int)+1).toNat=n+1:=by omega
section
variable {P:Program} {E:Env} (ok:EnvOk P E) (hm:P.follows .mixedOrders=true) {X:Ext} (hX:ExtOk P X)
include ok hm hX
theorem calls_free {f:FuncId} {fn:FnI} {args:List PV} {H H0:Heap} {lo hi:Nat} {v0:PV} {sy:Bool} {n:Nat} (hf:nthFn E.fs f=some fn) (hl:lo≤hi) (hne:H≠ []) (hN:Names H lo)
    (h:Holds (run cond E sy X false n ⟨f,[.cd fn.body],argT 0 args,[]::H,lo⟩ (proj lo [] (fun _ _ _ _=>False) (RetR lo hi fun v H'=>v=v0∧H'=H0)))):CallR P f args H lo v0 H0 hi∧ ∃ F,P.funcs[f]? =some F∧F.body.isSome=true∧(F.name== "runtime.NumGoroutine")=false:=by
  refine calls_lands' ok hf hl ?_
  intro σ w a b cs ha hs hn hb hbk
  obtain ⟨l,hl',hok⟩:=run_ok ok hX (drawn_ok ok hm) n false ⟨f,[.cd fn.body],argT 0 args,[]::H,lo⟩ _ (by intro i hi; simp at hi; subst hi; trivial) (by simp) (fun n e hn=>hN n e (by simpa [hget,lget] using hn)) h.get
  cases l with
  |stop j c'=>exact hl'.elim
  | ret v' H' fr'=>
    obtain ⟨hf',ρ,v,H2,hR,hv,hH⟩:=hl'
    have hH:=hH.untrim
    obtain ⟨hgr,hrun⟩:=hok
    obtain ⟨σ',w',u,fm,q1,q2,q3,q4⟩:=hrun σ w a b cs ha hs (hn.cut hf') hb hbk
    have htr:=Ren.tr ⟨lo,hi,hi,ρ⟩ σ'
    have hfresh: ∀ m,fr'≤m∧m<hi→σ' m=none:=fun m hm=>by
      have:=hgr.1
      simp only at this
      rw [q4.ext m (by show m<lo∨fr'≤m; omega)]
      exact hn m (by show lo≤m; omega) hm.2
    refine ⟨Ren.sg ⟨lo,hi,hi,ρ⟩ σ',w',u,fm,v,H2,q1,q2,q3,hR,hv σ' _ u htr q4.v,hH.sim htr hfresh q4.sim,fun m hm=> ?_,q4.frm.mono (fun _ h=>h) fun k hk=>hH.own htr hfresh hk⟩
    unfold Ren.sg
    rw [if_pos hm]
    have:=hgr.1
    simp only at this
    exact q4.ext m (by show m<lo∨fr'≤m; omega)
theorem awake_ok {f:FuncId} {fn:FnI} {hi n:Nat} (hf:nthFn E.fs f=some fn) (h1:1≤hi) {fr:Nat} (hfr:Nat.ble fr hi=true)
    (e: ∀ (Kst:KS) (Kret:KR),run cond E true X false n ⟨f,[.cd fn.body],[],[[],[]],0⟩ (proj 0 [] Kst Kret)=Kret (.tf true) [[]] fr):Con.ok P ⟨f,[],fun _=>true,fun _=> .bool true,fun _=> [],fun _ _=> .dead⟩:=fun x _=>by
  obtain ⟨h2,h3⟩:=calls_free (args:= []) (H:= [[]]) (H0:= [[]]) (lo:=0) (hi:=hi) (v0:= .bool true) (sy:=true) (n:=n) ok hm hX hf (Nat.zero_le _) (by simp) (names_of rfl)
    (Holds.eq (e _ _) (ret_intro id _ _ ⟨rfl,rfl⟩ hfr (rn_bool_tf rfl) rfl entl_nil))
  exact ⟨⟨hi,h1,h2⟩,h3⟩
end
namespace S
def mkl {α:Type} (n:Nat) (f:Nat→α):List α:=(List.range n).map f
def at' {α:Type} [Inhabited α] (L:List α) (j:Nat):α:=L.getD j default
def snoc {α:Type} (L:List α) (x:α):List α:=L++ [x]
end S
section
variable {α β:Type} [Inhabited α]
theorem mkl_len {n:Nat} {f:Nat→α}:(S.mkl n f).length=n:=by simp [S.mkl]
theorem at_mkl {n:Nat} {f:Nat→α} {j:Nat} (h:j<n):S.at' (S.mkl n f) j=f j:=by simp [S.mkl,S.at',h]
theorem col_mkl {n:Nat} {f:Nat→α} (p:α→β) {j:Nat} (h:j<(S.mkl n f).length):p (S.at' (S.mkl n f) j)=p (f j):=by rw [at_mkl (by simpa [S.mkl] using h)]
theorem mkl_at (L:List α):S.mkl L.length (S.at' L)=L:=by
  apply List.ext_getElem
  · simp [S.mkl]
  · intro i h1 h2; simp [S.mkl,S.at',h2]
theorem at_lt {L:List α} {j:Nat} (h:j<L.length):S.at' L j=L[j]:=by simp [S.at',h]
theorem snoc_len {L:List α} {x:α}:(S.snoc L x).length=L.length+1:=by simp [S.snoc]
theorem col_snoc {L:List α} {x:α} (p:α→β) (j:Nat) (h:j<(S.snoc L x).length):p (S.at' (S.snoc L x) j)=joinf L.length (fun j=>p (S.at' L j)) (fun _=>p x) j:=by
  unfold joinf
  cases hb:Nat.blt j L.length with
  |true=>
    have:j<L.length:=lt_ok hb
    simp only [cond_true]
    rw [S.snoc,S.at',List.getD_eq_getElem?_getD,List.getElem?_append_left this]
    simp [S.at']
  |false=>
    have h1: ¬ j<L.length:=fun h=>by rw [show Nat.blt j L.length=true by simpa [Nat.blt_eq] using h] at hb; cases hb
    rw [snoc_len] at h
    have:j=L.length:=by omega
    subst this
    simp [S.snoc,S.at']
theorem mkl_congr {n:Nat} {f g:Nat→α} (h: ∀ j,j<n→f j=g j):S.mkl n f=S.mkl n g:=by
  unfold S.mkl
  exact List.map_congr_left fun j hj=>h j (List.mem_range.1 hj)
theorem mkl_eq {n:Nat} {f:Nat→α} {L:List α} (hn:n=L.length) (h: ∀ j,j<n→f j=S.at' L j):S.mkl n f=L:=by
  subst hn; rw [mkl_congr h,mkl_at]
theorem mkl_inj {n m:Nat} {f g:Nat→α}:S.mkl n f=S.mkl m g↔n=m∧ ∀ j,j<n→f j=g j:=by
  constructor
  · intro h
    have hl:=congrArg List.length h
    rw [mkl_len,mkl_len] at hl
    refine ⟨hl,fun j hj=> ?_⟩
    rw [← at_mkl (f:=f) hj,h,at_mkl (by omega)]
  · rintro ⟨rfl,h⟩; exact mkl_congr h
end
theorem rb_lit {r:Mp} {n:Nat} {cs:List Col} {l:List PV} (h: ∀ j,j<n→ ∀ i,i<lenc cs→ ∃ v',nth l (j*lenc cs+i)=some v'∧Rn r (colsAt cs j i) v'):Rb r (.cols n cs) (.cells l):=rb_cells_cols fun j i hj hi=>h j hj i hi
theorem entl_b {r:Mp} {fresh:Nat→Prop} {H':Heap} {k:Nat} {blk blk':Blk} {l:Lvl} (hu:r.use k) (hg:hget H' (r.nm k)=some (true,blk')) (hd:blk'≠ .dead) (h:Rb r blk blk') (hl:EntL r fresh H' l):EntL r fresh H' ((k,true,blk)::l):=
  entl_blk hu hg hd id h hl
section
variable {α β:Type} [Inhabited α]
theorem snoc_len' {L:List α} {x:α} {n:Nat} (h:L.length=n):(S.snoc L x).length=n+1:=by rw [snoc_len,h]
theorem col_snoc' {L:List α} {x:α} (p:α→β) {n:Nat} (hn:L.length=n) {f:Nat→β} (hf: ∀ j,j<L.length→p (S.at' L j)=f j) (j:Nat) (h:j<(S.snoc L x).length):p (S.at' (S.snoc L x) j)=cond (Nat.blt j n) (f j) (p x):=by
  subst hn
  rw [col_snoc p j h]
  unfold joinf
  cases hb:Nat.blt j L.length with
  |true=>exact hf j (lt_ok hb)
  |false=>rfl
end
section
variable {α β γ δ ε ζ:Type} [Inhabited α] [Inhabited β] [Inhabited γ] [Inhabited δ] [Inhabited ε] [Inhabited ζ]
theorem mkl1_at (L:List α):(S.mkl L.length fun j=>S.at' L j)=L:=mkl_at L
omit [Inhabited α] in
theorem mkl_succ {n:Nat} {f:Nat→α}:S.mkl (n+1) f=S.snoc (S.mkl n f) (f n):=by simp [S.mkl,S.snoc,List.range_succ]
end
theorem of_dec {p:Prop} {d:Decidable p} {b:Bool} (h:b=true) (e:b= @decide p d):p:=by
  subst e; exact @of_decide_eq_true p d h
end Go.Ev
namespace Go.Ev
open Go.Proofs
noncomputable abbrev pvE:PV:=PV.str {data:= {toList:= []}}
noncomputable def Tryz.tys:List TyI:=
[⟨.other, 1,0,none,true,true⟩,
 ⟨.func,1,8,some [PV.nilf],true,true⟩,
 ⟨.int .i64,1,8,some [.int .i64 0],true,true⟩,
 ⟨.int .i64,1,8,some [.int .i64 0],true,true⟩,
 ⟨.bool,1,1,some [PV.tf false],true,true⟩,
 ⟨.int .u8,1,1,some [.int .u8 0],true,true⟩,
 ⟨.int .u8,1,1,some [.int .u8 0],true,true⟩,
 ⟨.struct [(0,2),(1,3),(2,4),(3,6)],4,24,some [.int .i64 0,.int .i64 0,PV.tf false,.int .u8 0],true,true⟩,
 ⟨.struct [(0,2),(1,3),(2,4),(3,6)],4,24,some [.int .i64 0,.int .i64 0,PV.tf false,.int .u8 0],true,true⟩,
 ⟨.string,1,16,some [pvE],true,true⟩,
 ⟨.string,1,16,some [pvE],true,true⟩,
 ⟨.string,1,16,some [pvE],true,true⟩,
 ⟨.int .u64,1,8,some [.int .u64 0],true,true⟩,
 ⟨.struct [(0,9),(1,12)],2,24,some [pvE,.int .u64 0],false,true⟩,
 ⟨.struct [(0,9),(1,12)],2,24,some [pvE,.int .u64 0],false,true⟩,
 ⟨.ptr 162,1,8,some [PV.nilp],true,true⟩,
 ⟨.ptr 165,1,8,some [PV.nilp],true,true⟩,
 ⟨.ptr 172,1,8,some [PV.nilp],true,true⟩,
 ⟨.struct [(0,17)],1,8,some [PV.nilp],false,true⟩,
 ⟨.struct [(0,17)],1,8,some [PV.nilp],false,true⟩,
 ⟨.other,1,16,some [PV.nili],true,true⟩,
 ⟨.int .i32,1,4,some [.int .i32 0],true,true⟩,
 ⟨.slice 3,1,24,some [PV.nils],true,true⟩,
 ⟨.struct [(0,4),(1,22)],2,32,some [PV.tf false,PV.nils],true,true⟩,
 ⟨.struct [(0,4),(1,22)],2,32,some [PV.tf false,PV.nils],true,true⟩,
 ⟨.array 2 24,4,64,some [PV.tf false,PV.nils,PV.tf false,PV.nils],true,true⟩,
 ⟨.func,1,8,some [PV.nilf],true,true⟩,
 ⟨.func,1,8,some [PV.nilf],true,true⟩,
 ⟨.slice 24,1,24,some [PV.nils],true,true⟩,
 ⟨.struct [(0,24),(2,24)],4,64,some [PV.tf false,PV.nils,PV.tf false,PV.nils],true,true⟩,
 ⟨.struct [(0,24),(2,24)],4,64,some [PV.tf false,PV.nils,PV.tf false,PV.nils],true,true⟩,
 ⟨.int .i64,1,8,some [.int .i64 0],true,true⟩,
 ⟨.other,1,0,none,true,true⟩,
 ⟨.func,1,8,some [PV.nilf],true,true⟩,
 ⟨.func,1,8,some [PV.nilf],true,true⟩,
 ⟨.func,1,8,some [PV.nilf],true,true⟩,
 ⟨.func,1,8,some [PV.nilf],true,true⟩,
 ⟨.func,1,8,some [PV.nilf],true,true⟩,
 ⟨.slice 30,1,24,some [PV.nils],true,true⟩,
 ⟨.other,1,0,none,true,true⟩,
 ⟨.func,1,8,some [PV.nilf],true,true⟩,
 ⟨.func,1,8,some [PV.nilf],true,true⟩,
 ⟨.func,1,8,some [PV.nilf],true,true⟩,
 ⟨.func,1,8,some [PV.nilf],true,true⟩,
 ⟨.func,1,8,some [PV.nilf],true,true⟩,
 ⟨.func,1,8,some [PV.nilf],true,true⟩,
 ⟨.array 2 45,2,16,some [PV.nilf,PV.nilf],true,true⟩,
 ⟨.slice 46,1,24,some [PV.nils],true,true⟩,
 ⟨.int .i16,1,2,some [.int .i16 0],true,true⟩,
 ⟨.struct [(0,48),(1,5)],2,4,some [.int .i16 0,.int .u8 0],true,true⟩,
 ⟨.struct [(0,48),(1,5)],2,4,some [.int .i16 0,.int .u8 0],true,true⟩,
 ⟨.func,1,8,some [PV.nilf],true,true⟩,
 ⟨.func,1,8,some [PV.nilf],true,true⟩,
 ⟨.array 2 30,8,128,some [PV.tf false,PV.nils,PV.tf false,PV.nils,PV.tf false,PV.nils,PV.tf false,PV.nils],true,true⟩,
 ⟨.slice 53,1,24,some [PV.nils],true,true⟩,
 ⟨.func,1,8,some [PV.nilf],true,true⟩,
 ⟨.func,1,8,some [PV.nilf],true,true⟩,
 ⟨.func,1,8,some [PV.nilf],true,true⟩,
 ⟨.func,1,8,some [PV.nilf],true,true⟩,
 ⟨.other,1,0,none,true,true⟩,
 ⟨.func,1,8,some [PV.nilf],true,true⟩,
 ⟨.func,1,8,some [PV.nilf],true,true⟩,
 ⟨.func,1,8,some [PV.nilf],true,true⟩,
 ⟨.func,1,8,some [PV.nilf],true,true⟩,
 ⟨.func,1,8,some [PV.nilf],true,true⟩,
 ⟨.func,1,8,some [PV.nilf],true,true⟩,
 ⟨.func,1,8,some [PV.nilf],true,true⟩,
 ⟨.func,1,8,some [PV.nilf],true,true⟩,
 ⟨.func,1,8,some [PV.nilf],true,true⟩,
 ⟨.func,1,8,some [PV.nilf],true,true⟩,
 ⟨.func,1,8,some [PV.nilf],true,true⟩,
 ⟨.func,1,8,some [PV.nilf],true,true⟩,
 ⟨.other,1,0,none,true,true⟩,
 ⟨.func,1,8,some [PV.nilf],true,true⟩,
 ⟨.func,1,8,some [PV.nilf],true,true⟩,
 ⟨.func,1,8,some [PV.nilf],true,true⟩,
 ⟨.func,1,8,some [PV.nilf],true,true⟩,
 ⟨.slice 31,1,24,some [PV.nils],true,true⟩,
 ⟨.other,1,0,none,true,true⟩,
 ⟨.func,1,8,some [PV.nilf],true,true⟩,
 ⟨.func,1,8,some [PV.nilf],true,true⟩,
 ⟨.func,1,8,some [PV.nilf],true,true⟩,
 ⟨.func,1,8,some [PV.nilf],true,true⟩,
 ⟨.struct [(0,31)],1,8,some [.int .i64 0],true,true⟩,
 ⟨.struct [(0,31)],1,8,some [.int .i64 0],true,true⟩,
 ⟨.func,1,8,some [PV.nilf],true,true⟩,
 ⟨.func,1,8,some [PV.nilf],true,true⟩,
 ⟨.func,1,8,some [PV.nilf],true,true⟩,
 ⟨.func,1,8,some [PV.nilf],true,true⟩,
 ⟨.func,1,8,some [PV.nilf],true,true⟩,
 ⟨.other,1,0,none,true,true⟩,
 ⟨.func,1,8,some [PV.nilf],true,true⟩,
 ⟨.func,1,8,some [PV.nilf],true,true⟩,
 ⟨.func,1,8,some [PV.nilf],true,true⟩,
 ⟨.func,1,8,some [PV.nilf],true,true⟩,
 ⟨.func,1,8,some [PV.nilf],true,true⟩,
 ⟨.int .u64,1,8,some [.int .u64 0],true,true⟩,
 ⟨.func,1,8,some [PV.nilf],true,true⟩,
 ⟨.slice 5,1,24,some [PV.nils],true,true⟩,
 ⟨.func,1,8,some [PV.nilf],true,true⟩,
 ⟨.other,1,0,none,true,true⟩,
 ⟨.func,1,8,some [PV.nilf],true,true⟩,
 ⟨.func,1,8,some [PV.nilf],true,true⟩,
 ⟨.func,1,8,some [PV.nilf],true,true⟩,
 ⟨.func,1,8,some [PV.nilf],true,true⟩,
 ⟨.func,1,8,some [PV.nilf],true,true⟩,
 ⟨.func,1,8,some [PV.nilf],true,true⟩,
 ⟨.ptr 84,1,8,some [PV.nilp],true,true⟩,
 ⟨.func,1,8,some [PV.nilf],true,true⟩,
 ⟨.func,1,8,some [PV.nilf],true,true⟩,
 ⟨.int .u64,1,8,some [.int .u64 0],true,true⟩,
 ⟨.other,1,0,none,true,true⟩,
 ⟨.func,1,8,some [PV.nilf],true,true⟩,
 ⟨.ptr 115,1,8,some [PV.nilp],true,true⟩,
 ⟨.struct [(0,113),(1,98)],2,32,some [PV.nilp,PV.nils],true,true⟩,
 ⟨.struct [(0,113),(1,98)],2,32,some [PV.nilp,PV.nils],true,true⟩,
 ⟨.func,1,8,some [PV.nilf],true,true⟩,
 ⟨.other,1,16,some [PV.nili],false,true⟩,
 ⟨.other,1,16,some [PV.nili],false,true⟩,
 ⟨.other,1,0,none,true,true⟩,
 ⟨.func,1,8,some [PV.nilf],true,true⟩,
 ⟨.func,1,8,some [PV.nilf],true,true⟩,
 ⟨.func,1,8,some [PV.nilf],true,true⟩,
 ⟨.func,1,8,some [PV.nilf],true,true⟩,
 ⟨.array 256 4,256,256,some [PV.tf false,PV.tf false,PV.tf false,PV.tf false,PV.tf false,PV.tf false,PV.tf false,PV.tf false,PV.tf false,PV.tf false,PV.tf false,PV.tf false,PV.tf false,PV.tf false,PV.tf false,PV.tf false,PV.tf false,PV.tf false,PV.tf false,PV.tf false,PV.tf false,PV.tf false,PV.tf false,PV.tf false,PV.tf false,PV.tf false,PV.tf false,PV.tf false,PV.tf false,PV.tf false,PV.tf false,PV.tf false,PV.tf false,PV.tf false,PV.tf false,PV.tf false,PV.tf false,PV.tf false,PV.tf false,PV.tf false,PV.tf false,PV.tf false,PV.tf false,PV.tf false,PV.tf false,PV.tf false,PV.tf false,PV.tf false,PV.tf false,PV.tf false,PV.tf false,PV.tf false,PV.tf false,PV.tf false,PV.tf false,PV.tf false,PV.tf false,PV.tf false,PV.tf false,PV.tf false,PV.tf false,PV.tf false,PV.tf false,PV.tf false,PV.tf false,PV.tf false,PV.tf false,PV.tf false,PV.tf false,PV.tf false,PV.tf false,PV.tf false,PV.tf false,PV.tf false,PV.tf false,PV.tf false,PV.tf false,PV.tf false,PV.tf false,PV.tf false,PV.tf false,PV.tf false,PV.tf false,PV.tf false,PV.tf false,PV.tf false,PV.tf false,PV.tf false,PV.tf false,PV.tf false,PV.tf false,PV.tf false,PV.tf false,PV.tf false,PV.tf false,PV.tf false,PV.tf false,PV.tf false,PV.tf false,PV.tf false,PV.tf false,PV.tf false,PV.tf false,PV.tf false,PV.tf false,PV.tf false,PV.tf false,PV.tf false,PV.tf false,PV.tf false,PV.tf false,PV.tf false,PV.tf false,PV.tf false,PV.tf false,PV.tf false,PV.tf false,PV.tf false,PV.tf false,PV.tf false,PV.tf false,PV.tf false,PV.tf false,PV.tf false,PV.tf false,PV.tf false,PV.tf false,PV.tf false,PV.tf false,PV.tf false,PV.tf false,PV.tf false,PV.tf false,PV.tf false,PV.tf false,PV.tf false,PV.tf false,PV.tf false,PV.tf false,PV.tf false,PV.tf false,PV.tf false,PV.tf false,PV.tf false,PV.tf false,PV.tf false,PV.tf false,PV.tf false,PV.tf false,PV.tf false,PV.tf false,PV.tf false,PV.tf false,PV.tf false,PV.tf false,PV.tf false,PV.tf false,PV.tf false,PV.tf false,PV.tf false,PV.tf false,PV.tf false,PV.tf false,PV.tf false,PV.tf false,PV.tf false,PV.tf false,PV.tf false,PV.tf false,PV.tf false,PV.tf false,PV.tf false,PV.tf false,PV.tf false,PV.tf false,PV.tf false,PV.tf false,PV.tf false,PV.tf false,PV.tf false,PV.tf false,PV.tf false,PV.tf false,PV.tf false,PV.tf false,PV.tf false,PV.tf false,PV.tf false,PV.tf false,PV.tf false,PV.tf false,PV.tf false,PV.tf false,PV.tf false,PV.tf false,PV.tf false,PV.tf false,PV.tf false,PV.tf false,PV.tf false,PV.tf false,PV.tf false,PV.tf false,PV.tf false,PV.tf false,PV.tf false,PV.tf false,PV.tf false,PV.tf false,PV.tf false,PV.tf false,PV.tf false,PV.tf false,PV.tf false,PV.tf false,PV.tf false,PV.tf false,PV.tf false,PV.tf false,PV.tf false,PV.tf false,PV.tf false,PV.tf false,PV.tf false,PV.tf false,PV.tf false,PV.tf false,PV.tf false,PV.tf false,PV.tf false,PV.tf false,PV.tf false,PV.tf false,PV.tf false,PV.tf false,PV.tf false,PV.tf false,PV.tf false,PV.tf false,PV.tf false,PV.tf false,PV.tf false,PV.tf false,PV.tf false,PV.tf false,PV.tf false,PV.tf false,PV.tf false,PV.tf false,PV.tf false,PV.tf false,PV.tf false,PV.tf false,PV.tf false,PV.tf false,PV.tf false],true,true⟩,
 ⟨.array 256 4,256,256,some [PV.tf false,PV.tf false,PV.tf false,PV.tf false,PV.tf false,PV.tf false,PV.tf false,PV.tf false,PV.tf false,PV.tf false,PV.tf false,PV.tf false,PV.tf false,PV.tf false,PV.tf false,PV.tf false,PV.tf false,PV.tf false,PV.tf false,PV.tf false,PV.tf false,PV.tf false,PV.tf false,PV.tf false,PV.tf false,PV.tf false,PV.tf false,PV.tf false,PV.tf false,PV.tf false,PV.tf false,PV.tf false,PV.tf false,PV.tf false,PV.tf false,PV.tf false,PV.tf false,PV.tf false,PV.tf false,PV.tf false,PV.tf false,PV.tf false,PV.tf false,PV.tf false,PV.tf false,PV.tf false,PV.tf false,PV.tf false,PV.tf false,PV.tf false,PV.tf false,PV.tf false,PV.tf false,PV.tf false,PV.tf false,PV.tf false,PV.tf false,PV.tf false,PV.tf false,PV.tf false,PV.tf false,PV.tf false,PV.tf false,PV.tf false,PV.tf false,PV.tf false,PV.tf false,PV.tf false,PV.tf false,PV.tf false,PV.tf false,PV.tf false,PV.tf false,PV.tf false,PV.tf false,PV.tf false,PV.tf false,PV.tf false,PV.tf false,PV.tf false,PV.tf false,PV.tf false,PV.tf false,PV.tf false,PV.tf false,PV.tf false,PV.tf false,PV.tf false,PV.tf false,PV.tf false,PV.tf false,PV.tf false,PV.tf false,PV.tf false,PV.tf false,PV.tf false,PV.tf false,PV.tf false,PV.tf false,PV.tf false,PV.tf false,PV.tf false,PV.tf false,PV.tf false,PV.tf false,PV.tf false,PV.tf false,PV.tf false,PV.tf false,PV.tf false,PV.tf false,PV.tf false,PV.tf false,PV.tf false,PV.tf false,PV.tf false,PV.tf false,PV.tf false,PV.tf false,PV.tf false,PV.tf false,PV.tf false,PV.tf false,PV.tf false,PV.tf false,PV.tf false,PV.tf false,PV.tf false,PV.tf false,PV.tf false,PV.tf false,PV.tf false,PV.tf false,PV.tf false,PV.tf false,PV.tf false,PV.tf false,PV.tf false,PV.tf false,PV.tf false,PV.tf false,PV.tf false,PV.tf false,PV.tf false,PV.tf false,PV.tf false,PV.tf false,PV.tf false,PV.tf false,PV.tf false,PV.tf false,PV.tf false,PV.tf false,PV.tf false,PV.tf false,PV.tf false,PV.tf false,PV.tf false,PV.tf false,PV.tf false,PV.tf false,PV.tf false,PV.tf false,PV.tf false,PV.tf false,PV.tf false,PV.tf false,PV.tf false,PV.tf false,PV.tf false,PV.tf false,PV.tf false,PV.tf false,PV.tf false,PV.tf false,PV.tf false,PV.tf false,PV.tf false,PV.tf false,PV.tf false,PV.tf false,PV.tf false,PV.tf false,PV.tf false,PV.tf false,PV.tf false,PV.tf false,PV.tf false,PV.tf false,PV.tf false,PV.tf false,PV.tf false,PV.tf false,PV.tf false,PV.tf false,PV.tf false,PV.tf false,PV.tf false,PV.tf false,PV.tf false,PV.tf false,PV.tf false,PV.tf false,PV.tf false,PV.tf false,PV.tf false,PV.tf false,PV.tf false,PV.tf false,PV.tf false,PV.tf false,PV.tf false,PV.tf false,PV.tf false,PV.tf false,PV.tf false,PV.tf false,PV.tf false,PV.tf false,PV.tf false,PV.tf false,PV.tf false,PV.tf false,PV.tf false,PV.tf false,PV.tf false,PV.tf false,PV.tf false,PV.tf false,PV.tf false,PV.tf false,PV.tf false,PV.tf false,PV.tf false,PV.tf false,PV.tf false,PV.tf false,PV.tf false,PV.tf false,PV.tf false,PV.tf false,PV.tf false,PV.tf false,PV.tf false,PV.tf false,PV.tf false,PV.tf false,PV.tf false,PV.tf false,PV.tf false,PV.tf false,PV.tf false,PV.tf false,PV.tf false,PV.tf false,PV.tf false],true,true⟩,
 ⟨.other,1,0,none,true,true⟩,
 ⟨.func,1,8,some [PV.nilf],true,true⟩,
 ⟨.func,1,8,some [PV.nilf],true,true⟩,
 ⟨.ptr 125,1,8,some [PV.nilp],true,true⟩,
 ⟨.func,1,8,some [PV.nilf],true,true⟩,
 ⟨.func,1,8,some [PV.nilf],true,true⟩,
 ⟨.func,1,8,some [PV.nilf],true,true⟩,
 ⟨.func,1,8,some [PV.nilf],true,true⟩,
 ⟨.other,1,0,none,true,true⟩,
 ⟨.func,1,8,some [PV.nilf],true,true⟩,
 ⟨.int .u32,1,4,some [.int .u32 0],true,true⟩,
 ⟨.other,1,0,none,true,true⟩,
 ⟨.func,1,8,some [PV.nilf],true,true⟩,
 ⟨.other,1,0,none,true,true⟩,
 ⟨.func,1,8,some [PV.nilf],true,true⟩,
 ⟨.ptr 5,1,8,some [PV.nilp],true,true⟩,
 ⟨.other,1,0,none,true,true⟩,
 ⟨.func,1,8,some [PV.nilf],true,true⟩,
 ⟨.func,1,8,some [PV.nilf],true,true⟩,
 ⟨.func,1,8,some [PV.nilf],true,true⟩,
 ⟨.other,1,0,none,true,true⟩,
 ⟨.func,1,8,some [PV.nilf],true,true⟩,
 ⟨.func,1,8,some [PV.nilf],true,true⟩,
 ⟨.func,1,8,some [PV.nilf],true,true⟩,
 ⟨.func,1,8,some [PV.nilf],true,true⟩,
 ⟨.other,1,8,some [PV.nilp],true,true⟩,
 ⟨.func,1,8,some [PV.nilf],true,true⟩,
 ⟨.func,1,8,some [PV.nilf],true,true⟩,
 ⟨.func,1,8,some [PV.nilf],true,true⟩,
 ⟨.func,1,8,some [PV.nilf],true,true⟩,
 ⟨.array 256 5,256,256,some [.int .u8 0,.int .u8 0,.int .u8 0,.int .u8 0,.int .u8 0,.int .u8 0,.int .u8 0,.int .u8 0,.int .u8 0,.int .u8 0,.int .u8 0,.int .u8 0,.int .u8 0,.int .u8 0,.int .u8 0,.int .u8 0,.int .u8 0,.int .u8 0,.int .u8 0,.int .u8 0,.int .u8 0,.int .u8 0,.int .u8 0,.int .u8 0,.int .u8 0,.int .u8 0,.int .u8 0,.int .u8 0,.int .u8 0,.int .u8 0,.int .u8 0,.int .u8 0,.int .u8 0,.int .u8 0,.int .u8 0,.int .u8 0,.int .u8 0,.int .u8 0,.int .u8 0,.int .u8 0,.int .u8 0,.int .u8 0,.int .u8 0,.int .u8 0,.int .u8 0,.int .u8 0,.int .u8 0,.int .u8 0,.int .u8 0,.int .u8 0,.int .u8 0,.int .u8 0,.int .u8 0,.int .u8 0,.int .u8 0,.int .u8 0,.int .u8 0,.int .u8 0,.int .u8 0,.int .u8 0,.int .u8 0,.int .u8 0,.int .u8 0,.int .u8 0,.int .u8 0,.int .u8 0,.int .u8 0,.int .u8 0,.int .u8 0,.int .u8 0,.int .u8 0,.int .u8 0,.int .u8 0,.int .u8 0,.int .u8 0,.int .u8 0,.int .u8 0,.int .u8 0,.int .u8 0,.int .u8 0,.int .u8 0,.int .u8 0,.int .u8 0,.int .u8 0,.int .u8 0,.int .u8 0,.int .u8 0,.int .u8 0,.int .u8 0,.int .u8 0,.int .u8 0,.int .u8 0,.int .u8 0,.int .u8 0,.int .u8 0,.int .u8 0,.int .u8 0,.int .u8 0,.int .u8 0,.int .u8 0,.int .u8 0,.int .u8 0,.int .u8 0,.int .u8 0,.int .u8 0,.int .u8 0,.int .u8 0,.int .u8 0,.int .u8 0,.int .u8 0,.int .u8 0,.int .u8 0,.int .u8 0,.int .u8 0,.int .u8 0,.int .u8 0,.int .u8 0,.int .u8 0,.int .u8 0,.int .u8 0,.int .u8 0,.int .u8 0,.int .u8 0,.int .u8 0,.int .u8 0,.int .u8 0,.int .u8 0,.int .u8 0,.int .u8 0,.int .u8 0,.int .u8 0,.int .u8 0,.int .u8 0,.int .u8 0,.int .u8 0,.int .u8 0,.int .u8 0,.int .u8 0,.int .u8 0,.int .u8 0,.int .u8 0,.int .u8 0,.int .u8 0,.int .u8 0,.int .u8 0,.int .u8 0,.int .u8 0,.int .u8 0,.int .u8 0,.int .u8 0,.int .u8 0,.int .u8 0,.int .u8 0,.int .u8 0,.int .u8 0,.int .u8 0,.int .u8 0,.int .u8 0,.int .u8 0,.int .u8 0,.int .u8 0,.int .u8 0,.int .u8 0,.int .u8 0,.int .u8 0,.int .u8 0,.int .u8 0,.int .u8 0,.int .u8 0,.int .u8 0,.int .u8 0,.int .u8 0,.int .u8 0,.int .u8 0,.int .u8 0,.int .u8 0,.int .u8 0,.int .u8 0,.int .u8 0,.int .u8 0,.int .u8 0,.int .u8 0,.int .u8 0,.int .u8 0,.int .u8 0,.int .u8 0,.int .u8 0,.int .u8 0,.int .u8 0,.int .u8 0,.int .u8 0,.int .u8 0,.int .u8 0,.int .u8 0,.int .u8 0,.int .u8 0,.int .u8 0,.int .u8 0,.int .u8 0,.int .u8 0,.int .u8 0,.int .u8 0,.int .u8 0,.int .u8 0,.int .u8 0,.int .u8 0,.int .u8 0,.int .u8 0,.int .u8 0,.int .u8 0,.int .u8 0,.int .u8 0,.int .u8 0,.int .u8 0,.int .u8 0,.int .u8 0,.int .u8 0,.int .u8 0,.int .u8 0,.int .u8 0,.int .u8 0,.int .u8 0,.int .u8 0,.int .u8 0,.int .u8 0,.int .u8 0,.int .u8 0,.int .u8 0,.int .u8 0,.int .u8 0,.int .u8 0,.int .u8 0,.int .u8 0,.int .u8 0,.int .u8 0,.int .u8 0,.int .u8 0,.int .u8 0,.int .u8 0,.int .u8 0,.int .u8 0,.int .u8 0,.int .u8 0,.int .u8 0,.int .u8 0,.int .u8 0,.int .u8 0,.int .u8 0,.int .u8 0,.int .u8 0,.int .u8 0,.int .u8 0,.int .u8 0,.int .u8 0,.int .u8 0,.int .u8 0],true,true⟩,
 ⟨.struct [(0,5),(1,5)],2,2,some [.int .u8 0,.int .u8 0],true,true⟩,
 ⟨.struct [(0,5),(1,5)],2,2,some [.int .u8 0,.int .u8 0],true,true⟩,
 ⟨.array 16 158,32,32,some [.int .u8 0,.int .u8 0,.int .u8 0,.int .u8 0,.int .u8 0,.int .u8 0,.int .u8 0,.int .u8 0,.int .u8 0,.int .u8 0,.int .u8 0,.int .u8 0,.int .u8 0,.int .u8 0,.int .u8 0,.int .u8 0,.int .u8 0,.int .u8 0,.int .u8 0,.int .u8 0,.int .u8 0,.int .u8 0,.int .u8 0,.int .u8 0,.int .u8 0,.int .u8 0,.int .u8 0,.int .u8 0,.int .u8 0,.int .u8 0,.int .u8 0,.int .u8 0],true,true⟩,
 ⟨.func,1,8,some [PV.nilf],true,true⟩,
 ⟨.struct [(0,17),(1,17),(2,17),(3,9)],4,40,some [PV.nilp,PV.nilp,PV.nilp,pvE],false,true⟩,
 ⟨.struct [(0,17),(1,17),(2,17),(3,9)],4,40,some [PV.nilp,PV.nilp,PV.nilp,pvE],false,true⟩,
 ⟨.array 0 16,0,0,some [],true,true⟩,
 ⟨.struct [(0,163)],0,0,some [],false,true⟩,
 ⟨.struct [(0,163)],0,0,some [],false,true⟩,
 ⟨.int .u8,1,1,some [.int .u8 0],true,true⟩,
 ⟨.int .u8,1,1,some [.int .u8 0],true,true⟩,
 ⟨.func,1,8,some [PV.nilf],true,true⟩,
 ⟨.int .i32,1,4,some [.int .i32 0],true,true⟩,
 ⟨.int .i32,1,4,some [.int .i32 0],true,true⟩,
  {
    d:=
      TD.struct
        [(0,12),(1,12),(2,136),(3,166),(4,5),(5,5),(6,167),(7,168),(8,141),(9,169),(10,170)],
    size:=11,bytes:=48,
    zero :=
      some
        [.int .u64 0,.int .u64 0,
          .int .u32 0,.int .u8 0,
          .int .u8 0,.int .u8 0,
          .int .u8 0,PV.nilf,PV.nilp,
          .int .i32 0,.int .i32 0],
    eqok:=false,known:=true},
  {
    d:=
      TD.struct
        [(0,12),(1,12),(2,136),(3,166),(4,5),(5,5),(6,167),(7,168),(8,141),(9,169),(10,170)],
    size:=11,bytes:=48,
    zero :=
      some
        [.int .u64 0,.int .u64 0,
          .int .u32 0,.int .u8 0,
          .int .u8 0,.int .u8 0,
          .int .u8 0,PV.nilf,PV.nilp,
          .int .i32 0,.int .i32 0],
    eqok:=false,known:=true}]
noncomputable def Tryz.fns:List (Option FnI):=
  [none,none,some (mkFn Tryz.f2),some (mkFn Tryz.f3),some (mkFn Tryz.f4),some (mkFn Tryz.f5),some (mkFn Tryz.f6),some (mkFn Tryz.f7),some (mkFn Tryz.f8),some (mkFn Tryz.f9),some (mkFn Tryz.f10),some (mkFn Tryz.f11),some (mkFn Tryz.f12),some (mkFn Tryz.f13),some (mkFn Tryz.f14),some (mkFn Tryz.f15),some (mkFn Tryz.f16),some (mkFn Tryz.f17),some (mkFn Tryz.f18),some (mkFn Tryz.f19),some (mkFn Tryz.f20),some (mkFn Tryz.f21),some (mkFn Tryz.f22),some (mkFn Tryz.f23),some (mkFn Tryz.f24),some (mkFn Tryz.f25),some (mkFn Tryz.f26),some (mkFn Tryz.f27),some (mkFn Tryz.f28),some (mkFn Tryz.f29),some (mkFn Tryz.f30),some (mkFn Tryz.f31),some (mkFn Tryz.f32),some (mkFn Tryz.f33),some (mkFn Tryz.f34),some (mkFn Tryz.f35),some (mkFn Tryz.f36),some (mkFn Tryz.f37),some (mkFn Tryz.f38),some (mkFn Tryz.f39),some (mkFn Tryz.f40),some (mkFn Tryz.f41),some (mkFn Tryz.f42),some (mkFn Tryz.f43),some (mkFn Tryz.f44),some (mkFn Tryz.f45),some (mkFn Tryz.f46),some (mkFn Tryz.f47),some (mkFn Tryz.f48),some (mkFn Tryz.f49),some (mkFn Tryz.f50),some (mkFn Tryz.f51),some (mkFn Tryz.f52),some (mkFn Tryz.f53),some (mkFn Tryz.f54),some (mkFn Tryz.f55),some (mkFn Tryz.f56),some (mkFn Tryz.f57),some (mkFn Tryz.f58),some (mkFn Tryz.f59),some (mkFn Tryz.f60),some (mkFn Tryz.f61),some (mkFn Tryz.f62),some (mkFn Tryz.f63),some (mkFn Tryz.f64),some (mkFn Tryz.f65),some (mkFn Tryz.f66),some (mkFn Tryz.f67),some (mkFn Tryz.f68),some (mkFn Tryz.f69),some (mkFn Tryz.f70),some (mkFn Tryz.f71),some (mkFn Tryz.f72),some (mkFn Tryz.f73),some (mkFn Tryz.f74),some (mkFn Tryz.f75),some (mkFn Tryz.f76),some (mkFn Tryz.f77),some (mkFn Tryz.f78),some (mkFn Tryz.f79),some (mkFn Tryz.f80),some (mkFn Tryz.f81),some (mkFn Tryz.f82),some (mkFn Tryz.f83),some (mkFn Tryz.f84),some (mkFn Tryz.f85),some (mkFn Tryz.f86),some (mkFn Tryz.f87),some (mkFn Tryz.f88),some (mkFn Tryz.f89),some (mkFn Tryz.f90),some (mkFn Tryz.f91),some (mkFn Tryz.f92),some (mkFn Tryz.f93),some (mkFn Tryz.f94),some (mkFn Tryz.f95),some (mkFn Tryz.f96),some (mkFn Tryz.f97),some (mkFn Tryz.f98),some (mkFn Tryz.f99),some (mkFn Tryz.f100),some (mkFn Tryz.f101),some (mkFn Tryz.f102),some (mkFn Tryz.f103),some (mkFn Tryz.f104),some (mkFn Tryz.f105),some (mkFn Tryz.f106),some (mkFn Tryz.f107),some (mkFn Tryz.f108),some (mkFn Tryz.f109),some (mkFn Tryz.f110),some (mkFn Tryz.f111),some (mkFn Tryz.f112),some (mkFn Tryz.f113),some (mkFn Tryz.f114),some (mkFn Tryz.f115),some (mkFn Tryz.f116),some (mkFn Tryz.f117),some (mkFn Tryz.f118),some (mkFn Tryz.f119),some (mkFn Tryz.f120),some (mkFn Tryz.f121),some (mkFn Tryz.f122),some (mkFn Tryz.f123),some (mkFn Tryz.f124),some (mkFn Tryz.f125),some (mkFn Tryz.f126),some (mkFn Tryz.f127),some (mkFn Tryz.f128),some (mkFn Tryz.f129),some (mkFn Tryz.f130),some (mkFn Tryz.f131),some (mkFn Tryz.f132),some (mkFn Tryz.f133),some (mkFn Tryz.f134),some (mkFn Tryz.f135),some (mkFn Tryz.f136),some (mkFn Tryz.f137),some (mkFn Tryz.f138),some (mkFn Tryz.f139),some (mkFn Tryz.f140),some (mkFn Tryz.f141),some (mkFn Tryz.f142),some (mkFn Tryz.f143),some (mkFn Tryz.f144),some (mkFn Tryz.f145),some (mkFn Tryz.f146),some (mkFn Tryz.f147),some (mkFn Tryz.f148),some (mkFn Tryz.f149),some (mkFn Tryz.f150),some (mkFn Tryz.f151),none,some (mkFn Tryz.f153),some (mkFn Tryz.f154),some (mkFn Tryz.f155),none,none,some (mkFn Tryz.f158),some (mkFn Tryz.f159),none,some (mkFn Tryz.f161),some (mkFn Tryz.f162),some (mkFn Tryz.f163),none,none,none,none,none,none,none,none,none,none,none,none,none,none,none,none,none,none,none,none,none,some (mkFn Tryz.f185)]
noncomputable def Tryz.env:Env:=⟨Tryz.tys,Tryz.fns⟩
theorem Tryz.tys_ok:Tryz.tys=(List.range 173).map (mkTy Tryz.prog):=by kernel_rfl
theorem Tryz.fns_ok:Tryz.fns=Tryz.prog.funcs.toList.map fnOf:=by kernel_rfl
theorem Tryz.named_ok:named Tryz.prog.funcs.toList=true:=by kernel_rfl
theorem Tryz.envOk:EnvOk Tryz.prog Tryz.env:=envOk_of 173 Tryz.tys_ok Tryz.fns_ok Tryz.named_ok
theorem Tryz.mixed:Tryz.prog.follows .mixedOrders=true:=by kernel_rfl
end Go.Ev
