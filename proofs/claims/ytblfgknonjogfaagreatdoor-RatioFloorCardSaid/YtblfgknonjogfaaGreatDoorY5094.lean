/-
  The tQ that the statement needs, 4 of 4.
-/
import Derived.Test.YtblfgknonjogfaaGreatDoorY5093
namespace Go.Ev
open Go.Proofs
open Go.RowKit
set_option linter.unusedVariables false
set_option linter.unusedSimpArgs false
set_option maxRecDepth 100000
noncomputable def k556:Con:=⟨56,[.agg [.plain (.bool),.list [.int .i64]],.agg [.plain (.bool),.list [.int .i64]]],w48 (fun n1 ap np mp tp n2 aq nq mq tq=>decide ((ap+np≤mp∧np≤1000000)∧aq+nq≤mq∧nq≤1000000)),w48 (fun n1 ap np mp tp n2 aq nq mq tq=>(V556) (S.fT n1 np (FS tp ap) n2 nq (FS tq aq))),w48 (fun n1 ap np mp tp n2 aq nq mq tq=>(N556) (S.fT n1 np (FS tp ap) n2 nq (FS tq aq))),fun _ _=> .dead⟩
theorem e556 (n1:Bool) (ap np mp:Nat) (tp:Nat→Int) (n2:Bool) (aq nq mq:Nat) (tq:Nat→Int) (h:np=nq):decide (S.fJ np (fun j=>tp (j+ap))=S.fJ nq (fun j=>tq (j+aq)))=true↔ ∀ j,j<np→tp (j+ap)=tq (j+aq):=by
 rw [decide_eq_true_eq,qh]
 simp only [h,true_and]
theorem s556' (n1:Bool) (ap np mp:Nat) (tp:Nat→Int) (n2:Bool) (aq nq mq:Nat) (tq:Nat→Int) (hp:(ap+np≤mp∧np≤1000000)∧aq+nq≤mq∧nq≤1000000) (he:np=nq): ∀ k i:Nat,i+k=np→(∀ j,j<i→tp (j+ap)=tq (j+aq))→Comes (q556 n1 ap np mp tp n2 aq nq mq tq) (.h0 (i:Int)) (decide (S.fJ np (fun j=>tp (j+ap))=S.fJ nq (fun j=>tq (j+aq)))):=by
 obtain ⟨⟨hp1,hp2⟩,hp3,hp4⟩:=hp
 have hq:=e556 n1 ap np mp tp n2 aq nq mq tq he
 generalize decide (S.fJ np (fun j=>tp (j+ap))=S.fJ nq (fun j=>tq (j+aq)))=R at hq ⊢
 intro k
 induction k with
 |zero=>
  intro i hi hj
  obtain rfl:np=i:=by omega
  apply Comes.of
  show zX _ _ _
  (first|rw [q556]|unfold q556)
  repeat' (first|with_reducible refine zN (fun h=> ?_) (fun h=> ?_)<;>(try simp only [SH] at h)|exact zI.mpr (by omega))
  all_goals first|(exfalso; omega)|(exact zG.mpr (hq.mpr hj).symm)
 | succ k ih=>
  intro i hi hj
  have hw: ∀ {P:Prop},(R=true→P)→ ¬ P→false=R:=fun h1 h2=>by cases R; rfl; exact absurd (h1 rfl) h2
  apply Comes.of
  show zX _ _ _
  (first|rw [q556]|unfold q556)
  repeat' (first|with_reducible refine zN (fun h=> ?_) (fun h=> ?_)<;>(try simp only [SH] at h)|exact zI.mpr (by omega))
  all_goals first
    |(exfalso; omega)
    | (refine ih (i+1) (by omega) fun j hlt=> ?_
       rcases Nat.lt_or_eq_of_le (Nat.le_of_lt_succ hlt) with h1|h1
       · exact hj j h1
       · subst h1; simp_all)
    |(refine zG.mpr (hw (fun e=>hq.mp e i (by omega)) fun e=> ?_); simp_all)
theorem ik {n1 n2:Bool} {n m:Nat} {t u:Nat→Int} (h:n1≠n2∨n≠m):S.fT n1 n t n2 m u=false:=by
 refine decide_eq_false fun x=> ?_
 rcases h with h|h
 · exact h x.1
 · exact h (qh.mp x.2).1
theorem gV {n1 n2:Bool} {n m:Nat} {t u:Nat→Int} (h:n1=n2):S.fT n1 n t n2 m u=decide (S.fJ n t=S.fJ m u):=by
 unfold S.fT
 rw [Bool.eq_iff_iff,decide_eq_true_eq,decide_eq_true_eq]
 exact ⟨fun x=>x.2,fun x=>⟨h,x⟩⟩
theorem s556 (n1:Bool) (ap np mp:Nat) (tp:Nat→Int) (n2:Bool) (aq nq mq:Nat) (tq:Nat→Int) (hp:(ap+np≤mp∧np≤1000000)∧aq+nq≤mq∧nq≤1000000):zX ((q556 n1 ap np mp tp n2 aq nq mq tq)) ((p556 n1 ap np mp tp n2 aq nq mq tq)) (S.fT n1 np (fun j=>tp (j+ap)) n2 nq (fun j=>tq (j+aq))):=by
 by_cases hn:n1=n2
 · rw [gV hn]
   by_cases he:np=nq
   · have hm:=s556' n1 ap np mp tp n2 aq nq mq tq hp he np 0 (by omega) (fun j hj=>absurd hj (Nat.not_lt_zero j))
     subst hn
     cases n1 with
     |false=>
      show zX _ _ _
      unfold p556
      repeat' (first|with_reducible refine zN (fun h=> ?_) (fun h=> ?_)<;>(try simp only [SH] at h)|exact zI.mpr (by omega))
      all_goals first|(exfalso; omega)|exact hm
     |true=>
      show zX _ _ _
      unfold p556
      repeat' (first|with_reducible refine zN (fun h=> ?_) (fun h=> ?_)<;>(try simp only [SH] at h)|exact zI.mpr (by omega))
      all_goals first|(exfalso; omega)|exact hm
   · have hd:decide (S.fJ np (fun j=>tp (j+ap))=S.fJ nq (fun j=>tq (j+aq)))=false:=decide_eq_false (fun e=>he (qh.mp e).1)
     rw [hd]
     subst hn
     cases n1 with
     |false=>
      show zX _ _ _
      unfold p556
      repeat' (first|with_reducible refine zN (fun h=> ?_) (fun h=> ?_)<;>(try simp only [SH] at h)|exact zI.mpr (by omega))
      all_goals first|(exfalso; omega)|exact zG.mpr rfl
     |true=>
      show zX _ _ _
      unfold p556
      repeat' (first|with_reducible refine zN (fun h=> ?_) (fun h=> ?_)<;>(try simp only [SH] at h)|exact zI.mpr (by omega))
      all_goals first|(exfalso; omega)|exact zG.mpr rfl
 · rw [ik (.inl hn)]
   cases n1<;>cases n2<;>first|exact absurd rfl hn|(unfold p556; exact zG.mpr rfl)
theorem k556_ok:k556.ok Tryz.prog:=by
 intro x hx
 obtain ⟨⟨n1,⟨ap,np,mp,tp,_⟩,_⟩,⟨n2,⟨aq,nq,mq,tq,_⟩,_⟩,_⟩:=x
 obtain ⟨h1,h2⟩:=a556 n1 ap np mp tp n2 aq nq mq tq (s556 n1 ap np mp tp n2 aq nq mq tq (zo hx rfl))
 exact ⟨⟨400,(by decide:2+1+0≤400),h1⟩,h2⟩
section
variable (g9:TT) (fA:KS) (fC:KR) (n1:Bool) (ap np mp:Nat) (tp:NI) (n2:Bool) (aq nq mq:Nat) (tq:NI)
abbrev St541:=Empty
abbrev Rt541:=Bool
noncomputable def V541 (r:Rt541):PV:= .bool r
noncomputable def N541 (r:Rt541):List Blk:= []
noncomputable def I541:St541→Hd:=fun s=>s.elim
noncomputable def q541 (n1:Bool) (ap np mp:Nat) (tp:NI) (n2:Bool) (aq nq mq:Nat) (tq:NI):St541→Option (St541⊕Rt541):=fun s=>s.elim
noncomputable def p541 (n1:Bool) (ap np mp:Nat) (tp:NI) (n2:Bool) (aq nq mq:Nat) (tq:NI):Option (St541⊕Rt541):=bif (decide ((ap+np≤mp∧np≤1000000)∧aq+nq≤mq∧nq≤1000000∧(S.fE n1 np fun j=>tp (j+ap))=true∧(S.fE n2 nq fun j=>tq (j+aq))=true)) then (bif ((S.fU n1 np (fun j=>tp (j+ap)) n2 nq fun j=>tq (j+aq))==0) then (some (.inr true)) else (some (.inr false))) else none
def Te541:Prop:=g9 (decide ((ap+np≤mp∧np≤1000000)∧aq+nq≤mq∧nq≤1000000∧(S.fE n1 np (FS tp ap))=true∧(S.fE n2 nq (FS tq aq))=true)) (g9 ((S.fU n1 np (FS tp ap) n2 nq (FS tq aq))==0) (fC (.tf true) ([[(1,false,CB mq tq),(0,false,CB mp tp)]]) 5) (fC (.tf false) ([[(1,false,CB mq tq),(0,false,CB mp tp)]]) 5)) False
theorem te541:run g9 Tryz.env true (xR1 g9) true 400 ⟨41,[.cd (zS Tryz.f41).body],yD 0 [.agg [.bool n1,.loose ⟨0,1,ap,0⟩ np],.agg [.bool n2,.loose ⟨1,1,aq,0⟩ nq]],[[],[(0,(false,CB mp tp)),(1,(false,CB mq tq))]],2⟩ (zq 2 [] fA fC)=
 Te541 g9 fC n1 ap np mp tp n2 aq nq mq tq:=by kernel_rfl
noncomputable abbrev J541:Rt541→zQ:=fun r=> [yJ (2+1) ((N541) r)++ [(0,(false,CB mp tp)),(1,(false,CB mq tq))]]
attribute [local irreducible] Int.subNatNat in
theorem a541 {r:Rt541} (h:zX ((q541 n1 ap np mp tp n2 aq nq mq tq)) ((p541 n1 ap np mp tp n2 aq nq mq tq)) r):zn Tryz.prog 41 [.agg [.bool n1,.loose ⟨0,1,ap,0⟩ np],.agg [.bool n2,.loose ⟨1,1,aq,0⟩ nq]] [[(0,(false,CB mp tp)),(1,(false,CB mq tq))]] 2 ((V541) r) ((J541 mp tp mq tq) r) 400∧HB Tryz.prog 41:=by
 refine zf Tryz.envOk Tryz.mixed gH ((I541)) ((V541)) (J541 mp tp mq tq) (fn:=zS Tryz.f41) (ts:= []) (n:=400) rfl (by decide) (by simp) (zV rfl) ?_ ?_ ?_ h
 · intro s; exact s.elim
 · intro fA fC x hS hR h
   refine Holds.eq (te541 cond fA fC n1 ap np mp tp n2 aq nq mq tq) ?_
   unfold Te541
   unfold p541 at h
   exact zA h (fun c0 h=>zA h (fun c1 h=>zU hR _ h (fun n=>n) rfl rfl rfl (zR rfl) rfl (zB (zC rfl) rfl rfl (zB (zC rfl) rfl rfl zE))) (fun c1 h=>zU hR _ h (fun n=>n) rfl rfl rfl (zR rfl) rfl (zB (zC rfl) rfl rfl (zB (zC rfl) rfl rfl zE)))) (fun c0 h=>zF h)
 · intro fA fC x hS hR s h; exact s.elim
end
noncomputable def k541:Con:=⟨41,[.agg [.plain (.bool),.list [.int .i64]],.agg [.plain (.bool),.list [.int .i64]]],w48 (fun n1 ap np mp tp n2 aq nq mq tq=>decide ((ap+np≤mp∧np≤1000000)∧aq+nq≤mq∧nq≤1000000∧S.fE n1 np (FS tp ap)=true∧S.fE n2 nq (FS tq aq)=true)),w48 (fun n1 ap np mp tp n2 aq nq mq tq=>(V541) (decide (S.fU n1 np (FS tp ap) n2 nq (FS tq aq)=0))),w48 (fun n1 ap np mp tp n2 aq nq mq tq=>(N541) (decide (S.fU n1 np (FS tp ap) n2 nq (FS tq aq)=0))),fun _ _=> .dead⟩
theorem s541 (n1:Bool) (ap np mp:Nat) (tp:Nat→Int) (n2:Bool) (aq nq mq:Nat) (tq:Nat→Int) (hp:(ap+np≤mp∧np≤1000000)∧aq+nq≤mq∧nq≤1000000∧S.fE n1 np (fun j=>tp (j+ap))=true∧S.fE n2 nq (fun j=>tq (j+aq))=true):zX ((q541 n1 ap np mp tp n2 aq nq mq tq)) ((p541 n1 ap np mp tp n2 aq nq mq tq)) (decide (S.fU n1 np (fun j=>tp (j+ap)) n2 nq (fun j=>tq (j+aq))=0)):=by
 obtain ⟨⟨hp1,hp2⟩,hp3,hp4,g1,g2⟩:=hp
 unfold p541
 with_reducible refine zK (decide_eq_true ⟨⟨hp1,hp2⟩,hp3,hp4,g1,g2⟩) ?_
 by_cases h:S.fU n1 np (fun j=>tp (j+ap)) n2 nq (fun j=>tq (j+aq))=0
 · rw [decide_eq_true h]
   with_reducible refine zK (beq_iff_eq.mpr h) ?_
   exact zG.mpr rfl
 · rw [decide_eq_false h]
   with_reducible refine zd (beq_eq_false_iff_ne.mpr h) ?_
   exact zG.mpr rfl
theorem k541_ok:k541.ok Tryz.prog:=by
 intro x hx
 obtain ⟨⟨n1,⟨ap,np,mp,tp,_⟩,_⟩,⟨n2,⟨aq,nq,mq,tq,_⟩,_⟩,_⟩:=x
 obtain ⟨h1,h2⟩:=a541 n1 ap np mp tp n2 aq nq mq tq (s541 n1 ap np mp tp n2 aq nq mq tq (zo hx rfl))
 exact ⟨⟨400,(by decide:2+1+0≤400),h1⟩,h2⟩
theorem pa {a c:Int}:S.fO a c ∣ a∧S.fO a c ∣ c:=⟨Int.gcd_dvd_left ..,Int.gcd_dvd_right ..⟩
theorem jp {a c:Int}:0≤S.fO a c:=Int.natCast_nonneg _
theorem mP {a c:Int} (h:c≠0):0<S.fO a c:=by
 refine Int.not_le.mp fun e=>h ?_
 have:=(pa (a:=a) (c:=c)).2
 rw [show S.fO a c=0 by have:=jp (a:=a) (c:=c); omega] at this
 exact Int.zero_dvd.mp this
theorem kx {a c:Int} (h:c≠0):S.fO a c≤(c.natAbs:Int):=by
 refine Int.le_of_dvd (by omega) ?_
 exact Int.dvd_natAbs.mpr (pa (a:=a)).2
namespace S
noncomputable def rd (a c:Int):Int:=(c.natAbs:Int) / fO a c
def fH (n1:Bool) (n:Nat) (t:Nat→Int) (n2:Bool) (m:Nat) (u:Nat→Int):Bool:=fE n1 n t&&(fE n2 m u&&(!n2&&(decide (0<m)&&decide (Int.gcd (val n t) (val m u)=1))))
end S
theorem vY {n1:Bool} {n:Nat} {t:Nat→Int} {n2:Bool} {m:Nat} {u:Nat→Int}:S.fH n1 n t n2 m u=true↔S.fE n1 n t=true∧S.fE n2 m u=true∧n2=false∧0<m∧S.fO (S.val n t) (S.val m u)=1:=by
 unfold S.fH S.fO
 simp only [Bool.and_eq_true,decide_eq_true_eq,Bool.not_eq_true']
 have:((Int.gcd (S.val n t) (S.val m u):Nat):Int)=1↔Int.gcd (S.val n t) (S.val m u)=1:=by omega
 rw [this]
theorem wy {r:Int} (h0:0≤r) (h:r<S.pw 80):S.fE false (S.fX r).length (fun j=>S.at' (S.fX r) j)=true∧S.sv false (S.val (S.fX r).length fun j=>S.at' (S.fX r) j)=r:=
 ⟨y5.mpr ⟨z7 h,yH,.inr rfl⟩,z4 h0⟩
section
variable {n1 n2:Bool} {n m:Nat} {t u:Nat→Int}
theorem lk (g2:S.fE n2 m u=true) (hm:0<m):0<S.fO (S.val n t) (S.val m u):=mP (by have:=ya (yP g2).2 hm; omega)
theorem oa (g2:S.fE n2 m u=true) (hm:0<m):S.fO (S.val n t) (S.val m u)<S.pw 80:=by
 have h1:=ya (yP g2).2 hm
 have h2:=yF (zj (yP g2).2) (yP g2).1
 have:=kx (a:=S.val n t) (c:=S.val m u) (by omega)
 omega
end
noncomputable def xV (g9:Bool→Prop→Prop→Prop):Ext:=xK g9 [k65,k65v,k61,k44,k73,k46,k18,k19,k32,k45]
theorem iE:yZ Tryz.prog (xV cond):=yN ⟨k65_ok,k65v_ok,k61_ok,k44_ok,k73_ok,k46_ok,k18_ok,k19_ok,k32_ok,k45_ok,trivial⟩
theorem rH {x:Int}: ∀ {L:List Int},S.fZ (L++ [x])=S.fZ L+S.pw L.length*x
  | []=>by simp only [List.nil_append,S.fZ,List.length_nil,S.pw]; omega
  |y::L=>by
   simp only [List.cons_append,S.fZ,List.length_cons,S.pw]
   rw [rH,Int.mul_add,Int.mul_assoc]
   omega
theorem tdm {m:Int}:((Int.tmod m 1000000<0∧ -Int.tmod m 1000000=(m.natAbs:Int) % 1000000)∨(0≤Int.tmod m 1000000∧Int.tmod m 1000000=(m.natAbs:Int) % 1000000))∧((Int.tdiv m 1000000).natAbs:Int)=(m.natAbs:Int) / 1000000∧(0≤m→0≤Int.tdiv m 1000000)∧(m≤0→Int.tdiv m 1000000≤0):=by
 by_cases h:0≤m
 · rw [tmB h,tdB h,Int.natAbs_of_nonneg h]
   refine ⟨.inr ⟨by omega,rfl⟩,?_,fun _=>by omega,fun _=>by omega⟩
   rw [Int.natAbs_of_nonneg (by omega)]
 · have e1:Int.tmod m 1000000= -((-m) % 1000000):=by
    rw [← tmB (x:= -m) (by omega),Int.neg_tmod,Int.neg_neg]
   have e2:Int.tdiv m 1000000= -((-m) / 1000000):=by
    rw [← tdB (x:= -m) (by omega),Int.neg_tdiv,Int.neg_neg]
   rw [e1,e2]
   have e3:(m.natAbs:Int)= -m:=by omega
   rw [e3]
   refine ⟨?_,by omega,fun _=>by omega,fun _=>by omega⟩
   by_cases h0:(-m) % 1000000=0
   · right; omega
   · left; omega
section
variable (g9:TT) (fA:KS) (fC:KR) (v:Int)
abbrev St14:=Empty
abbrev Rt14:=Bool×List Int
noncomputable def V14 (r:Rt14):PV:= .agg [.bool r.1,.own 1 1 r.2.length]
noncomputable def N14 (r:Rt14):List Blk:= [CI r.2]
noncomputable def I14:St14→Hd:=fun s=>s.elim
noncomputable def q14 (v:Int):St14→Option (St14⊕Rt14):=fun s=>s.elim
noncomputable def p14 (v:Int):Option (St14⊕Rt14):=bif (decide (v<0)) then (bif (decide ((0:Int)≤IntKind.wrap .u64 (-IntKind.wrap .u64 v)∧IntKind.wrap .u64 (-IntKind.wrap .u64 v)≤9223372036854775808)) then (bif ((↑((S.fX (IntKind.wrap .u64 (-IntKind.wrap .u64 v))).length):Int)==0) then (some (.inr (false,[]))) else (some (.inr (true,S.fX (IntKind.wrap .u64 (-IntKind.wrap .u64 v)))))) else none) else (bif (decide ((0:Int)≤IntKind.wrap .u64 v∧IntKind.wrap .u64 v≤9223372036854775808)) then (bif ((↑((S.fX (IntKind.wrap .u64 v)).length):Int)==0) then (some (.inr (false,[]))) else (some (.inr (false,S.fX (IntKind.wrap .u64 v))))) else none)
noncomputable abbrev u14_e_0:=S.fX (IntKind.wrap IntKind.u64 (-IntKind.wrap IntKind.u64 v))
noncomputable abbrev u14_e_1:=(S.fX (IntKind.wrap IntKind.u64 v)).length
noncomputable abbrev u14_e_2:=decide ((0:Int)≤IntKind.wrap IntKind.u64 (-IntKind.wrap IntKind.u64 v)∧IntKind.wrap IntKind.u64 (-IntKind.wrap IntKind.u64 v)≤(9223372036854775808:Int))
def Te14:Prop:=g9 (decide (v<0)) (g9 (decide (v<0)) (g9 (u14_e_2 v) (g9 ((↑((u14_e_0 v).length):Int)==0) (fC (.agg [.tf false,.nils]) ([[]]) 4) (fC (.agg [.tf true,.own 2 1 (u14_e_0 v).length]) ([[(2,true,CI (u14_e_0 v))]]) 4)) False) (g9 (u14_e_2 v) (g9 ((↑((u14_e_0 v).length):Int)==0) (fC (.agg [.tf false,.nils]) ([[]]) 4) (fC (.agg [.tf false,.own 2 1 (u14_e_0 v).length]) ([[(2,true,CI (u14_e_0 v))]]) 4)) False)) (g9 (decide (v<0)) (g9 (decide ((0:Int)≤IntKind.wrap .u64 v∧IntKind.wrap .u64 v≤9223372036854775808)) (g9 ((↑(u14_e_1 v):Int)==0) (fC (.agg [.tf false,.nils]) ([[]]) 4) (fC (.agg [.tf true,.own 2 1 (u14_e_1 v)]) ([[(2,true,.cols (u14_e_1 v) [.int .i64 fun j=>S.at' (S.fX (IntKind.wrap .u64 v)) j])]]) 4)) False) (g9 (decide ((0:Int)≤IntKind.wrap .u64 v∧IntKind.wrap .u64 v≤9223372036854775808)) (g9 ((↑(u14_e_1 v):Int)==0) (fC (.agg [.tf false,.nils]) ([[]]) 4) (fC (.agg [.tf false,.own 2 1 (u14_e_1 v)]) ([[(2,true,.cols (u14_e_1 v) [.int .i64 fun j=>S.at' (S.fX (IntKind.wrap .u64 v)) j])]]) 4)) False))
theorem te14:run g9 Tryz.env true (xV g9) true 400 ⟨49,[.cd (zS Tryz.f49).body],yD 0 [.int .i64 v],[[],[]],0⟩ (zq 0 [] fA fC)=
 Te14 g9 fC v:=by kernel_rfl
attribute [local irreducible] Int.subNatNat in
theorem a14 {r:Rt14} (h:zX ((q14 v)) ((p14 v)) r):zn Tryz.prog 49 [.int .i64 v] [[]] 0 ((V14) r) ((fun r=> [yJ (0+1) ((N14) r)++ []]) r) 400∧HB Tryz.prog 49:=by
 refine zf Tryz.envOk Tryz.mixed iE ((I14)) ((V14)) (fun r=> [yJ (0+1) ((N14) r)++ []]) (fn:=zS Tryz.f49) (ts:= []) (n:=400) rfl (by decide) (by simp) (zV rfl) ?_ ?_ ?_ h
 · intro s; exact s.elim
 · intro fA fC x hS hR h
   refine Holds.eq (te14 cond fA fC v) ?_
   unfold Te14
   unfold p14 at h
   refine zA h (fun c0 h=>zJ c0 (zA h (fun c1 h=>zA h (fun c2 h=> ?_) (fun c2 h=> ?_)) (fun c1 h=> ?_))) (fun c0 h=>za c0 (zA h (fun c1 h=>zA h (fun c2 h=> ?_) (fun c2 h=> ?_)) (fun c1 h=> ?_)))
   all_goals first
     |exact zU hR _ h (fun n=>bif Nat.beq n 1 then 399 else n) rfl rfl rfl (zg ⟨(zR rfl),(zT rfl),trivial⟩) rfl (zY (zD rfl) (zc rfl) zE)
     |exact zU hR _ h (fun n=>bif Nat.beq n 1 then 2 else n) rfl rfl rfl (zg ⟨(zR rfl),(zZ (zD rfl) rfl rfl),trivial⟩) rfl (zL (zD rfl) rfl (Nat.le_of_eq rfl) (zO (fun _ _=>rfl) zP) zE)
     |exact zF h
 · intro fA fC x hS hR s h; exact s.elim
end
noncomputable def k14:Con:=⟨49,[.one (.plain (.int .i64))],w44 (fun v=>decide (-9223372036854775808≤v∧v≤9223372036854775807)),w44 (fun v=>(V14) (S.fP v)),w44 (fun v=>(N14) (S.fP v)),fun _ _=> .dead⟩
theorem s14 (v:Int) (hp: -9223372036854775808≤v∧v≤9223372036854775807):zX ((q14 v)) ((p14 v)) (((S.fP v).1,(S.fP v).2)):=by
 unfold S.fP
 by_cases h:v<0
 · have w:IntKind.u64.wrap (-IntKind.u64.wrap v)= -v:=by rw [IntKind.wrap_u64,IntKind.wrap_u64]; omega
   have e:((v.natAbs:Nat):Int)= -v:=by omega
   have l: ¬ (((S.fX (-v)).length:Int)==0)=true:=by
    have:=yT (v:= -v) (by omega)
    rw [beq_iff_eq]; omega
   unfold p14
   simp only [w,e,decide_eq_true h,cond_true,Bool.eq_false_iff.mpr l,cond_false]
   repeat' (first|with_reducible refine zN (fun h=> ?_) (fun h=> ?_)<;>(try simp only [SH] at h)|exact zI.mpr (by omega))
   all_goals first|(exfalso; omega)|exact zG.mpr rfl
 · have w:IntKind.u64.wrap v=v:=by rw [IntKind.wrap_u64]; omega
   have e:((v.natAbs:Nat):Int)=v:=by omega
   unfold p14
   simp only [w,e,decide_eq_false h,cond_false]
   have hz:= @yy v
   by_cases h0:v=0
   · subst h0
     simp only [z8,List.length_nil]
     repeat' (first|with_reducible refine zN (fun h=> ?_) (fun h=> ?_)<;>(try simp only [SH] at h)|exact zI.mpr (by omega))
     all_goals first|(exfalso; omega)|exact zG.mpr rfl
   · have l: ¬ (((S.fX v).length:Int)==0)=true:=by
      have:=yT (v:=v) (by omega)
      rw [beq_iff_eq]; omega
     simp only [Bool.eq_false_iff.mpr l,cond_false]
     repeat' (first|with_reducible refine zN (fun h=> ?_) (fun h=> ?_)<;>(try simp only [SH] at h)|exact zI.mpr (by omega))
     all_goals first|(exfalso; omega)|exact zG.mpr rfl
theorem k14_ok:k14.ok Tryz.prog:=by
 intro x hx
 obtain ⟨v,_⟩:=x
 obtain ⟨h1,h2⟩:=a14 v (s14 v (zo hx rfl))
 exact ⟨⟨400,(by decide:0+1+1≤400),h1⟩,h2⟩
section
variable (g9:TT) (fA:KS) (fC:KR) (v:Int)
inductive St21 where
 |h0 (x0:Int) (x1:List Int)
abbrev Rt21:=Bool×List Int
noncomputable def V21 (r:Rt21):PV:= .agg [.bool r.1,.own 1 1 r.2.length]
noncomputable def N21 (r:Rt21):List Blk:= [CI r.2]
noncomputable def I21:St21→Hd
  | .h0 x0 x1=>⟨hd Tryz.f43 0,[.int .i64 v,.ptr ⟨0,0,0,0⟩,
 .own 1 1 x1.length,.int .i64 x0],[[(0,(true,.cells [.tf false,.nils])),(1,(true,CI x1))],[]],2⟩
noncomputable def q21 (v:Int):St21→Option (St21⊕Rt21)| .h0 x0 x1=>bif (x0 != 0) then (bif (decide (Int.tmod x0 (1000000:Int)<0)) then (bif (lim .i64 (-Int.tmod x0 (1000000:Int))) then (bif (decide (x1.length+1≤1000000)) then (bif (decide (x1.length≤x1.length)) then (bif (lim .i64 (Int.tdiv x0 (1000000:Int))) then (some (.inl (.h0 (Int.tdiv x0 (1000000:Int)) (S.fI x1 (-Int.tmod x0 (1000000:Int)))))) else none) else none) else none) else none) else (bif (decide (x1.length+1≤1000000)) then (bif (decide (x1.length≤x1.length)) then (bif (lim .i64 (Int.tdiv x0 (1000000:Int))) then (some (.inl (.h0 (Int.tdiv x0 (1000000:Int)) (S.fI x1 (Int.tmod x0 (1000000:Int)))))) else none) else none) else none)) else (bif (decide (v<0)) then (bif (decide (0+x1.length≤x1.length∧x1.length≤1000000∧(S.fG x1.length fun j=>S.at' x1 j)=true)) then (some (.inr (S.fW true (S.val x1.length fun j=>S.at' x1 j),S.fX (S.val x1.length fun j=>S.at' x1 j)))) else none) else (bif (decide (0+x1.length≤x1.length∧x1.length≤1000000∧(S.fG x1.length fun j=>S.at' x1 j)=true)) then (some (.inr (S.fW false (S.val x1.length fun j=>S.at' x1 j),S.fX (S.val x1.length fun j=>S.at' x1 j)))) else none))
noncomputable def p21 (v:Int):Option (St21⊕Rt21):=some (.inl (.h0 v []))
def Te21:Prop:=fA (hd Tryz.f43 0) ([.int .i64 v,.ptr ⟨0,0,0,0⟩,.nils,.int .i64 v]) ([[(0,true,.cells [.tf false,.nils])]]) 1
theorem te21:run g9 Tryz.env true (xV g9) true 400 ⟨43,[.cd (zS Tryz.f43).body],yD 0 [.int .i64 v],[[],[]],0⟩ (zq 0 [0,2,3,4] fA fC)=
 Te21 fA v:=by kernel_rfl
noncomputable abbrev u21_0_0 (x1:List Int):=S.val x1.length fun j=>S.at' x1 j
def T21_0 (x0:Int) (x1:List Int):Prop:=g9 (x0 != 0) (g9 false False (g9 (decide (Int.tmod x0 (1000000:Int)<0)) (g9 (lim .i64 (-Int.tmod x0 (1000000:Int))) (g9 (decide (x1.length+1≤1000000)) (g9 (decide (x1.length≤x1.length)) (g9 true (g9 false False (g9 (lim .i64 (Int.tdiv x0 (1000000:Int))) (fA (hd Tryz.f43 0) ([.int .i64 v,.ptr ⟨0,0,0,0⟩,.own 3 1 (x1.length+1),.int .i64 (Int.tdiv x0 (1000000:Int))]) ([[(3,true,.cols (x1.length+1) [.int .i64 fun j=>bif Nat.blt j x1.length then S.at' x1 j else-Int.tmod x0 (1000000:Int)]),(0,true,.cells [.tf false,.nils])]]) 4) False)) False) False) False) False) (g9 (decide (x1.length+1≤1000000)) (g9 (decide (x1.length≤x1.length)) (g9 true (g9 false False (g9 (lim .i64 (Int.tdiv x0 (1000000:Int))) (fA (hd Tryz.f43 0) ([.int .i64 v,.ptr ⟨0,0,0,0⟩,.own 3 1 (x1.length+1),.int .i64 (Int.tdiv x0 (1000000:Int))]) ([[(3,true,.cols (x1.length+1) [.int .i64 fun j=>bif Nat.blt j x1.length then S.at' x1 j else Int.tmod x0 (1000000:Int)]),(0,true,.cells [.tf false,.nils])]]) 4) False)) False) False) False))) (g9 (decide (v<0)) (g9 (decide (0+x1.length≤x1.length∧x1.length≤1000000∧(S.fG x1.length fun j=>S.at' x1 j)=true)) (fC (.agg [.bool (S.fW true (u21_0_0 x1)),.own 3 1 (S.fX (u21_0_0 x1)).length]) ([[(3,true,CI (S.fX (u21_0_0 x1)))]]) 4) False) (g9 (decide (0+x1.length≤x1.length∧x1.length≤1000000∧(S.fG x1.length fun j=>S.at' x1 j)=true)) (fC (.agg [.bool (S.fW false (u21_0_0 x1)),.own 3 1 (S.fX (u21_0_0 x1)).length]) ([[(3,true,CI (S.fX (u21_0_0 x1)))]]) 4) False))
theorem t21_0 (x0:Int) (x1:List Int):run g9 Tryz.env true (xV g9) true 400 ⟨43,hd Tryz.f43 0,yc [0,2,3,4] [.int .i64 v,.ptr ⟨0,0,0,0⟩,
 .own 1 1 x1.length,.int .i64 x0],[[(0,(true,.cells [.tf false,.nils])),(1,(true,CI x1))],[]],2⟩ (zq 0 [0,2,3,4] fA fC)=
  T21_0 g9 fA fC v x0 x1:=by kernel_rfl
noncomputable abbrev J21:Rt21→zQ:=fun r=> [yJ (0+1) ((N21) r)++ []]
attribute [local irreducible] Int.subNatNat in
theorem a21 {r:Rt21} (h:zX ((q21 v)) ((p21 v)) r):zn Tryz.prog 43 [.int .i64 v] [[]] 0 ((V21) r) ((J21) r) 400∧HB Tryz.prog 43:=by
 refine zf Tryz.envOk Tryz.mixed iE ((I21 v)) ((V21)) (J21) (fn:=zS Tryz.f43) (ts:= [0,2,3,4]) (n:=400) rfl (by decide) (by simp) (zV rfl) ?_ ?_ ?_ h
 · intro s; cases s<;>exact ⟨ym _ _,by simp [I21],zV rfl,Nat.le_of_ble_eq_true rfl⟩
 · intro fA fC x hS hR h
   refine Holds.eq (te21 cond fA fC v) ?_
   unfold Te21
   exact zb hS _ h (fun n=>bif Nat.beq n 0 then 0 else bif Nat.beq n 1 then 399 else n) rfl rfl rfl ⟨(zH rfl),⟨(yG (zD rfl) rfl rfl),⟨(zT rfl),⟨(zH rfl),trivial⟩⟩⟩⟩ rfl (yK (zD rfl) rfl (by simp) (zt ⟨(yW rfl),xw,trivial⟩) (zY (zD rfl) (zc rfl) zE))
 · intro fA fC x hS hR s h
   cases s with
   | h0 x0 x1=>
    refine Holds.eq (t21_0 cond fA fC v x0 x1) ?_
    unfold T21_0
    rw [q21] at h
    refine zA h (fun c0 h=>za rfl (zA h (fun c1 h=>zA h (fun c2 h=>zA h (fun c3 h=>zA h (fun c4 h=>zJ rfl (za rfl (zA h (fun c5 h=> ?_) (fun c5 h=> ?_)))) (fun c4 h=> ?_)) (fun c3 h=> ?_)) (fun c2 h=> ?_)) (fun c1 h=>zA h (fun c2 h=>zA h (fun c3 h=>zJ rfl (za rfl (zA h (fun c4 h=> ?_) (fun c4 h=> ?_)))) (fun c3 h=> ?_)) (fun c2 h=> ?_)))) (fun c0 h=>zA h (fun c1 h=>zA h (fun c2 h=> ?_) (fun c2 h=> ?_)) (fun c1 h=>zA h (fun c2 h=> ?_) (fun c2 h=> ?_)))
    all_goals first
      |exact zF h
      |exact zb hS _ h (fun n=>bif Nat.beq n 0 then 0 else bif Nat.beq n 1 then 3 else n) rfl rfl rfl ⟨(zH rfl),⟨(yG (zD rfl) rfl rfl),⟨(zZ (zD rfl) rfl (z5 rfl)),⟨(zH rfl),trivial⟩⟩⟩⟩ rfl (yK (zD rfl) rfl (by simp) (zt ⟨(yW rfl),xw,trivial⟩) (zL (zD rfl) rfl (Nat.le_of_eq (z5 rfl)) (zO (yq (fun (t:Int)=>t) rfl (fun _ _=>rfl)) zP) zE))
      |exact zU hR _ h (fun n=>bif Nat.beq n 1 then 3 else n) rfl rfl rfl (zg ⟨(zu rfl),(zZ (zD rfl) rfl rfl),trivial⟩) rfl (zL (zD rfl) rfl (Nat.le_of_eq rfl) (zO (fun _ _=>rfl) zP) zE)
end
noncomputable def k21:Con:=⟨43,[.one (.plain (.int .i64))],w44 (fun v=>decide (-9223372036854775808≤v∧v≤9223372036854775807)),w44 (fun v=>(V21) (S.fP v)),w44 (fun v=>(N21) (S.fP v)),fun _ _=> .dead⟩
theorem s21' (v:Int) (hp: -9223372036854775808≤v∧v≤9223372036854775807): ∀ (k:Nat) (m:Int) (L:List Int),(m.natAbs:Int)<S.pw k→L.length+k≤1000→(∀ x ∈ L,0≤x∧x<1000000)→S.fZ L+S.pw L.length*(m.natAbs:Int)=(v.natAbs:Int)→((v<0∧m≤0)∨(0≤v∧0≤m))→(-9223372036854775808≤m∧m≤9223372036854775807)→Comes (q21 v) (.h0 m L) ((S.fP v).1,(S.fP v).2):=by
 have fin: ∀ (L:List Int),L.length≤1000→(∀ x ∈ L,0≤x∧x<1000000)→S.fZ L=(v.natAbs:Int)→Comes (q21 v) (.h0 0 L) ((S.fP v).1,(S.fP v).2):=fun L hl hd hv=>by
  have hvL:(S.val L.length fun j=>S.at' L j)=(v.natAbs:Int):=by have:=vE (L:=L); exact this.trans hv
  have c1:0+L.length≤L.length∧L.length≤1000000∧(S.fG L.length fun j=>S.at' L j)=true:=⟨by omega,by omega,yO.mpr fun j hj=>hd _ (by rw [tT hj]; exact List.getElem_mem _)⟩
  unfold S.fP
  apply Comes.of
  show zX _ _ _
  rw [q21]
  refine zd rfl ?_
  by_cases h:v<0
  · have hs:S.fW true (v.natAbs:Int)=true:=by unfold S.fW; rw [decide_eq_true (by omega)]; rfl
    simp only [decide_eq_true h,cond_true,decide_eq_true c1,hvL,hs]
    exact zG.mpr rfl
  · have hs:S.fW false (v.natAbs:Int)=false:=rfl
    simp only [decide_eq_false h,cond_false,decide_eq_true c1,cond_true,hvL,hs]
    exact zG.mpr rfl
 intro k
 induction k with
 |zero=>
  intro m L h1 hl hd hv hs hm
  have h1:(m.natAbs:Int)<1:=h1
  obtain rfl:m=0:=by omega
  exact fin L (by omega) hd (by rw [← hv]; simp)
 | succ k ih=>
  intro m L h1 hl hd hv hs hm
  have h1:(m.natAbs:Int)<1000000*S.pw k:=h1
  by_cases h0:m=0
  · subst h0
    exact fin L (by omega) hd (by rw [← hv]; simp)
  · obtain ⟨t1,t2,t3,t4⟩:=tdm (m:=m)
    have hn:(m.natAbs:Int)=(m.natAbs:Int) % 1000000+1000000*((m.natAbs:Int) / 1000000):=by omega
    have hd0:0≤(m.natAbs:Int) % 1000000∧(m.natAbs:Int) % 1000000<1000000:=by omega
    have hv':S.fZ L+S.pw L.length*((m.natAbs:Int) % 1000000)+S.pw (L.length+1)*((m.natAbs:Int) / 1000000)=(v.natAbs:Int):=by
     rw [← hv]
     have:S.pw (L.length+1)=1000000*S.pw L.length:=rfl
     rw [this]
     generalize S.pw L.length=P at*
     generalize (m.natAbs:Int) % 1000000=r at*
     generalize (m.natAbs:Int) / 1000000=d at*
     rw [hn,Int.mul_add,Int.mul_left_comm P 1000000 d,Int.mul_assoc]
     omega
    have ih:=ih (Int.tdiv m 1000000) (S.fI L ((m.natAbs:Int) % 1000000)) (by rw [t2]; omega) (by rw [yE]; omega)
      (by
       intro x hx
       rw [wB] at hx
       rcases List.mem_append.mp hx with hx|hx
       · exact hd x hx
       · rw [List.mem_singleton] at hx; subst hx; exact hd0)
      (by rw [wB,rH,t2,List.length_append]; exact hv')
      (by omega) (by omega)
    have hm0:(m != 0)=true:=by simpa using h0
    apply Comes.of
    show zX _ _ _
    rw [q21]
    simp only [hm0,cond_true]
    clear hv hv' hn
    rcases t1 with ⟨t1,t5⟩|⟨t1,t5⟩
    · simp only [decide_eq_true t1,cond_true,t5]
      generalize (m.natAbs:Int) % 1000000=r at*
      repeat' (first|with_reducible refine zN (fun h=> ?_) (fun h=> ?_)<;>(try simp only [SH] at h)|exact zI.mpr (by omega))
      all_goals first|(exfalso; omega)|exact ih
    · simp only [decide_eq_false (show ¬ Int.tmod m 1000000<0 by omega),cond_false,t5]
      generalize (m.natAbs:Int) % 1000000=r at*
      repeat' (first|with_reducible refine zN (fun h=> ?_) (fun h=> ?_)<;>(try simp only [SH] at h)|exact zI.mpr (by omega))
      all_goals first|(exfalso; omega)|exact ih
theorem s21 (v:Int) (hp: -9223372036854775808≤v∧v≤9223372036854775807):zX ((q21 v)) ((p21 v)) (((S.fP v).1,(S.fP v).2)):=by
 exact s21' v hp 4 v [] (by have:S.pw 4=1000000000000000000000000:=rfl; omega) (by decide) (fun x hx=>by cases hx) (by show (0:Int)+1*_=_; omega) (by omega) hp
theorem k21_ok:k21.ok Tryz.prog:=by
 intro x hx
 obtain ⟨v,_⟩:=x
 obtain ⟨h1,h2⟩:=a21 v (s21 v (zo hx rfl))
 exact ⟨⟨400,(by decide:0+1+1≤400),h1⟩,h2⟩
noncomputable def xR2 (g9:Bool→Prop→Prop→Prop):Ext:=xK g9 [k18,k19,k34,k35,k14,k21,k541,k556]
theorem lY:yZ Tryz.prog (xR2 cond):=yN ⟨k18_ok,k19_ok,k34_ok,k35_ok,k14_ok,k21_ok,k541_ok,k556_ok,trivial⟩
theorem qO:(1:Int)<S.pw 80:=by
 have:=y4 (k:=1) (m:=80) (by decide)
 have e:S.pw 1=1000000:=rfl
 omega
theorem qx {G:Int} (h0:0≤G) (h:(S.fX G).length=1):S.at' (S.fX G) 0=G:=by
 have hv:=ud h0
 match hL:S.fX G,h with
 | [x],_=>
  rw [hL] at hv
  simp only [S.fZ] at hv
  show x=G
  omega
theorem ov {a c:Int}:decide (Int.gcd a c=1)=decide (S.fO a c=1):=by
 unfold S.fO
 rw [Bool.eq_iff_iff,decide_eq_true_eq,decide_eq_true_eq]
 omega
theorem my {v w:Int} (h0:0≤v) (h1:0≤w) (l0:v<S.pw 80) (l1:w<S.pw 80):S.fU false (S.fX v).length (fun j=>S.at' (S.fX v) j) false (S.fX w).length (fun j=>S.at' (S.fX w) j)=S.fV v w:=by
 have o1:=wy h0 l0
 have o2:=wy h1 l1
 unfold S.fU
 rw [if_pos ⟨o1.1,o2.1⟩,o1.2,o2.2]
theorem pR {a:Int}:S.fO a 1=1:=by
 unfold S.fO
 rw [Int.gcd_one]; rfl
section
variable (g9:TT) (fA:KS) (fC:KR) (n1:Bool) (ap np mp:Nat) (tp:NI) (n2:Bool) (aq nq mq:Nat) (tq:NI)
noncomputable abbrev c522_e_0:=([[(1,false,Blk.cols mq [Col.int .i64 tq]),(0,false,Blk.cols mp [Col.int .i64 tp])]])
abbrev St522:=Empty
abbrev Rt522:=Bool
noncomputable def V522 (r:Rt522):PV:= .bool r
noncomputable def N522 (r:Rt522):List Blk:= []
noncomputable def I522:St522→Hd:=fun s=>s.elim
noncomputable def q522 (n1:Bool) (ap np mp:Nat) (tp:NI) (n2:Bool) (aq nq mq:Nat) (tq:NI):St522→Option (St522⊕Rt522):=fun s=>s.elim
noncomputable def p522 (n1:Bool) (ap np mp:Nat) (tp:NI) (n2:Bool) (aq nq mq:Nat) (tq:NI):Option (St522⊕Rt522):=bif (decide (ap+np≤mp∧np≤1000000)) then (bif (S.fE n1 np fun j=>tp (j+ap)) then (bif (decide (aq+nq≤mq∧nq≤1000000)) then (bif (S.fE n2 nq fun j=>tq (j+aq)) then (bif n2 then (some (.inr false)) else (bif ((nq:Int)==0) then (some (.inr false)) else (bif ((nq:Int)==1) then (bif (decide ((0:Int)≤0∧(0:Int)<(nq:Int))) then (bif (decide (0+aq<mq)) then (bif (tq (0+aq)==1) then (some (.inr true)) else (bif (decide ((ap+np≤mp∧np≤1000000)∧aq+nq≤mq∧nq≤1000000)) then (bif ((S.fN n1 np (fun j=>tp (j+ap)) n2 nq fun j=>tq (j+aq)).2.1==0) then (bif ((↑(((S.fN n1 np (fun j=>tp (j+ap)) n2 nq fun j=>tq (j+aq)).2.2).length):Int)==1) then (bif (decide ((0:Int)≤0∧(0:Int)<(↑((Prod.snd ((S.fN n1 np (fun j=>tp (j+ap)) n2 nq fun j=>tq (j+aq)).2)).length):Int))) then (bif (decide (0<((S.fN n1 np (fun j=>tp (j+ap)) n2 nq fun j=>tq (j+aq)).2.2).length)) then (bif (S.at' ((S.fN n1 np (fun j=>tp (j+ap)) n2 nq fun j=>tq (j+aq)).2.2) 0==1) then (some (.inr true)) else (some (.inr false))) else none) else none) else (some (.inr false))) else (some (.inr false))) else none)) else none) else none) else (bif (decide ((ap+np≤mp∧np≤1000000)∧aq+nq≤mq∧nq≤1000000)) then (bif ((S.fN n1 np (fun j=>tp (j+ap)) n2 nq fun j=>tq (j+aq)).2.1==0) then (bif ((↑(((S.fN n1 np (fun j=>tp (j+ap)) n2 nq fun j=>tq (j+aq)).2.2).length):Int)==1) then (bif (decide ((0:Int)≤0∧(0:Int)<(↑((Prod.snd ((S.fN n1 np (fun j=>tp (j+ap)) n2 nq fun j=>tq (j+aq)).2)).length):Int))) then (bif (decide (0<((S.fN n1 np (fun j=>tp (j+ap)) n2 nq fun j=>tq (j+aq)).2.2).length)) then (bif (S.at' ((S.fN n1 np (fun j=>tp (j+ap)) n2 nq fun j=>tq (j+aq)).2.2) 0==1) then (some (.inr true)) else (some (.inr false))) else none) else none) else (some (.inr false))) else (some (.inr false))) else none)))) else (some (.inr false))) else none) else (some (.inr false))) else none
noncomputable abbrev u522_e_0:=S.fN n1 np (fun j=>tp (j+ap)) n2 nq fun j=>tq (j+aq)
def Te522:Prop:=g9 (decide (ap+np≤mp∧np≤1000000)) (g9 (S.fE n1 np (FS tp ap)) (g9 (decide (aq+nq≤mq∧nq≤1000000)) (g9 (S.fE n2 nq (FS tq aq)) (g9 n2 (fC (.tf false) (c522_e_0 mp tp mq tq) 5) (g9 ((nq:Int)==0) (fC (.tf false) (c522_e_0 mp tp mq tq) 6) (g9 ((nq:Int)==1) (g9 (decide ((0:Int)≤0∧(0:Int)<(nq:Int))) (g9 (decide (0+aq<mq)) (g9 (tq (0+aq)==1) (g9 n2 (g9 (decide ((ap+np≤mp∧np≤1000000)∧aq+nq≤mq∧nq≤1000000)) (g9 ((u522_e_0 n1 ap np tp n2 aq nq tq).2.1==0) (g9 ((↑((u522_e_0 n1 ap np tp n2 aq nq tq).2.2.length):Int)==1) (g9 (decide ((0:Int)≤0∧(0:Int)<(↑((u522_e_0 n1 ap np tp n2 aq nq tq).2.2.length):Int))) (g9 (decide (0<(u522_e_0 n1 ap np tp n2 aq nq tq).2.2.length)) (g9 (S.at' (u522_e_0 n1 ap np tp n2 aq nq tq).2.2 0==1) (fC (.tf true) (c522_e_0 mp tp mq tq) 13) (fC (.tf false) (c522_e_0 mp tp mq tq) 13)) False) False) (fC (.tf false) (c522_e_0 mp tp mq tq) 13)) (fC (.tf false) (c522_e_0 mp tp mq tq) 12)) False) (fC (.tf true) (c522_e_0 mp tp mq tq) 7)) (g9 (decide ((ap+np≤mp∧np≤1000000)∧aq+nq≤mq∧nq≤1000000)) (g9 ((u522_e_0 n1 ap np tp n2 aq nq tq).2.1==0) (g9 ((↑((u522_e_0 n1 ap np tp n2 aq nq tq).2.2.length):Int)==1) (g9 (decide ((0:Int)≤0∧(0:Int)<(↑((u522_e_0 n1 ap np tp n2 aq nq tq).2.2.length):Int))) (g9 (decide (0<(u522_e_0 n1 ap np tp n2 aq nq tq).2.2.length)) (g9 (S.at' (u522_e_0 n1 ap np tp n2 aq nq tq).2.2 0==1) (fC (.tf true) (c522_e_0 mp tp mq tq) 13) (fC (.tf false) (c522_e_0 mp tp mq tq) 13)) False) False) (fC (.tf false) (c522_e_0 mp tp mq tq) 13)) (fC (.tf false) (c522_e_0 mp tp mq tq) 12)) False)) False) False) (g9 (decide ((ap+np≤mp∧np≤1000000)∧aq+nq≤mq∧nq≤1000000)) (g9 ((u522_e_0 n1 ap np tp n2 aq nq tq).2.1==0) (g9 ((↑((u522_e_0 n1 ap np tp n2 aq nq tq).2.2.length):Int)==1) (g9 (decide ((0:Int)≤0∧(0:Int)<(↑((u522_e_0 n1 ap np tp n2 aq nq tq).2.2.length):Int))) (g9 (decide (0<(u522_e_0 n1 ap np tp n2 aq nq tq).2.2.length)) (g9 (S.at' (u522_e_0 n1 ap np tp n2 aq nq tq).2.2 0==1) (fC (.tf true) (c522_e_0 mp tp mq tq) 13) (fC (.tf false) (c522_e_0 mp tp mq tq) 13)) False) False) (fC (.tf false) (c522_e_0 mp tp mq tq) 13)) (fC (.tf false) (c522_e_0 mp tp mq tq) 12)) False)))) (fC (.tf false) (c522_e_0 mp tp mq tq) 5)) False) (fC (.tf false) (c522_e_0 mp tp mq tq) 4)) False
theorem te522:run g9 Tryz.env true (xR2 g9) true 400 ⟨22,[.cd (zS Tryz.f22).body],yD 0 [.agg [.bool n1,.loose ⟨0,1,ap,0⟩ np,.bool n2,.loose ⟨1,1,aq,0⟩ nq]],[[],[(0,(false,CB mp tp)),(1,(false,CB mq tq))]],2⟩ (zq 2 [] fA fC)=
 Te522 g9 fC n1 ap np mp tp n2 aq nq mq tq:=by kernel_rfl
noncomputable abbrev J522:Rt522→zQ:=fun r=> [yJ (2+1) ((N522) r)++ [(0,(false,CB mp tp)),(1,(false,CB mq tq))]]
attribute [local irreducible] Int.subNatNat in
theorem a522 {r:Rt522} (h:zX ((q522 n1 ap np mp tp n2 aq nq mq tq)) ((p522 n1 ap np mp tp n2 aq nq mq tq)) r):zn Tryz.prog 22 [.agg [.bool n1,.loose ⟨0,1,ap,0⟩ np,.bool n2,.loose ⟨1,1,aq,0⟩ nq]] [[(0,(false,CB mp tp)),(1,(false,CB mq tq))]] 2 ((V522) r) ((J522 mp tp mq tq) r) 400∧HB Tryz.prog 22:=by
 refine zf Tryz.envOk Tryz.mixed lY ((I522)) ((V522)) (J522 mp tp mq tq) (fn:=zS Tryz.f22) (ts:= []) (n:=400) rfl (by decide) (by simp) (zV rfl) ?_ ?_ ?_ h
 · intro s; exact s.elim
 · intro fA fC x hS hR h
   refine Holds.eq (te522 cond fA fC n1 ap np mp tp n2 aq nq mq tq) ?_
   unfold Te522
   unfold p522 at h
   refine zA h (fun c0 h=>zA h (fun c1 h=>zA h (fun c2 h=>zA h (fun c3 h=>zA h (fun c4 h=> ?_) (fun c4 h=>zA h (fun c5 h=> ?_) (fun c5 h=>zA h (fun c6 h=>zA h (fun c7 h=>zA h (fun c8 h=>zA h (fun c9 h=>za c4 (zU hR _ h (fun n=>n) rfl rfl rfl (zR rfl) rfl (zB (zC rfl) rfl rfl (zB (zC rfl) rfl rfl zE)))) (fun c9 h=>zA h (fun c10 h=>zA h (fun c11 h=>zA h (fun c12 h=>zA h (fun c13 h=>zA h (fun c14 h=>zA h (fun c15 h=> ?_) (fun c15 h=> ?_)) (fun c14 h=> ?_)) (fun c13 h=> ?_)) (fun c12 h=> ?_)) (fun c11 h=> ?_)) (fun c10 h=> ?_))) (fun c8 h=> ?_)) (fun c7 h=> ?_)) (fun c6 h=>zA h (fun c7 h=>zA h (fun c8 h=>zA h (fun c9 h=>zA h (fun c10 h=>zA h (fun c11 h=>zA h (fun c12 h=> ?_) (fun c12 h=> ?_)) (fun c11 h=> ?_)) (fun c10 h=> ?_)) (fun c9 h=> ?_)) (fun c8 h=> ?_)) (fun c7 h=> ?_))))) (fun c3 h=> ?_)) (fun c2 h=> ?_)) (fun c1 h=> ?_)) (fun c0 h=> ?_)
   all_goals first
     |exact zU hR _ h (fun n=>n) rfl rfl rfl (zR rfl) rfl (zB (zC rfl) rfl rfl (zB (zC rfl) rfl rfl zE))
     |exact zF h
 · intro fA fC x hS hR s h; exact s.elim
end
noncomputable abbrev w522 {α:Type} (g:Bool→Nat→Nat→Nat→(Nat→Int)→Bool→Nat→Nat→Nat→(Nat→Int)→α) (x:(Bool×(Nat×Nat×Nat×(Nat→Int)×Unit)×Bool×(Nat×Nat×Nat×(Nat→Int)×Unit)×Unit)×Unit):α:=g x.1.1 x.1.2.1.1 x.1.2.1.2.1 x.1.2.1.2.2.1 x.1.2.1.2.2.2.1 x.1.2.2.1 x.1.2.2.2.1.1 x.1.2.2.2.1.2.1 x.1.2.2.2.1.2.2.1 x.1.2.2.2.1.2.2.2.1
noncomputable def k522:Con:=⟨22,[.agg [.plain (.bool),.list [.int .i64],.plain (.bool),.list [.int .i64]]],w522 (fun n1 ap np mp tp n2 aq nq mq tq=>decide ((ap+np≤mp∧np≤1000000)∧aq+nq≤mq∧nq≤1000000)),w522 (fun n1 ap np mp tp n2 aq nq mq tq=>(V522) (S.fH n1 np (FS tp ap) n2 nq (FS tq aq))),w522 (fun n1 ap np mp tp n2 aq nq mq tq=>(N522) (S.fH n1 np (FS tp ap) n2 nq (FS tq aq))),fun _ _=> .dead⟩
theorem s522 (n1:Bool) (ap np mp:Nat) (tp:Nat→Int) (n2:Bool) (aq nq mq:Nat) (tq:Nat→Int) (hp:(ap+np≤mp∧np≤1000000)∧aq+nq≤mq∧nq≤1000000):zX ((q522 n1 ap np mp tp n2 aq nq mq tq)) ((p522 n1 ap np mp tp n2 aq nq mq tq)) (S.fH n1 np (fun j=>tp (j+ap)) n2 nq (fun j=>tq (j+aq))):=by
 obtain ⟨⟨hp1,hp2⟩,hp3,hp4⟩:=hp
 unfold S.fH p522
 rw [ov]
 with_reducible refine zK (decide_eq_true ⟨hp1,hp2⟩) ?_
 cases g1:S.fE n1 np (fun j=>tp (j+ap))
 · with_reducible refine zd rfl ?_
   exact zG.mpr rfl
 with_reducible refine zK rfl ?_
 with_reducible refine zK (decide_eq_true ⟨hp3,hp4⟩) ?_
 cases g2:S.fE n2 nq (fun j=>tq (j+aq))
 · with_reducible refine zd rfl ?_
   exact zG.mpr rfl
 with_reducible refine zK rfl ?_
 cases n2
 rotate_left
 · with_reducible refine zK rfl ?_
   exact zG.mpr rfl
 with_reducible refine zd rfl ?_
 by_cases h0:nq=0
 · with_reducible refine zK (beq_iff_eq.mpr (by omega)) ?_
   rw [decide_eq_false (p:=0<nq) (by omega)]
   exact zG.mpr rfl
 with_reducible refine zd (beq_eq_false_iff_ne.mpr (by omega)) ?_
 have hr:S.fN n1 np (fun j=>tp (j+ap)) false nq (fun j=>tq (j+aq))=(false,0,S.fX (S.fO (S.val np (fun j=>tp (j+ap))) (S.val nq (fun j=>tq (j+aq))))):=by unfold S.fN; rw [if_pos ⟨g1,g2⟩]
 have lg:=z7 (oa (n:=np) (t:=(fun j=>tp (j+ap))) g2 (by omega))
 have gp:=lk (n:=np) (t:=(fun j=>tp (j+ap))) g2 (by omega)
 have gl:=oa (n:=np) (t:=(fun j=>tp (j+ap))) g2 (by omega)
 rw [decide_eq_true (p:=0<nq) (by omega)]
 by_cases h1:nq=1
 · with_reducible refine zK (beq_iff_eq.mpr (by omega)) ?_
   with_reducible refine zK (decide_eq_true ⟨Int.le_refl _,by omega⟩) ?_
   with_reducible refine zK (decide_eq_true (by omega)) ?_
   by_cases ht:tq (0+aq)=1
   · have hv:S.val nq (fun j=>tq (j+aq))=1:=by
      rw [h1]
      show tq (0+aq)+1000000*0=1
      omega
     with_reducible refine zK (beq_iff_eq.mpr ht) ?_
     rw [hv,pR]
     exact zG.mpr rfl
   · with_reducible refine zd (beq_eq_false_iff_ne.mpr ht) ?_
     with_reducible refine zK (decide_eq_true ⟨⟨hp1,hp2⟩,hp3,hp4⟩) ?_
     simp only [-eq_self,c522_e_0,hr]
     with_reducible refine zK (beq_self_eq_true _) ?_
     by_cases hG:(S.fO (S.val np (fun j=>tp (j+ap))) (S.val nq (fun j=>tq (j+aq))))=1
     · have eG:S.fX (S.fO (S.val np (fun j=>tp (j+ap))) (S.val nq (fun j=>tq (j+aq))))= [1]:=by rw [hG]; exact ub
       rw [decide_eq_true hG,eG]
       with_reducible refine zK rfl ?_
       with_reducible refine zK (decide_eq_true ⟨Int.le_refl _,by decide⟩) ?_
       with_reducible refine zK (decide_eq_true (by decide)) ?_
       with_reducible refine zK rfl ?_
       exact zG.mpr rfl
     · rw [decide_eq_false hG]
       by_cases hl:(S.fX (S.fO (S.val np (fun j=>tp (j+ap))) (S.val nq (fun j=>tq (j+aq))))).length=1
       · have ha:=qx (Int.le_of_lt gp) hl
         with_reducible refine zK (beq_iff_eq.mpr (by omega)) ?_
         with_reducible refine zK (decide_eq_true ⟨Int.le_refl _,by omega⟩) ?_
         with_reducible refine zK (decide_eq_true (by omega)) ?_
         with_reducible refine zd (beq_eq_false_iff_ne.mpr (by rw [ha]; exact hG)) ?_
         exact zG.mpr rfl
       · with_reducible refine zd (beq_eq_false_iff_ne.mpr (by omega)) ?_
         exact zG.mpr rfl
 · with_reducible refine zd (beq_eq_false_iff_ne.mpr (by omega)) ?_
   with_reducible refine zK (decide_eq_true ⟨⟨hp1,hp2⟩,hp3,hp4⟩) ?_
   simp only [-eq_self,c522_e_0,hr]
   with_reducible refine zK (beq_self_eq_true _) ?_
   by_cases hG:(S.fO (S.val np (fun j=>tp (j+ap))) (S.val nq (fun j=>tq (j+aq))))=1
   · have eG:S.fX (S.fO (S.val np (fun j=>tp (j+ap))) (S.val nq (fun j=>tq (j+aq))))= [1]:=by rw [hG]; exact ub
     rw [decide_eq_true hG,eG]
     with_reducible refine zK rfl ?_
     with_reducible refine zK (decide_eq_true ⟨Int.le_refl _,by decide⟩) ?_
     with_reducible refine zK (decide_eq_true (by decide)) ?_
     with_reducible refine zK rfl ?_
     exact zG.mpr rfl
   · rw [decide_eq_false hG]
     by_cases hl:(S.fX (S.fO (S.val np (fun j=>tp (j+ap))) (S.val nq (fun j=>tq (j+aq))))).length=1
     · have ha:=qx (Int.le_of_lt gp) hl
       with_reducible refine zK (beq_iff_eq.mpr (by omega)) ?_
       with_reducible refine zK (decide_eq_true ⟨Int.le_refl _,by omega⟩) ?_
       with_reducible refine zK (decide_eq_true (by omega)) ?_
       with_reducible refine zd (beq_eq_false_iff_ne.mpr (by rw [ha]; exact hG)) ?_
       exact zG.mpr rfl
     · with_reducible refine zd (beq_eq_false_iff_ne.mpr (by omega)) ?_
       exact zG.mpr rfl
theorem k522_ok:k522.ok Tryz.prog:=by
 intro x hx
 obtain ⟨⟨n1,⟨ap,np,mp,tp,_⟩,n2,⟨aq,nq,mq,tq,_⟩,_⟩,_⟩:=x
 obtain ⟨h1,h2⟩:=a522 n1 ap np mp tp n2 aq nq mq tq (s522 n1 ap np mp tp n2 aq nq mq tq (zo hx rfl))
 exact ⟨⟨400,(by decide:2+1+0≤400),h1⟩,h2⟩
section
variable (g9:TT) (fA:KS) (fC:KR) (n1:Bool) (ap np mp:Nat) (tp:NI) (n2:Bool) (aq nq mq:Nat) (tq:NI)
abbrev St523:=Empty
abbrev Rt523:=Bool
noncomputable def V523 (r:Rt523):PV:= .bool r
noncomputable def N523 (r:Rt523):List Blk:= []
noncomputable def I523:St523→Hd:=fun s=>s.elim
noncomputable def q523 (n1:Bool) (ap np mp:Nat) (tp:NI) (n2:Bool) (aq nq mq:Nat) (tq:NI):St523→Option (St523⊕Rt523):=fun s=>s.elim
noncomputable def p523 (n1:Bool) (ap np mp:Nat) (tp:NI) (n2:Bool) (aq nq mq:Nat) (tq:NI):Option (St523⊕Rt523):=bif (decide (ap+np≤mp∧np≤1000000)) then (bif (S.fE n1 np fun j=>tp (j+ap)) then (bif (decide (aq+nq≤mq∧nq≤1000000)) then (bif (S.fE n2 nq fun j=>tq (j+aq)) then (bif n2 then (some (.inr false)) else (bif ((nq:Int)==0) then (some (.inr false)) else (bif (decide ((ap+np≤mp∧np≤1000000)∧aq+nq≤mq∧nq≤1000000)) then (bif (decide ((0+(Prod.snd ((S.fN n1 np (fun j=>tp (j+ap)) n2 nq fun j=>tq (j+aq)).2)).length≤((S.fN n1 np (fun j=>tp (j+ap)) n2 nq fun j=>tq (j+aq)).2.2).length∧((S.fN n1 np (fun j=>tp (j+ap)) n2 nq fun j=>tq (j+aq)).2.2).length≤1000000)∧0+(Prod.snd ((S.fP (((1:Int),()).1)).1,(S.fP (((1:Int),()).1)).2)).length≤(Prod.snd ((S.fP (((1:Int),()).1)).1,(S.fP (((1:Int),()).1)).2)).length∧(Prod.snd ((S.fP (((1:Int),()).1)).1,(S.fP (((1:Int),()).1)).2)).length≤1000000∧(S.fE ((S.fN n1 np (fun j=>tp (j+ap)) n2 nq fun j=>tq (j+aq)).1) (Prod.snd ((S.fN n1 np (fun j=>tp (j+ap)) n2 nq fun j=>tq (j+aq)).2)).length fun j=>S.at' (Prod.snd ((S.fN n1 np (fun j=>tp (j+ap)) n2 nq fun j=>tq (j+aq)).2)) j)=true∧(S.fE false (Prod.snd ((S.fP (((1:Int),()).1)).1,(S.fP (((1:Int),()).1)).2)).length fun j=>S.at' ((Classical.indefiniteDescription (fun (x:Int→List Int)=>x=S.grpI) S.grp_ex).1 (↑(Int.natAbs (((1:Int),()).1)):Int)) j)=true)) then (bif (decide ((S.fU ((S.fN n1 np (fun j=>tp (j+ap)) n2 nq fun j=>tq (j+aq)).1) ((S.fN n1 np (fun j=>tp (j+ap)) n2 nq fun j=>tq (j+aq)).2.2).length (fun j=>S.at' ((S.fN n1 np (fun j=>tp (j+ap)) n2 nq fun j=>tq (j+aq)).2.2) j) false (Prod.snd ((S.fP (((1:Int),()).1)).1,(S.fP (((1:Int),()).1)).2)).length fun j=>S.at' ((Classical.indefiniteDescription (fun (x:Int→List Int)=>x=S.grpI) S.grp_ex).1 (↑(Int.natAbs (((1:Int),()).1)):Int)) j)=0)) then (some (.inr true)) else (some (.inr false))) else none) else none))) else (some (.inr false))) else none) else (some (.inr false))) else none
noncomputable abbrev u523_e_0:=([[(1,false,Blk.cols mq [Col.int IntKind.i64 tq]),(0,false,Blk.cols mp [Col.int IntKind.i64 tp])]])
noncomputable abbrev u523_e_1:=((S.fP ((1:Int),()).1).1,(S.fP ((1:Int),()).1).2)
def Te523:Prop:=g9 (decide (ap+np≤mp∧np≤1000000)) (g9 (S.fE n1 np (FS tp ap)) (g9 (decide (aq+nq≤mq∧nq≤1000000)) (g9 (S.fE n2 nq (FS tq aq)) (g9 n2 (fC (.tf false) (u523_e_0 mp tp mq tq) 5) (g9 ((nq:Int)==0) (fC (.tf false) (u523_e_0 mp tp mq tq) 6) (g9 (decide ((ap+np≤mp∧np≤1000000)∧aq+nq≤mq∧nq≤1000000)) (g9 true (g9 (decide ((0+(S.fN n1 np (FS tp ap) n2 nq (FS tq aq)).2.2.length≤(S.fN n1 np (FS tp ap) n2 nq (FS tq aq)).2.2.length∧(S.fN n1 np (FS tp ap) n2 nq (FS tq aq)).2.2.length≤1000000)∧0+(u523_e_1).2.length≤(u523_e_1).2.length∧(u523_e_1).2.length≤1000000∧(S.fE (S.fN n1 np (FS tp ap) n2 nq (FS tq aq)).1 (S.fN n1 np (FS tp ap) n2 nq (FS tq aq)).2.2.length fun j=>S.at' (S.fN n1 np (FS tp ap) n2 nq (FS tq aq)).2.2 j)=true∧(S.fE false (u523_e_1).2.length fun j=>S.at' ((Classical.indefiniteDescription (fun (x:Int→List Int)=>x=S.grpI) S.grp_ex).1 (↑(Int.natAbs ((1:Int),()).1):Int)) j)=true)) (g9 (decide ((S.fU (S.fN n1 np (FS tp ap) n2 nq (FS tq aq)).1 (S.fN n1 np (FS tp ap) n2 nq (FS tq aq)).2.2.length (fun j=>S.at' (S.fN n1 np (FS tp ap) n2 nq (FS tq aq)).2.2 j) false (u523_e_1).2.length fun j=>S.at' ((Classical.indefiniteDescription (fun (x:Int→List Int)=>x=S.grpI) S.grp_ex).1 (↑(Int.natAbs ((1:Int),()).1):Int)) j)=0)) (fC (.tf true) (u523_e_0 mp tp mq tq) 12) (fC (.tf false) (u523_e_0 mp tp mq tq) 12)) False) False) False))) (fC (.tf false) (u523_e_0 mp tp mq tq) 5)) False) (fC (.tf false) (u523_e_0 mp tp mq tq) 4)) False
theorem te523:run g9 Tryz.env true (xR2 g9) true 400 ⟨23,[.cd (zS Tryz.f23).body],yD 0 [.agg [.bool n1,.loose ⟨0,1,ap,0⟩ np,.bool n2,.loose ⟨1,1,aq,0⟩ nq]],[[],[(0,(false,CB mp tp)),(1,(false,CB mq tq))]],2⟩ (zq 2 [] fA fC)=
 Te523 g9 fC n1 ap np mp tp n2 aq nq mq tq:=by kernel_rfl
noncomputable abbrev J523:Rt523→zQ:=fun r=> [yJ (2+1) ((N523) r)++ [(0,(false,CB mp tp)),(1,(false,CB mq tq))]]
attribute [local irreducible] Int.subNatNat in
theorem a523 {r:Rt523} (h:zX ((q523 n1 ap np mp tp n2 aq nq mq tq)) ((p523 n1 ap np mp tp n2 aq nq mq tq)) r):zn Tryz.prog 23 [.agg [.bool n1,.loose ⟨0,1,ap,0⟩ np,.bool n2,.loose ⟨1,1,aq,0⟩ nq]] [[(0,(false,CB mp tp)),(1,(false,CB mq tq))]] 2 ((V523) r) ((J523 mp tp mq tq) r) 400∧HB Tryz.prog 23:=by
 refine zf Tryz.envOk Tryz.mixed lY ((I523)) ((V523)) (J523 mp tp mq tq) (fn:=zS Tryz.f23) (ts:= []) (n:=400) rfl (by decide) (by simp) (zV rfl) ?_ ?_ ?_ h
 · intro s; exact s.elim
 · intro fA fC x hS hR h
   refine Holds.eq (te523 cond fA fC n1 ap np mp tp n2 aq nq mq tq) ?_
   unfold Te523
   unfold p523 at h
   refine zA h (fun c0 h=>zA h (fun c1 h=>zA h (fun c2 h=>zA h (fun c3 h=>zA h (fun c4 h=> ?_) (fun c4 h=>zA h (fun c5 h=> ?_) (fun c5 h=>zA h (fun c6 h=>zJ rfl (zA h (fun c7 h=>zA h (fun c8 h=> ?_) (fun c8 h=> ?_)) (fun c7 h=> ?_))) (fun c6 h=> ?_)))) (fun c3 h=> ?_)) (fun c2 h=> ?_)) (fun c1 h=> ?_)) (fun c0 h=> ?_)
   all_goals first
     |exact zU hR _ h (fun n=>n) rfl rfl rfl (zR rfl) rfl (zB (zC rfl) rfl rfl (zB (zC rfl) rfl rfl zE))
     |exact zF h
 · intro fA fC x hS hR s h; exact s.elim
end
noncomputable def k523:Con:=⟨23,[.agg [.plain (.bool),.list [.int .i64],.plain (.bool),.list [.int .i64]]],w522 (fun n1 ap np mp tp n2 aq nq mq tq=>decide ((ap+np≤mp∧np≤1000000)∧aq+nq≤mq∧nq≤1000000)),w522 (fun n1 ap np mp tp n2 aq nq mq tq=>(V523) (S.fH n1 np (FS tp ap) n2 nq (FS tq aq))),w522 (fun n1 ap np mp tp n2 aq nq mq tq=>(N523) (S.fH n1 np (FS tp ap) n2 nq (FS tq aq))),fun _ _=> .dead⟩
theorem s523 (n1:Bool) (ap np mp:Nat) (tp:Nat→Int) (n2:Bool) (aq nq mq:Nat) (tq:Nat→Int) (hp:(ap+np≤mp∧np≤1000000)∧aq+nq≤mq∧nq≤1000000):zX ((q523 n1 ap np mp tp n2 aq nq mq tq)) ((p523 n1 ap np mp tp n2 aq nq mq tq)) (S.fH n1 np (fun j=>tp (j+ap)) n2 nq (fun j=>tq (j+aq))):=by
 obtain ⟨⟨hp1,hp2⟩,hp3,hp4⟩:=hp
 unfold S.fH p523
 rw [ov]
 with_reducible refine zK (decide_eq_true ⟨hp1,hp2⟩) ?_
 cases g1:S.fE n1 np (fun j=>tp (j+ap))
 · with_reducible refine zd rfl ?_
   exact zG.mpr rfl
 with_reducible refine zK rfl ?_
 with_reducible refine zK (decide_eq_true ⟨hp3,hp4⟩) ?_
 cases g2:S.fE n2 nq (fun j=>tq (j+aq))
 · with_reducible refine zd rfl ?_
   exact zG.mpr rfl
 with_reducible refine zK rfl ?_
 cases n2
 rotate_left
 · with_reducible refine zK rfl ?_
   exact zG.mpr rfl
 with_reducible refine zd rfl ?_
 by_cases h0:nq=0
 · with_reducible refine zK (beq_iff_eq.mpr (by omega)) ?_
   rw [decide_eq_false (p:=0<nq) (by omega)]
   exact zG.mpr rfl
 with_reducible refine zd (beq_eq_false_iff_ne.mpr (by omega)) ?_
 have hr:S.fN n1 np (fun j=>tp (j+ap)) false nq (fun j=>tq (j+aq))=(false,0,S.fX (S.fO (S.val np (fun j=>tp (j+ap))) (S.val nq (fun j=>tq (j+aq))))):=by unfold S.fN; rw [if_pos ⟨g1,g2⟩]
 have lg:=z7 (oa (n:=np) (t:=(fun j=>tp (j+ap))) g2 (by omega))
 have gp:=lk (n:=np) (t:=(fun j=>tp (j+ap))) g2 (by omega)
 have gl:=oa (n:=np) (t:=(fun j=>tp (j+ap))) g2 (by omega)
 rw [decide_eq_true (p:=0<nq) (by omega)]
 have o1:=wy (r:=1) (by decide) (qO)
 have oG:=wy (Int.le_of_lt gp) gl
 have hc:S.fU false (S.fX (S.fO (S.val np (fun j=>tp (j+ap))) (S.val nq (fun j=>tq (j+aq))))).length (fun j=>S.at' (S.fX (S.fO (S.val np (fun j=>tp (j+ap))) (S.val nq (fun j=>tq (j+aq))))) j) false (S.fX 1).length (fun j=>S.at' (S.fX 1) j)=S.fV (S.fO (S.val np (fun j=>tp (j+ap))) (S.val nq (fun j=>tq (j+aq)))) 1:=my (Int.le_of_lt gp) (by decide) gl qO
 have l1:(S.fX 1).length=1:=by rw [ub]; rfl
 with_reducible refine zK (decide_eq_true ⟨⟨hp1,hp2⟩,hp3,hp4⟩) ?_
 simp only [-eq_self,hr]
 refine zK (decide_eq_true ⟨⟨by omega,by omega⟩,?_,?_,oG.1,o1.1⟩) ?_
 · show 0+(S.fX 1).length≤(S.fX 1).length
   omega
 · show (S.fX 1).length≤1000000
   omega
 by_cases hG:(S.fO (S.val np (fun j=>tp (j+ap))) (S.val nq (fun j=>tq (j+aq))))=1
 · rw [decide_eq_true hG]
   refine zK (decide_eq_true (hc.trans (by rw [hG]; rfl))) ?_
   exact zG.mpr rfl
 · rw [decide_eq_false hG]
   refine zd (decide_eq_false fun x=>hG ?_) ?_
   · have y:=hc.symm.trans x
     unfold S.fV at y
     (repeat' split at y)<;>omega
   exact zG.mpr rfl
theorem k523_ok:k523.ok Tryz.prog:=by
 intro x hx
 obtain ⟨⟨n1,⟨ap,np,mp,tp,_⟩,n2,⟨aq,nq,mq,tq,_⟩,_⟩,_⟩:=x
 obtain ⟨h1,h2⟩:=a523 n1 ap np mp tp n2 aq nq mq tq (s523 n1 ap np mp tp n2 aq nq mq tq (zo hx rfl))
 exact ⟨⟨400,(by decide:2+1+0≤400),h1⟩,h2⟩
noncomputable def ifX (g9:Bool→Prop→Prop→Prop) (c1 c2:Con) (sel:SsJ c1.ss→Bool):Ext:=fun f args H fr K no=>match Nat.beq f c1.f with
 |false=>no
 |true=>match n8 H fr c1.ss args with
  |none=>no
  |some (x,_)=>g9 (sel x) (mv g9 c1 f args H fr K no) (mv g9 c2 f args H fr K no)
theorem me {P:Program} {c1 c2:Con} {sel:SsJ c1.ss→Bool} (h1:c1.ok P) (h2:c2.ok P):yZ P (ifX cond c1 c2 sel):=by
 intro f args H fr K no hne hN h
 unfold ifX at h
 split at h
 · exact .inr h
 · split at h
   · exact .inr h
   · rename_i x ns hx
     cases hs:sel x with
     |true=>rw [hs] at h; exact ro h1 f args H fr K no hne hN h
     |false=>rw [hs] at h; exact ro h2 f args H fr K no hne hN h
namespace S
noncomputable def fS (v:Int):Bool:=decide ((fX (v.natAbs:Int)).length≤80)
noncomputable def fQ (n1:Bool) (n:Nat) (t:Nat→Int) (n2:Bool) (m:Nat) (u:Nat→Int):Bool:=fS (sv n1 (val n t)*sv n2 (val m u))
noncomputable def ngM (n1:Bool) (n:Nat) (t:Nat→Int) (n2:Bool) (m:Nat) (u:Nat→Int):Bool:=decide (sv n1 (val n t)*sv n2 (val m u)<0)
noncomputable def grM (n1:Bool) (n:Nat) (t:Nat→Int) (n2:Bool) (m:Nat) (u:Nat→Int):List Int:=fX ((sv n1 (val n t)*sv n2 (val m u)).natAbs:Int)
noncomputable def fR (n1:Bool) (n:Nat) (t:Nat→Int) (n2:Bool) (m:Nat) (u:Nat→Int):Bool:=fS (sv n1 (val n t)+sv n2 (val m u))
noncomputable def ngA (n1:Bool) (n:Nat) (t:Nat→Int) (n2:Bool) (m:Nat) (u:Nat→Int):Bool:=decide (sv n1 (val n t)+sv n2 (val m u)<0)
noncomputable def grA (n1:Bool) (n:Nat) (t:Nat→Int) (n2:Bool) (m:Nat) (u:Nat→Int):List Int:=fX ((sv n1 (val n t)+sv n2 (val m u)).natAbs:Int)
end S
theorem kr {v:Int} (h:S.fS v=true):S.fa v=(decide (v<0),0,S.fX (v.natAbs:Int)):=by
 have:=of_decide_eq_true h
 unfold S.fa
 rw [if_neg (by omega)]
theorem ko {v:Int} (h:S.fS v=false):S.fa v=(false,3,[]):=by
 have:=of_decide_eq_false h
 unfold S.fa
 rw [if_pos (by omega)]
section
variable {n1 n2:Bool} {n m:Nat} {t u:Nat→Int}
theorem iz (g1:S.fE n1 n t=true) (g2:S.fE n2 m u=true) (h:S.fQ n1 n t n2 m u=true):S.fL n1 n t n2 m u=(S.ngM n1 n t n2 m u,0,S.grM n1 n t n2 m u):=by
 unfold S.fL
 rw [if_pos ⟨g1,g2⟩,kr h]; rfl
theorem gc (g1:S.fE n1 n t=true) (g2:S.fE n2 m u=true) (h:S.fQ n1 n t n2 m u=false):S.fL n1 n t n2 m u=(false,3,[]):=by
 unfold S.fL
 rw [if_pos ⟨g1,g2⟩,ko h]
theorem gC (g1:S.fE n1 n t=true) (g2:S.fE n2 m u=true) (h:S.fR n1 n t n2 m u=true):S.fM n1 n t n2 m u=(S.ngA n1 n t n2 m u,0,S.grA n1 n t n2 m u):=by
 unfold S.fM
 rw [if_pos ⟨g1,g2⟩,kr h]; rfl
theorem gK (g1:S.fE n1 n t=true) (g2:S.fE n2 m u=true) (h:S.fR n1 n t n2 m u=false):S.fM n1 n t n2 m u=(false,3,[]):=by
 unfold S.fM
 rw [if_pos ⟨g1,g2⟩,ko h]
end
noncomputable def k26f:Con:=⟨80,[.agg [.plain (.bool),.list [.int .i64]],.agg [.plain (.bool),.list [.int .i64]]],fun (x:(Bool×(Nat×Nat×Nat×(Nat→Int)×Unit)×Unit)×(Bool×(Nat×Nat×Nat×(Nat→Int)×Unit)×Unit)×Unit)=>(fun (n1:Bool) (ap np mp:Nat) (tp:Nat→Int) (n2:Bool) (aq nq mq:Nat) (tq:Nat→Int)=>decide (((ap+np≤mp∧np≤1000000)∧aq+nq≤mq∧nq≤1000000)∧S.fE n1 np (fun j=>tp (j+ap))=true∧S.fE n2 nq (fun j=>tq (j+aq))=true∧S.fQ n1 np (fun j=>tp (j+ap)) n2 nq (fun j=>tq (j+aq))=true)) x.1.1 x.1.2.1.1 x.1.2.1.2.1 x.1.2.1.2.2.1 x.1.2.1.2.2.2.1 x.2.1.1 x.2.1.2.1.1 x.2.1.2.1.2.1 x.2.1.2.1.2.2.1 x.2.1.2.1.2.2.2.1,fun (x:(Bool×(Nat×Nat×Nat×(Nat→Int)×Unit)×Unit)×(Bool×(Nat×Nat×Nat×(Nat→Int)×Unit)×Unit)×Unit)=>(fun (n1:Bool) (ap np mp:Nat) (tp:Nat→Int) (n2:Bool) (aq nq mq:Nat) (tq:Nat→Int)=>(V26) (S.ngM n1 np (fun j=>tp (j+ap)) n2 nq (fun j=>tq (j+aq)),0,S.grM n1 np (fun j=>tp (j+ap)) n2 nq (fun j=>tq (j+aq)))) x.1.1 x.1.2.1.1 x.1.2.1.2.1 x.1.2.1.2.2.1 x.1.2.1.2.2.2.1 x.2.1.1 x.2.1.2.1.1 x.2.1.2.1.2.1 x.2.1.2.1.2.2.1 x.2.1.2.1.2.2.2.1,fun (x:(Bool×(Nat×Nat×Nat×(Nat→Int)×Unit)×Unit)×(Bool×(Nat×Nat×Nat×(Nat→Int)×Unit)×Unit)×Unit)=>(fun (n1:Bool) (ap np mp:Nat) (tp:Nat→Int) (n2:Bool) (aq nq mq:Nat) (tq:Nat→Int)=>(N26) (S.ngM n1 np (fun j=>tp (j+ap)) n2 nq (fun j=>tq (j+aq)),0,S.grM n1 np (fun j=>tp (j+ap)) n2 nq (fun j=>tq (j+aq)))) x.1.1 x.1.2.1.1 x.1.2.1.2.1 x.1.2.1.2.2.1 x.1.2.1.2.2.2.1 x.2.1.1 x.2.1.2.1.1 x.2.1.2.1.2.1 x.2.1.2.1.2.2.1 x.2.1.2.1.2.2.2.1,fun _ _=> .dead⟩
theorem s26f (n1:Bool) (ap np mp:Nat) (tp:Nat→Int) (n2:Bool) (aq nq mq:Nat) (tq:Nat→Int) (hp:((ap+np≤mp∧np≤1000000)∧aq+nq≤mq∧nq≤1000000)∧S.fE n1 np (fun j=>tp (j+ap))=true∧S.fE n2 nq (fun j=>tq (j+aq))=true∧S.fQ n1 np (fun j=>tp (j+ap)) n2 nq (fun j=>tq (j+aq))=true):zX ((q26 n1 ap np mp tp n2 aq nq mq tq)) ((p26 n1 ap np mp tp n2 aq nq mq tq)) ((S.ngM n1 np (fun j=>tp (j+ap)) n2 nq (fun j=>tq (j+aq)),0,S.grM n1 np (fun j=>tp (j+ap)) n2 nq (fun j=>tq (j+aq)))):=by
 obtain ⟨hp0,g1,g2,g3⟩:=hp
 have hm:=s26 n1 ap np mp tp n2 aq nq mq tq hp0
 rw [iz g1 g2 g3] at hm
 exact hm
theorem k26f_ok:k26f.ok Tryz.prog:=by
 intro x hx
 obtain ⟨⟨n1,⟨ap,np,mp,tp,_⟩,_⟩,⟨n2,⟨aq,nq,mq,tq,_⟩,_⟩,_⟩:=x
 obtain ⟨h1,h2⟩:=a26 n1 ap np mp tp n2 aq nq mq tq (s26f n1 ap np mp tp n2 aq nq mq tq (zo hx rfl))
 exact ⟨⟨400,(by decide:2+1+1≤400),h1⟩,h2⟩
noncomputable def k26g:Con:=⟨80,[.agg [.plain (.bool),.list [.int .i64]],.agg [.plain (.bool),.list [.int .i64]]],fun (x:(Bool×(Nat×Nat×Nat×(Nat→Int)×Unit)×Unit)×(Bool×(Nat×Nat×Nat×(Nat→Int)×Unit)×Unit)×Unit)=>(fun (n1:Bool) (ap np mp:Nat) (tp:Nat→Int) (n2:Bool) (aq nq mq:Nat) (tq:Nat→Int)=>decide (((ap+np≤mp∧np≤1000000)∧aq+nq≤mq∧nq≤1000000)∧S.fE n1 np (fun j=>tp (j+ap))=true∧S.fE n2 nq (fun j=>tq (j+aq))=true∧S.fQ n1 np (fun j=>tp (j+ap)) n2 nq (fun j=>tq (j+aq))=false)) x.1.1 x.1.2.1.1 x.1.2.1.2.1 x.1.2.1.2.2.1 x.1.2.1.2.2.2.1 x.2.1.1 x.2.1.2.1.1 x.2.1.2.1.2.1 x.2.1.2.1.2.2.1 x.2.1.2.1.2.2.2.1,fun (x:(Bool×(Nat×Nat×Nat×(Nat→Int)×Unit)×Unit)×(Bool×(Nat×Nat×Nat×(Nat→Int)×Unit)×Unit)×Unit)=>(fun (n1:Bool) (ap np mp:Nat) (tp:Nat→Int) (n2:Bool) (aq nq mq:Nat) (tq:Nat→Int)=>(V26) (false,3,[])) x.1.1 x.1.2.1.1 x.1.2.1.2.1 x.1.2.1.2.2.1 x.1.2.1.2.2.2.1 x.2.1.1 x.2.1.2.1.1 x.2.1.2.1.2.1 x.2.1.2.1.2.2.1 x.2.1.2.1.2.2.2.1,fun (x:(Bool×(Nat×Nat×Nat×(Nat→Int)×Unit)×Unit)×(Bool×(Nat×Nat×Nat×(Nat→Int)×Unit)×Unit)×Unit)=>(fun (n1:Bool) (ap np mp:Nat) (tp:Nat→Int) (n2:Bool) (aq nq mq:Nat) (tq:Nat→Int)=>(N26) (false,3,[])) x.1.1 x.1.2.1.1 x.1.2.1.2.1 x.1.2.1.2.2.1 x.1.2.1.2.2.2.1 x.2.1.1 x.2.1.2.1.1 x.2.1.2.1.2.1 x.2.1.2.1.2.2.1 x.2.1.2.1.2.2.2.1,fun _ _=> .dead⟩
theorem s26g (n1:Bool) (ap np mp:Nat) (tp:Nat→Int) (n2:Bool) (aq nq mq:Nat) (tq:Nat→Int) (hp:((ap+np≤mp∧np≤1000000)∧aq+nq≤mq∧nq≤1000000)∧S.fE n1 np (fun j=>tp (j+ap))=true∧S.fE n2 nq (fun j=>tq (j+aq))=true∧S.fQ n1 np (fun j=>tp (j+ap)) n2 nq (fun j=>tq (j+aq))=false):zX ((q26 n1 ap np mp tp n2 aq nq mq tq)) ((p26 n1 ap np mp tp n2 aq nq mq tq)) ((false,3,[])):=by
 obtain ⟨hp0,g1,g2,g3⟩:=hp
 have hm:=s26 n1 ap np mp tp n2 aq nq mq tq hp0
 rw [gc g1 g2 g3] at hm
 exact hm
theorem k26g_ok:k26g.ok Tryz.prog:=by
 intro x hx
 obtain ⟨⟨n1,⟨ap,np,mp,tp,_⟩,_⟩,⟨n2,⟨aq,nq,mq,tq,_⟩,_⟩,_⟩:=x
 obtain ⟨h1,h2⟩:=a26 n1 ap np mp tp n2 aq nq mq tq (s26g n1 ap np mp tp n2 aq nq mq tq (zo hx rfl))
 exact ⟨⟨400,(by decide:2+1+1≤400),h1⟩,h2⟩
noncomputable def e26i:SsJ k26f.ss→Bool:=fun (x:(Bool×(Nat×Nat×Nat×(Nat→Int)×Unit)×Unit)×(Bool×(Nat×Nat×Nat×(Nat→Int)×Unit)×Unit)×Unit)=>(fun (n1:Bool) (ap np mp:Nat) (tp:Nat→Int) (n2:Bool) (aq nq mq:Nat) (tq:Nat→Int)=>S.fQ n1 np (fun j=>tp (j+ap)) n2 nq (fun j=>tq (j+aq))) x.1.1 x.1.2.1.1 x.1.2.1.2.1 x.1.2.1.2.2.1 x.1.2.1.2.2.2.1 x.2.1.1 x.2.1.2.1.1 x.2.1.2.1.2.1 x.2.1.2.1.2.2.1 x.2.1.2.1.2.2.2.1
noncomputable def k23f:Con:=⟨42,[.agg [.plain (.bool),.list [.int .i64]],.agg [.plain (.bool),.list [.int .i64]]],fun (x:(Bool×(Nat×Nat×Nat×(Nat→Int)×Unit)×Unit)×(Bool×(Nat×Nat×Nat×(Nat→Int)×Unit)×Unit)×Unit)=>(fun (n1:Bool) (ap np mp:Nat) (tp:Nat→Int) (n2:Bool) (aq nq mq:Nat) (tq:Nat→Int)=>decide (((ap+np≤mp∧np≤1000000)∧aq+nq≤mq∧nq≤1000000)∧S.fE n1 np (fun j=>tp (j+ap))=true∧S.fE n2 nq (fun j=>tq (j+aq))=true∧S.fR n1 np (fun j=>tp (j+ap)) n2 nq (fun j=>tq (j+aq))=true)) x.1.1 x.1.2.1.1 x.1.2.1.2.1 x.1.2.1.2.2.1 x.1.2.1.2.2.2.1 x.2.1.1 x.2.1.2.1.1 x.2.1.2.1.2.1 x.2.1.2.1.2.2.1 x.2.1.2.1.2.2.2.1,fun (x:(Bool×(Nat×Nat×Nat×(Nat→Int)×Unit)×Unit)×(Bool×(Nat×Nat×Nat×(Nat→Int)×Unit)×Unit)×Unit)=>(fun (n1:Bool) (ap np mp:Nat) (tp:Nat→Int) (n2:Bool) (aq nq mq:Nat) (tq:Nat→Int)=>(V23) (S.ngA n1 np (fun j=>tp (j+ap)) n2 nq (fun j=>tq (j+aq)),0,S.grA n1 np (fun j=>tp (j+ap)) n2 nq (fun j=>tq (j+aq)))) x.1.1 x.1.2.1.1 x.1.2.1.2.1 x.1.2.1.2.2.1 x.1.2.1.2.2.2.1 x.2.1.1 x.2.1.2.1.1 x.2.1.2.1.2.1 x.2.1.2.1.2.2.1 x.2.1.2.1.2.2.2.1,fun (x:(Bool×(Nat×Nat×Nat×(Nat→Int)×Unit)×Unit)×(Bool×(Nat×Nat×Nat×(Nat→Int)×Unit)×Unit)×Unit)=>(fun (n1:Bool) (ap np mp:Nat) (tp:Nat→Int) (n2:Bool) (aq nq mq:Nat) (tq:Nat→Int)=>(N23) (S.ngA n1 np (fun j=>tp (j+ap)) n2 nq (fun j=>tq (j+aq)),0,S.grA n1 np (fun j=>tp (j+ap)) n2 nq (fun j=>tq (j+aq)))) x.1.1 x.1.2.1.1 x.1.2.1.2.1 x.1.2.1.2.2.1 x.1.2.1.2.2.2.1 x.2.1.1 x.2.1.2.1.1 x.2.1.2.1.2.1 x.2.1.2.1.2.2.1 x.2.1.2.1.2.2.2.1,fun _ _=> .dead⟩
theorem s23f (n1:Bool) (ap np mp:Nat) (tp:Nat→Int) (n2:Bool) (aq nq mq:Nat) (tq:Nat→Int) (hp:((ap+np≤mp∧np≤1000000)∧aq+nq≤mq∧nq≤1000000)∧S.fE n1 np (fun j=>tp (j+ap))=true∧S.fE n2 nq (fun j=>tq (j+aq))=true∧S.fR n1 np (fun j=>tp (j+ap)) n2 nq (fun j=>tq (j+aq))=true):zX ((q23 n1 ap np mp tp n2 aq nq mq tq)) ((p23 n1 ap np mp tp n2 aq nq mq tq)) ((S.ngA n1 np (fun j=>tp (j+ap)) n2 nq (fun j=>tq (j+aq)),0,S.grA n1 np (fun j=>tp (j+ap)) n2 nq (fun j=>tq (j+aq)))):=by
 obtain ⟨hp0,g1,g2,g3⟩:=hp
 have hm:=s23 n1 ap np mp tp n2 aq nq mq tq hp0
 rw [gC g1 g2 g3] at hm
 exact hm
theorem k23f_ok:k23f.ok Tryz.prog:=by
 intro x hx
 obtain ⟨⟨n1,⟨ap,np,mp,tp,_⟩,_⟩,⟨n2,⟨aq,nq,mq,tq,_⟩,_⟩,_⟩:=x
 obtain ⟨h1,h2⟩:=a23 n1 ap np mp tp n2 aq nq mq tq (s23f n1 ap np mp tp n2 aq nq mq tq (zo hx rfl))
 exact ⟨⟨400,(by decide:2+1+1≤400),h1⟩,h2⟩
noncomputable def k23g:Con:=⟨42,[.agg [.plain (.bool),.list [.int .i64]],.agg [.plain (.bool),.list [.int .i64]]],fun (x:(Bool×(Nat×Nat×Nat×(Nat→Int)×Unit)×Unit)×(Bool×(Nat×Nat×Nat×(Nat→Int)×Unit)×Unit)×Unit)=>(fun (n1:Bool) (ap np mp:Nat) (tp:Nat→Int) (n2:Bool) (aq nq mq:Nat) (tq:Nat→Int)=>decide (((ap+np≤mp∧np≤1000000)∧aq+nq≤mq∧nq≤1000000)∧S.fE n1 np (fun j=>tp (j+ap))=true∧S.fE n2 nq (fun j=>tq (j+aq))=true∧S.fR n1 np (fun j=>tp (j+ap)) n2 nq (fun j=>tq (j+aq))=false)) x.1.1 x.1.2.1.1 x.1.2.1.2.1 x.1.2.1.2.2.1 x.1.2.1.2.2.2.1 x.2.1.1 x.2.1.2.1.1 x.2.1.2.1.2.1 x.2.1.2.1.2.2.1 x.2.1.2.1.2.2.2.1,fun (x:(Bool×(Nat×Nat×Nat×(Nat→Int)×Unit)×Unit)×(Bool×(Nat×Nat×Nat×(Nat→Int)×Unit)×Unit)×Unit)=>(fun (n1:Bool) (ap np mp:Nat) (tp:Nat→Int) (n2:Bool) (aq nq mq:Nat) (tq:Nat→Int)=>(V23) (false,3,[])) x.1.1 x.1.2.1.1 x.1.2.1.2.1 x.1.2.1.2.2.1 x.1.2.1.2.2.2.1 x.2.1.1 x.2.1.2.1.1 x.2.1.2.1.2.1 x.2.1.2.1.2.2.1 x.2.1.2.1.2.2.2.1,fun (x:(Bool×(Nat×Nat×Nat×(Nat→Int)×Unit)×Unit)×(Bool×(Nat×Nat×Nat×(Nat→Int)×Unit)×Unit)×Unit)=>(fun (n1:Bool) (ap np mp:Nat) (tp:Nat→Int) (n2:Bool) (aq nq mq:Nat) (tq:Nat→Int)=>(N23) (false,3,[])) x.1.1 x.1.2.1.1 x.1.2.1.2.1 x.1.2.1.2.2.1 x.1.2.1.2.2.2.1 x.2.1.1 x.2.1.2.1.1 x.2.1.2.1.2.1 x.2.1.2.1.2.2.1 x.2.1.2.1.2.2.2.1,fun _ _=> .dead⟩
theorem s23g (n1:Bool) (ap np mp:Nat) (tp:Nat→Int) (n2:Bool) (aq nq mq:Nat) (tq:Nat→Int) (hp:((ap+np≤mp∧np≤1000000)∧aq+nq≤mq∧nq≤1000000)∧S.fE n1 np (fun j=>tp (j+ap))=true∧S.fE n2 nq (fun j=>tq (j+aq))=true∧S.fR n1 np (fun j=>tp (j+ap)) n2 nq (fun j=>tq (j+aq))=false):zX ((q23 n1 ap np mp tp n2 aq nq mq tq)) ((p23 n1 ap np mp tp n2 aq nq mq tq)) ((false,3,[])):=by
 obtain ⟨hp0,g1,g2,g3⟩:=hp
 have hm:=s23 n1 ap np mp tp n2 aq nq mq tq hp0
 rw [gK g1 g2 g3] at hm
 exact hm
theorem k23g_ok:k23g.ok Tryz.prog:=by
 intro x hx
 obtain ⟨⟨n1,⟨ap,np,mp,tp,_⟩,_⟩,⟨n2,⟨aq,nq,mq,tq,_⟩,_⟩,_⟩:=x
 obtain ⟨h1,h2⟩:=a23 n1 ap np mp tp n2 aq nq mq tq (s23g n1 ap np mp tp n2 aq nq mq tq (zo hx rfl))
 exact ⟨⟨400,(by decide:2+1+1≤400),h1⟩,h2⟩
noncomputable def e23i:SsJ k23f.ss→Bool:=fun (x:(Bool×(Nat×Nat×Nat×(Nat→Int)×Unit)×Unit)×(Bool×(Nat×Nat×Nat×(Nat→Int)×Unit)×Unit)×Unit)=>(fun (n1:Bool) (ap np mp:Nat) (tp:Nat→Int) (n2:Bool) (aq nq mq:Nat) (tq:Nat→Int)=>S.fR n1 np (fun j=>tp (j+ap)) n2 nq (fun j=>tq (j+aq))) x.1.1 x.1.2.1.1 x.1.2.1.2.1 x.1.2.1.2.2.1 x.1.2.1.2.2.2.1 x.2.1.1 x.2.1.2.1.1 x.2.1.2.1.2.1 x.2.1.2.1.2.2.1 x.2.1.2.1.2.2.2.1
noncomputable def xRC (g9:Bool→Prop→Prop→Prop):Ext:=xK g9 [k29,k31]
theorem gM:yZ Tryz.prog (xRC cond):=yN ⟨k29_ok,k31_ok,trivial⟩
noncomputable def xRF (g9:Bool→Prop→Prop→Prop):Ext:=xK g9 [k522,k523,k29,k30]
theorem kS:yZ Tryz.prog (xRF cond):=yN ⟨k522_ok,k523_ok,k29_ok,k30_ok,trivial⟩
section
variable {P:Program} {E:Env} (ok:xa P E) (hm:P.follows .mixedOrders=true) {X:Ext} (hX:yZ P X)
include ok hm hX
theorem pX {lo hi:Nat} {R:Type} {q:Empty→Option (Empty⊕R)} {p:Option (Empty⊕R)} {r:R} (I:Empty→Hd) (V:R→PV) (H1:R→zQ) {f:FuncId} {fn:FnI} {args:List PV} {H:zQ} {n:Nat} (hf:xG E.fs f=some fn) (hl:lo≤hi) (hne:H≠ []) (hN:Names H lo)
    (entry: ∀ fA fC x,HS lo hi I fA x→HR lo hi V H1 fC x→p=some x→Holds (run cond E true X false n ⟨f,[.cd fn.body],yD 0 args,[]::H,lo⟩ (zq lo [] fA fC)))
    (h:zX q p r):zn P f args H lo (V r) (H1 r) hi∧ ∃ F,P.funcs[f]? =some F∧F.body.isSome=true∧(F.name== "runtime.NumGoroutine")=false:=by
  cases hp:p with
  |none=>rw [hp] at h; exact h.elim
  | some x=>
   rw [hp] at h
   cases x with
   |inl s=>exact s.elim
   |inr r'=>
    cases h
    exact sd ok hm hX hf hl hne hN (entry (fun _ _ _ _=>False) _ (.inr _) (fun s=>s.elim) (fun r hr v' H' fr' h=>by cases hr; exact h) hp)
end
theorem kW {v:Int} (h:S.fS v=true):(v.natAbs:Int)<S.pw 80:=by
 have h1:=of_decide_eq_true h
 have h2:=yF (zj (yH (v:=(v.natAbs:Int)))) h1
 rw [show S.val _ (S.at' _)=(v.natAbs:Int) from z4 (by omega)] at h2
 exact h2
theorem tn {v:Int} (h:S.fS v=true):S.fE (decide (v<0)) (S.fX (v.natAbs:Int)).length (fun j=>S.at' (S.fX (v.natAbs:Int)) j)=true∧S.sv (decide (v<0)) (S.val (S.fX (v.natAbs:Int)).length fun j=>S.at' (S.fX (v.natAbs:Int)) j)=v:=pH (kW h)
theorem v5 {ng:Bool} {n:Nat} {t:Nat→Int} (h:S.fE ng n t=true) (h1:ng=false) (hn:0<n):0<S.sv ng (S.val n t):=by
 subst h1
 exact ya (yP h).2 hn
theorem vZ {x y:Int} (h:x<y):S.fV x y= -1:=by unfold S.fV; rw [if_pos h]
theorem uR {x y:Int} (h:y<x):S.fV x y=1:=by unfold S.fV; rw [if_neg (by omega),if_pos h]
theorem ve {x:Int}:S.fV x x=0:=by unfold S.fV; rw [if_neg (by omega),if_neg (by omega)]
theorem tL {x y:Int} (h:S.fV x y=0):x=y:=by
 unfold S.fV at h
 (repeat' split at h)<;>omega
theorem oN {x y:Int}: -1≤S.fV x y∧S.fV x y≤1:=by
 unfold S.fV
 (repeat' split)<;>omega
theorem kd {x y:Int}:S.fV y x= -S.fV x y:=by
 unfold S.fV
 (repeat' split)<;>omega
theorem mh {x y x' y':Int} (h:x-y=x'-y'):S.fV x y=S.fV x' y':=by
 unfold S.fV
 (repeat' split)<;>omega
theorem jx {a c a' c':Int} (hc:0<c) (hc':0<c') (h:a / c<a' / c'):a*c'<a'*c:=by
 have h1:=Int.lt_ediv_add_one_mul_self a hc
 have h2:=Int.ediv_mul_le a' (show c'≠0 by omega)
 have h3:a*c'<(a / c+1)*c*c':=Int.mul_lt_mul_of_pos_right h1 hc'
 have h4:(a / c+1)*c*c'≤a' / c'*c*c':=Int.mul_le_mul_of_nonneg_right (Int.mul_le_mul_of_nonneg_right (by omega) (by omega)) (by omega)
 have h5:a' / c'*c'*c≤a'*c:=Int.mul_le_mul_of_nonneg_right h2 (by omega)
 rw [Int.mul_right_comm] at h5
 omega
theorem ku {a c a' c':Int} (hc:0<c) (hc':0<c') (h:S.fV (a / c) (a' / c')≠0):S.fV (a*c') (a'*c)=S.fV (a / c) (a' / c'):=by
 rcases Int.lt_trichotomy (a / c) (a' / c') with h1|h1|h1
 · rw [vZ h1,vZ (jx hc hc' h1)]
 · rw [h1] at h; exact absurd ve h
 · rw [uR h1,uR (jx hc' hc h1)]
theorem mg {a c a' c':Int} (h:a / c=a' / c'):S.fV (a*c') (a'*c)=S.fV (a % c*c') (a' % c'*c):=by
 refine mh ?_
 have h1:=Int.mul_ediv_add_emod a c
 have h2:=Int.mul_ediv_add_emod a' c'
 have e1:a*c'=c*(a / c)*c'+a % c*c':=by rw [← Int.add_mul,h1]
 have e2:a'*c=c'*(a' / c')*c+a' % c'*c:=by rw [← Int.add_mul,h2]
 have e3:c*(a / c)*c'=c'*(a' / c')*c:=by rw [h,Int.mul_comm c,Int.mul_assoc,Int.mul_comm c c',← Int.mul_assoc,Int.mul_comm c' (a' / c')]
 omega
theorem kk {r c r' c':Int}:S.fV (r*c') (r'*c)= -S.fV (c*r') (c'*r):=by
 rw [← kd,Int.mul_comm c r',Int.mul_comm c' r]
theorem wQ {a c:Int} (hc:0<c) (ha:(a.natAbs:Int)<S.pw 80):S.fE (decide (a / c<0)) (S.fX ((a / c).natAbs:Int)).length (fun j=>S.at' (S.fX ((a / c).natAbs:Int)) j)=true∧S.sv (decide (a / c<0)) (S.val (S.fX ((a / c).natAbs:Int)).length fun j=>S.at' (S.fX ((a / c).natAbs:Int)) j)=a / c:=by
 have h:=(rq (v:=a) (w:=c) (by omega)).1
 exact pH (by omega)
theorem qY {a c a' c':Int} (hc:0<c) (hc':0<c') (ha:(a.natAbs:Int)<S.pw 80) (ha':(a'.natAbs:Int)<S.pw 80):S.fU (decide (a / c<0)) (S.fX ((a / c).natAbs:Int)).length (fun j=>S.at' (S.fX ((a / c).natAbs:Int)) j) (decide (a' / c'<0)) (S.fX ((a' / c').natAbs:Int)).length (fun j=>S.at' (S.fX ((a' / c').natAbs:Int)) j)=S.fV (a / c) (a' / c'):=by
 have o1:=wQ hc ha
 have o2:=wQ hc' ha'
 unfold S.fU
 rw [if_pos ⟨o1.1,o2.1⟩,o1.2,o2.2]
section
variable (g9:TT) (fA:KS) (fC:KR) (n1:Bool) (ap np mp:Nat) (tp:NI) (n2:Bool) (aq nq mq:Nat) (tq:NI) (n3:Bool) (au nu mu:Nat) (tu:NI) (n4:Bool) (aw nw mw:Nat) (tw:NI)
noncomputable abbrev c582_0_0:=1*S.fU (S.fK n1 np (fun j=>tp (j+ap)) n2 nq fun j=>tq (j+aq)).1 (S.fK n1 np (fun j=>tp (j+ap)) n2 nq fun j=>tq (j+aq)).2.2.2.length (fun j=>S.at' (S.fK n1 np (fun j=>tp (j+ap)) n2 nq fun j=>tq (j+aq)).2.2.2 j) (S.fK n3 nu (fun j=>tu (j+au)) n4 nw fun j=>tw (j+aw)).1 (S.fK n3 nu (fun j=>tu (j+au)) n4 nw fun j=>tw (j+aw)).2.2.2.length fun j=>S.at' (S.fK n3 nu (fun j=>tu (j+au)) n4 nw fun j=>tw (j+aw)).2.2.2 j
noncomputable abbrev c582_0_1:= [[(3,false,Blk.cols mw [Col.int .i64 tw]),(2,false,Blk.cols mu [Col.int .i64 tu]),(1,false,Blk.cols mq [Col.int .i64 tq]),(0,false,Blk.cols mp [Col.int .i64 tp]),(7,true,Blk.cells [PV.tf false,PV.own 14 1 (S.fK n3 nu (fun j=>tu (j+au)) n4 nw fun j=>tw (j+aw)).2.2.1.length]),(6,true,Blk.cells [PV.bool n4,PV.loose ⟨3,1,aw,0⟩ nw]),(5,true,Blk.cells [PV.tf false,PV.own 9 1 (S.fK n1 np (fun j=>tp (j+ap)) n2 nq fun j=>tq (j+aq)).2.2.1.length]),(4,true,Blk.cells [PV.bool n2,PV.loose ⟨1,1,aq,0⟩ nq]),(9,true,Blk.cols (S.fK n1 np (fun j=>tp (j+ap)) n2 nq fun j=>tq (j+aq)).2.2.1.length [Col.int .i64 fun j=>S.at' (S.fK n1 np (fun j=>tp (j+ap)) n2 nq fun j=>tq (j+aq)).2.2.1 j]),(14,true,Blk.cols (S.fK n3 nu (fun j=>tu (j+au)) n4 nw fun j=>tw (j+aw)).2.2.1.length [Col.int .i64 fun j=>S.at' (S.fK n3 nu (fun j=>tu (j+au)) n4 nw fun j=>tw (j+aw)).2.2.1 j])]]
noncomputable abbrev c582_0_2:=decide ((0+(S.fK n1 np (fun j=>tp (j+ap)) n2 nq fun j=>tq (j+aq)).2.2.2.length≤(S.fK n1 np (fun j=>tp (j+ap)) n2 nq fun j=>tq (j+aq)).2.2.2.length∧(S.fK n1 np (fun j=>tp (j+ap)) n2 nq fun j=>tq (j+aq)).2.2.2.length≤1000000)∧0+(S.fK n3 nu (fun j=>tu (j+au)) n4 nw fun j=>tw (j+aw)).2.2.2.length≤(S.fK n3 nu (fun j=>tu (j+au)) n4 nw fun j=>tw (j+aw)).2.2.2.length∧(S.fK n3 nu (fun j=>tu (j+au)) n4 nw fun j=>tw (j+aw)).2.2.2.length≤1000000)
noncomputable abbrev c582_0_3:=(S.fU (S.fK n1 np (fun j=>tp (j+ap)) n2 nq fun j=>tq (j+aq)).1 (S.fK n1 np (fun j=>tp (j+ap)) n2 nq fun j=>tq (j+aq)).2.2.2.length (fun j=>S.at' (S.fK n1 np (fun j=>tp (j+ap)) n2 nq fun j=>tq (j+aq)).2.2.2 j) (S.fK n3 nu (fun j=>tu (j+au)) n4 nw fun j=>tw (j+aw)).1 (S.fK n3 nu (fun j=>tu (j+au)) n4 nw fun j=>tw (j+aw)).2.2.2.length fun j=>S.at' (S.fK n3 nu (fun j=>tu (j+au)) n4 nw fun j=>tw (j+aw)).2.2.2 j) != 0
noncomputable abbrev c582_0_4:= [[(3,false,Blk.cols mw [Col.int .i64 tw]),(2,false,Blk.cols mu [Col.int .i64 tu]),(1,false,Blk.cols mq [Col.int .i64 tq]),(0,false,Blk.cols mp [Col.int .i64 tp])]]
noncomputable abbrev c582_0_5:=(↑((S.fK n3 nu (fun j=>tu (j+au)) n4 nw fun j=>tw (j+aw)).2.2.1.length):Int)==0
noncomputable abbrev c582_0_6:=(↑((S.fK n1 np (fun j=>tp (j+ap)) n2 nq fun j=>tq (j+aq)).2.2.1.length):Int)==0
noncomputable abbrev c582_0_7:= [PV.ptr ⟨4,0,0,0⟩,PV.ptr ⟨5,0,0,0⟩,PV.ptr ⟨6,0,0,0⟩,PV.ptr ⟨7,0,0,0⟩,PV.int .i64 (-1:Int)]
noncomputable abbrev c582_1_0 (x0 x1:List Int):= [[(3,false,Blk.cols mw [Col.int .i64 tw]),(2,false,Blk.cols mu [Col.int .i64 tu]),(1,false,Blk.cols mq [Col.int .i64 tq]),(0,false,Blk.cols mp [Col.int .i64 tp]),(8,true,Blk.cells [PV.tf false,PV.own 16 1 (S.fK n4 nw (fun j=>tw (j+aw)) false x1.length fun j=>S.at' x1 j).2.2.1.length]),(7,true,Blk.cells [PV.tf false,PV.own 9 1 x1.length]),(5,true,Blk.cells [PV.tf false,PV.own 11 1 (S.fK n2 nq (fun j=>tq (j+aq)) false x0.length fun j=>S.at' x0 j).2.2.1.length]),(4,true,Blk.cells [PV.tf false,PV.own 6 1 x0.length]),(6,true,Blk.cols x0.length [Col.int .i64 fun j=>S.at' x0 j]),(11,true,Blk.cols (S.fK n2 nq (fun j=>tq (j+aq)) false x0.length fun j=>S.at' x0 j).2.2.1.length [Col.int .i64 fun j=>S.at' (S.fK n2 nq (fun j=>tq (j+aq)) false x0.length fun j=>S.at' x0 j).2.2.1 j]),(9,true,Blk.cols x1.length [Col.int .i64 fun j=>S.at' x1 j]),(16,true,Blk.cols (S.fK n4 nw (fun j=>tw (j+aw)) false x1.length fun j=>S.at' x1 j).2.2.1.length [Col.int .i64 fun j=>S.at' (S.fK n4 nw (fun j=>tw (j+aw)) false x1.length fun j=>S.at' x1 j).2.2.1 j])]]
noncomputable abbrev c582_1_1 (x0 x1:List Int):= -1*S.fU (S.fK n2 nq (fun j=>tq (j+aq)) false x0.length fun j=>S.at' x0 j).1 (S.fK n2 nq (fun j=>tq (j+aq)) false x0.length fun j=>S.at' x0 j).2.2.2.length (fun j=>S.at' (S.fK n2 nq (fun j=>tq (j+aq)) false x0.length fun j=>S.at' x0 j).2.2.2 j) (S.fK n4 nw (fun j=>tw (j+aw)) false x1.length fun j=>S.at' x1 j).1 (S.fK n4 nw (fun j=>tw (j+aw)) false x1.length fun j=>S.at' x1 j).2.2.2.length fun j=>S.at' (S.fK n4 nw (fun j=>tw (j+aw)) false x1.length fun j=>S.at' x1 j).2.2.2 j
noncomputable abbrev c582_1_2 (x0 x1:List Int):=decide ((0+(S.fK n2 nq (fun j=>tq (j+aq)) false x0.length fun j=>S.at' x0 j).2.2.2.length≤(S.fK n2 nq (fun j=>tq (j+aq)) false x0.length fun j=>S.at' x0 j).2.2.2.length∧(S.fK n2 nq (fun j=>tq (j+aq)) false x0.length fun j=>S.at' x0 j).2.2.2.length≤1000000)∧0+(S.fK n4 nw (fun j=>tw (j+aw)) false x1.length fun j=>S.at' x1 j).2.2.2.length≤(S.fK n4 nw (fun j=>tw (j+aw)) false x1.length fun j=>S.at' x1 j).2.2.2.length∧(S.fK n4 nw (fun j=>tw (j+aw)) false x1.length fun j=>S.at' x1 j).2.2.2.length≤1000000)
noncomputable abbrev c582_1_3 (x0 x1:List Int):=(S.fU (S.fK n2 nq (fun j=>tq (j+aq)) false x0.length fun j=>S.at' x0 j).1 (S.fK n2 nq (fun j=>tq (j+aq)) false x0.length fun j=>S.at' x0 j).2.2.2.length (fun j=>S.at' (S.fK n2 nq (fun j=>tq (j+aq)) false x0.length fun j=>S.at' x0 j).2.2.2 j) (S.fK n4 nw (fun j=>tw (j+aw)) false x1.length fun j=>S.at' x1 j).1 (S.fK n4 nw (fun j=>tw (j+aw)) false x1.length fun j=>S.at' x1 j).2.2.2.length fun j=>S.at' (S.fK n4 nw (fun j=>tw (j+aw)) false x1.length fun j=>S.at' x1 j).2.2.2 j) != 0
noncomputable abbrev c582_1_4:= [[(3,false,Blk.cols mw [Col.int .i64 tw]),(2,false,Blk.cols mu [Col.int .i64 tu]),(1,false,Blk.cols mq [Col.int .i64 tq]),(0,false,Blk.cols mp [Col.int .i64 tp])]]
noncomputable abbrev c582_1_5 (x1:List Int):=(↑((S.fK n4 nw (fun j=>tw (j+aw)) false x1.length fun j=>S.at' x1 j).2.2.1.length):Int)==0
noncomputable abbrev c582_1_6 (x0:List Int):=(↑((S.fK n2 nq (fun j=>tq (j+aq)) false x0.length fun j=>S.at' x0 j).2.2.1.length):Int)==0
noncomputable abbrev c582_1_7:= [PV.ptr ⟨4,0,0,0⟩,PV.ptr ⟨5,0,0,0⟩,PV.ptr ⟨7,0,0,0⟩,PV.ptr ⟨8,0,0,0⟩,PV.int .i64 (1:Int)]
noncomputable abbrev c582_2_0 (x0:Int) (x1 x2 x3 x4:List Int):=x0*S.fU (S.fK false x1.length (fun j=>S.at' x1 j) false x2.length fun j=>S.at' x2 j).1 (S.fK false x1.length (fun j=>S.at' x1 j) false x2.length fun j=>S.at' x2 j).2.2.2.length (fun j=>S.at' (S.fK false x1.length (fun j=>S.at' x1 j) false x2.length fun j=>S.at' x2 j).2.2.2 j) (S.fK false x3.length (fun j=>S.at' x3 j) false x4.length fun j=>S.at' x4 j).1 (S.fK false x3.length (fun j=>S.at' x3 j) false x4.length fun j=>S.at' x4 j).2.2.2.length fun j=>S.at' (S.fK false x3.length (fun j=>S.at' x3 j) false x4.length fun j=>S.at' x4 j).2.2.2 j
noncomputable abbrev c582_2_1 (x1 x2 x3 x4:List Int):= [[(3,false,Blk.cols mw [Col.int .i64 tw]),(2,false,Blk.cols mu [Col.int .i64 tu]),(1,false,Blk.cols mq [Col.int .i64 tq]),(0,false,Blk.cols mp [Col.int .i64 tp]),(10,true,Blk.cells [PV.tf false,PV.own 18 1 (S.fK false x3.length (fun j=>S.at' x3 j) false x4.length fun j=>S.at' x4 j).2.2.1.length]),(8,true,Blk.cells [PV.tf false,PV.own 11 1 x4.length]),(6,true,Blk.cells [PV.tf false,PV.own 13 1 (S.fK false x1.length (fun j=>S.at' x1 j) false x2.length fun j=>S.at' x2 j).2.2.1.length]),(4,true,Blk.cells [PV.tf false,PV.own 7 1 x2.length]),(7,true,Blk.cols x2.length [Col.int .i64 fun j=>S.at' x2 j]),(13,true,Blk.cols (S.fK false x1.length (fun j=>S.at' x1 j) false x2.length fun j=>S.at' x2 j).2.2.1.length [Col.int .i64 fun j=>S.at' (S.fK false x1.length (fun j=>S.at' x1 j) false x2.length fun j=>S.at' x2 j).2.2.1 j]),(11,true,Blk.cols x4.length [Col.int .i64 fun j=>S.at' x4 j]),(18,true,Blk.cols (S.fK false x3.length (fun j=>S.at' x3 j) false x4.length fun j=>S.at' x4 j).2.2.1.length [Col.int .i64 fun j=>S.at' (S.fK false x3.length (fun j=>S.at' x3 j) false x4.length fun j=>S.at' x4 j).2.2.1 j])]]
noncomputable abbrev c582_2_2 (x1 x2 x3 x4:List Int):=decide ((0+(S.fK false x1.length (fun j=>S.at' x1 j) false x2.length fun j=>S.at' x2 j).2.2.2.length≤(S.fK false x1.length (fun j=>S.at' x1 j) false x2.length fun j=>S.at' x2 j).2.2.2.length∧(S.fK false x1.length (fun j=>S.at' x1 j) false x2.length fun j=>S.at' x2 j).2.2.2.length≤1000000)∧0+(S.fK false x3.length (fun j=>S.at' x3 j) false x4.length fun j=>S.at' x4 j).2.2.2.length≤(S.fK false x3.length (fun j=>S.at' x3 j) false x4.length fun j=>S.at' x4 j).2.2.2.length∧(S.fK false x3.length (fun j=>S.at' x3 j) false x4.length fun j=>S.at' x4 j).2.2.2.length≤1000000)
noncomputable abbrev c582_2_3 (x1 x2 x3 x4:List Int):=(S.fU (S.fK false x1.length (fun j=>S.at' x1 j) false x2.length fun j=>S.at' x2 j).1 (S.fK false x1.length (fun j=>S.at' x1 j) false x2.length fun j=>S.at' x2 j).2.2.2.length (fun j=>S.at' (S.fK false x1.length (fun j=>S.at' x1 j) false x2.length fun j=>S.at' x2 j).2.2.2 j) (S.fK false x3.length (fun j=>S.at' x3 j) false x4.length fun j=>S.at' x4 j).1 (S.fK false x3.length (fun j=>S.at' x3 j) false x4.length fun j=>S.at' x4 j).2.2.2.length fun j=>S.at' (S.fK false x3.length (fun j=>S.at' x3 j) false x4.length fun j=>S.at' x4 j).2.2.2 j) != 0
noncomputable abbrev c582_2_4:= [[(3,false,Blk.cols mw [Col.int .i64 tw]),(2,false,Blk.cols mu [Col.int .i64 tu]),(1,false,Blk.cols mq [Col.int .i64 tq]),(0,false,Blk.cols mp [Col.int .i64 tp])]]
noncomputable abbrev c582_2_5 (x3 x4:List Int):=(↑((S.fK false x3.length (fun j=>S.at' x3 j) false x4.length fun j=>S.at' x4 j).2.2.1.length):Int)==0
noncomputable abbrev c582_2_6 (x1 x2:List Int):=(↑((S.fK false x1.length (fun j=>S.at' x1 j) false x2.length fun j=>S.at' x2 j).2.2.1.length):Int)==0
noncomputable abbrev c582_2_7 (x0:Int):= [PV.ptr ⟨4,0,0,0⟩,PV.ptr ⟨6,0,0,0⟩,PV.ptr ⟨8,0,0,0⟩,PV.ptr ⟨10,0,0,0⟩,PV.int .i64 (-x0)]
inductive St582 where
 |h0
 |h1 (x0:List Int) (x1:List Int)
 |h2 (x0:Int) (x1:List Int) (x2:List Int) (x3:List Int) (x4:List Int)
abbrev Rt582:=Int
noncomputable def V582 (r:Rt582):PV:= .int .i64 r
noncomputable def N582 (r:Rt582):List Blk:= []
noncomputable def I582:St582→Hd
  | .h0=>⟨hd Tryz.f82 0,[.ptr ⟨4,0,0,0⟩,
 .ptr ⟨5,0,0,0⟩,
 .ptr ⟨6,0,0,0⟩,
 .ptr ⟨7,0,0,0⟩,.int .i64 1],[[(4,(true,.cells [.bool n1,.loose ⟨0,1,ap,0⟩ np])),(5,(true,.cells [.bool n2,.loose ⟨1,1,aq,0⟩ nq])),(6,(true,.cells [.bool n3,.loose ⟨2,1,au,0⟩ nu])),(7,(true,.cells [.bool n4,.loose ⟨3,1,aw,0⟩ nw]))],[(0,(false,CB mp tp)),(1,(false,CB mq tq)),(2,(false,CB mu tu)),(3,(false,CB mw tw))]],8⟩
  | .h1 x0 x1=>⟨hd Tryz.f82 0,[.ptr ⟨4,0,0,0⟩,
 .ptr ⟨5,0,0,0⟩,
 .ptr ⟨7,0,0,0⟩,
 .ptr ⟨8,0,0,0⟩,.int .i64 (-1:Int)],[[(4,(true,.cells [.bool n2,.loose ⟨1,1,aq,0⟩ nq])),(5,(true,.cells [.tf false,.own 6 1 x0.length])),(6,(true,CI x0)),(7,(true,.cells [.bool n4,.loose ⟨3,1,aw,0⟩ nw])),(8,(true,.cells [.tf false,.own 9 1 x1.length])),(9,(true,CI x1))],[(0,(false,CB mp tp)),(1,(false,CB mq tq)),(2,(false,CB mu tu)),(3,(false,CB mw tw))]],10⟩
  | .h2 x0 x1 x2 x3 x4=>⟨hd Tryz.f82 0,[.ptr ⟨4,0,0,0⟩,
 .ptr ⟨6,0,0,0⟩,
 .ptr ⟨8,0,0,0⟩,
 .ptr ⟨10,0,0,0⟩,.int .i64 x0],[[(4,(true,.cells [.tf false,.own 5 1 x1.length])),(5,(true,CI x1)),(6,(true,.cells [.tf false,.own 7 1 x2.length])),(7,(true,CI x2)),(8,(true,.cells [.tf false,.own 9 1 x3.length])),(9,(true,CI x3)),(10,(true,.cells [.tf false,.own 11 1 x4.length])),(11,(true,CI x4))],[(0,(false,CB mp tp)),(1,(false,CB mq tq)),(2,(false,CB mu tu)),(3,(false,CB mw tw))]],12⟩
noncomputable def q582 (n1:Bool) (ap np mp:Nat) (tp:NI) (n2:Bool) (aq nq mq:Nat) (tq:NI) (n3:Bool) (au nu mu:Nat) (tu:NI) (n4:Bool) (aw nw mw:Nat) (tw:NI):St582→Option (St582⊕Rt582)| .h0=>bif (decide ((ap+np≤mp∧np≤1000000)∧aq+nq≤mq∧nq≤1000000)) then (bif (decide ((au+nu≤mu∧nu≤1000000)∧aw+nw≤mw∧nw≤1000000)) then (bif (c582_0_2 n1 ap np tp n2 aq nq tq n3 au nu tu n4 aw nw tw) then (bif (c582_0_3 n1 ap np tp n2 aq nq tq n3 au nu tu n4 aw nw tw) then (bif (lim .i64 (c582_0_0 n1 ap np tp n2 aq nq tq n3 au nu tu n4 aw nw tw)) then (some (.inr (c582_0_0 n1 ap np tp n2 aq nq tq n3 au nu tu n4 aw nw tw))) else none) else (bif (c582_0_6 n1 ap np tp n2 aq nq tq) then (bif (c582_0_5 n3 au nu tu n4 aw nw tw) then (some (.inr ((0:Int)))) else (some (.inr ((-1:Int))))) else (bif (c582_0_5 n3 au nu tu n4 aw nw tw) then (some (.inr ((1:Int)))) else (some (.inl (.h1 (S.fK n1 np (fun j=>tp (j+ap)) n2 nq fun j=>tq (j+aq)).2.2.1 (S.fK n3 nu (fun j=>tu (j+au)) n4 nw fun j=>tw (j+aw)).2.2.1)))))) else none) else none) else none| .h1 x0 x1=>bif (decide ((aq+nq≤mq∧nq≤1000000)∧0+x0.length≤x0.length∧x0.length≤1000000)) then (bif (decide ((aw+nw≤mw∧nw≤1000000)∧0+x1.length≤x1.length∧x1.length≤1000000)) then (bif (c582_1_2 n2 aq nq tq n4 aw nw tw x0 x1) then (bif (c582_1_3 n2 aq nq tq n4 aw nw tw x0 x1) then (bif (lim .i64 (c582_1_1 n2 aq nq tq n4 aw nw tw x0 x1)) then (some (.inr (c582_1_1 n2 aq nq tq n4 aw nw tw x0 x1))) else none) else (bif (c582_1_6 n2 aq nq tq x0) then (bif (c582_1_5 n4 aw nw tw x1) then (some (.inr ((0:Int)))) else (some (.inr ((1:Int))))) else (bif (c582_1_5 n4 aw nw tw x1) then (some (.inr ((-1:Int)))) else (some (.inl (.h2 ((1:Int)) x0 (S.fK n2 nq (fun j=>tq (j+aq)) false x0.length fun j=>S.at' x0 j).2.2.1 x1 (S.fK n4 nw (fun j=>tw (j+aw)) false x1.length fun j=>S.at' x1 j).2.2.1)))))) else none) else none) else none| .h2 x0 x1 x2 x3 x4=>bif (decide ((0+x1.length≤x1.length∧x1.length≤1000000)∧0+x2.length≤x2.length∧x2.length≤1000000)) then (bif (decide ((0+x3.length≤x3.length∧x3.length≤1000000)∧0+x4.length≤x4.length∧x4.length≤1000000)) then (bif (c582_2_2 x1 x2 x3 x4) then (bif (c582_2_3 x1 x2 x3 x4) then (bif (lim .i64 (c582_2_0 x0 x1 x2 x3 x4)) then (some (.inr (c582_2_0 x0 x1 x2 x3 x4))) else none) else (bif (c582_2_6 x1 x2) then (bif (c582_2_5 x3 x4) then (some (.inr ((0:Int)))) else (bif (lim .i64 (-x0)) then (some (.inr (-x0))) else none)) else (bif (c582_2_5 x3 x4) then (some (.inr x0)) else (bif (lim .i64 (-x0)) then (some (.inl (.h2 (-x0) x2 (S.fK false x1.length (fun j=>S.at' x1 j) false x2.length fun j=>S.at' x2 j).2.2.1 x4 (S.fK false x3.length (fun j=>S.at' x3 j) false x4.length fun j=>S.at' x4 j).2.2.1))) else none)))) else none) else none) else none
noncomputable def p582 (n1:Bool) (ap np mp:Nat) (tp:NI) (n2:Bool) (aq nq mq:Nat) (tq:NI) (n3:Bool) (au nu mu:Nat) (tu:NI) (n4:Bool) (aw nw mw:Nat) (tw:NI):Option (St582⊕Rt582):=some (.inl (.h0))
def Te582:Prop:=fA (hd Tryz.f82 0) ([.ptr ⟨4,0,0,0⟩,.ptr ⟨5,0,0,0⟩,.ptr ⟨6,0,0,0⟩,.ptr ⟨7,0,0,0⟩,.int .i64 1]) ([[(3,false,CB mw tw),(2,false,CB mu tu),(1,false,CB mq tq),(0,false,CB mp tp),(7,true,.cells [.bool n4,.loose ⟨3,1,aw,0⟩ nw]),(6,true,.cells [.bool n3,.loose ⟨2,1,au,0⟩ nu]),(5,true,.cells [.bool n2,.loose ⟨1,1,aq,0⟩ nq]),(4,true,.cells [.bool n1,.loose ⟨0,1,ap,0⟩ np])]]) 8
theorem te582:run g9 Tryz.env true (xRC g9) true 400 ⟨82,[.cd (zS Tryz.f82).body],yD 0 [.agg [.bool n1,.loose ⟨0,1,ap,0⟩ np],.agg [.bool n2,.loose ⟨1,1,aq,0⟩ nq],.agg [.bool n3,.loose ⟨2,1,au,0⟩ nu],.agg [.bool n4,.loose ⟨3,1,aw,0⟩ nw]],[[],[(0,(false,CB mp tp)),(1,(false,CB mq tq)),(2,(false,CB mu tu)),(3,(false,CB mw tw))]],4⟩ (zq 4 [4,5,6,7,9] fA fC)=
 Te582 fA n1 ap np mp tp n2 aq nq mq tq n3 au nu mu tu n4 aw nw mw tw:=by kernel_rfl
def T582_0:Prop:=g9 (decide ((ap+np≤mp∧np≤1000000)∧aq+nq≤mq∧nq≤1000000)) (g9 (decide ((au+nu≤mu∧nu≤1000000)∧aw+nw≤mw∧nw≤1000000)) (g9 (c582_0_2 n1 ap np tp n2 aq nq tq n3 au nu tu n4 aw nw tw) (g9 (c582_0_3 n1 ap np tp n2 aq nq tq n3 au nu tu n4 aw nw tw) (g9 (lim .i64 (c582_0_0 n1 ap np tp n2 aq nq tq n3 au nu tu n4 aw nw tw)) (fC (.int .i64 (c582_0_0 n1 ap np tp n2 aq nq tq n3 au nu tu n4 aw nw tw)) (c582_0_4 mp tp mq tq mu tu mw tw) 19) False) (g9 (c582_0_6 n1 ap np tp n2 aq nq tq) (g9 (c582_0_5 n3 au nu tu n4 aw nw tw) (fC (.int .i64 0) (c582_0_4 mp tp mq tq mu tu mw tw) 21) (g9 (c582_0_6 n1 ap np tp n2 aq nq tq) (g9 true (fC (.int .i64 (-1:Int)) (c582_0_4 mp tp mq tq mu tu mw tw) 22) False) (g9 (c582_0_5 n3 au nu tu n4 aw nw tw) (fC (.int .i64 1) (c582_0_4 mp tp mq tq mu tu mw tw) 23) (g9 true (fA (hd Tryz.f82 0) c582_0_7 (c582_0_1 n1 ap np mp tp n2 aq nq mq tq n3 au nu mu tu n4 aw nw mw tw) 23) False)))) (g9 (c582_0_6 n1 ap np tp n2 aq nq tq) (g9 true (fC (.int .i64 (-1:Int)) (c582_0_4 mp tp mq tq mu tu mw tw) 21) False) (g9 (c582_0_5 n3 au nu tu n4 aw nw tw) (fC (.int .i64 1) (c582_0_4 mp tp mq tq mu tu mw tw) 22) (g9 true (fA (hd Tryz.f82 0) c582_0_7 (c582_0_1 n1 ap np mp tp n2 aq nq mq tq n3 au nu mu tu n4 aw nw mw tw) 22) False))))) False) False) False
theorem t582_0:run g9 Tryz.env true (xRC g9) true 400 ⟨82,hd Tryz.f82 0,yc [4,5,6,7,9] [.ptr ⟨4,0,0,0⟩,
 .ptr ⟨5,0,0,0⟩,
 .ptr ⟨6,0,0,0⟩,
 .ptr ⟨7,0,0,0⟩,.int .i64 1],[[(4,(true,.cells [.bool n1,.loose ⟨0,1,ap,0⟩ np])),(5,(true,.cells [.bool n2,.loose ⟨1,1,aq,0⟩ nq])),(6,(true,.cells [.bool n3,.loose ⟨2,1,au,0⟩ nu])),(7,(true,.cells [.bool n4,.loose ⟨3,1,aw,0⟩ nw]))],[(0,(false,CB mp tp)),(1,(false,CB mq tq)),(2,(false,CB mu tu)),(3,(false,CB mw tw))]],8⟩ (zq 4 [4,5,6,7,9] fA fC)=
  T582_0 g9 fA fC n1 ap np mp tp n2 aq nq mq tq n3 au nu mu tu n4 aw nw mw tw:=by kernel_rfl
def T582_1 (x0 x1:List Int):Prop:=g9 (decide ((aq+nq≤mq∧nq≤1000000)∧0+x0.length≤x0.length∧x0.length≤1000000)) (g9 (decide ((aw+nw≤mw∧nw≤1000000)∧0+x1.length≤x1.length∧x1.length≤1000000)) (g9 (c582_1_2 n2 aq nq tq n4 aw nw tw x0 x1) (g9 (c582_1_3 n2 aq nq tq n4 aw nw tw x0 x1) (g9 (lim .i64 (c582_1_1 n2 aq nq tq n4 aw nw tw x0 x1)) (fC (.int .i64 (c582_1_1 n2 aq nq tq n4 aw nw tw x0 x1)) (c582_1_4 mp tp mq tq mu tu mw tw) 21) False) (g9 (c582_1_6 n2 aq nq tq x0) (g9 (c582_1_5 n4 aw nw tw x1) (fC (.int .i64 0) (c582_1_4 mp tp mq tq mu tu mw tw) 23) (g9 (c582_1_6 n2 aq nq tq x0) (g9 true (fC (.int .i64 1) (c582_1_4 mp tp mq tq mu tu mw tw) 24) False) (g9 (c582_1_5 n4 aw nw tw x1) (fC (.int .i64 (-1:Int)) (c582_1_4 mp tp mq tq mu tu mw tw) 25) (g9 true (fA (hd Tryz.f82 0) c582_1_7 (c582_1_0 mp tp n2 aq nq mq tq mu tu n4 aw nw mw tw x0 x1) 25) False)))) (g9 (c582_1_6 n2 aq nq tq x0) (g9 true (fC (.int .i64 1) (c582_1_4 mp tp mq tq mu tu mw tw) 23) False) (g9 (c582_1_5 n4 aw nw tw x1) (fC (.int .i64 (-1:Int)) (c582_1_4 mp tp mq tq mu tu mw tw) 24) (g9 true (fA (hd Tryz.f82 0) c582_1_7 (c582_1_0 mp tp n2 aq nq mq tq mu tu n4 aw nw mw tw x0 x1) 24) False))))) False) False) False
theorem t582_1 (x0 x1:List Int):run g9 Tryz.env true (xRC g9) true 400 ⟨82,hd Tryz.f82 0,yc [4,5,6,7,9] [.ptr ⟨4,0,0,0⟩,
 .ptr ⟨5,0,0,0⟩,
 .ptr ⟨7,0,0,0⟩,
 .ptr ⟨8,0,0,0⟩,.int .i64 (-1:Int)],[[(4,(true,.cells [.bool n2,.loose ⟨1,1,aq,0⟩ nq])),(5,(true,.cells [.tf false,.own 6 1 x0.length])),(6,(true,CI x0)),(7,(true,.cells [.bool n4,.loose ⟨3,1,aw,0⟩ nw])),(8,(true,.cells [.tf false,.own 9 1 x1.length])),(9,(true,CI x1))],[(0,(false,CB mp tp)),(1,(false,CB mq tq)),(2,(false,CB mu tu)),(3,(false,CB mw tw))]],10⟩ (zq 4 [4,5,6,7,9] fA fC)=
  T582_1 g9 fA fC mp tp n2 aq nq mq tq mu tu n4 aw nw mw tw x0 x1:=by kernel_rfl
def T582_2 (x0:Int) (x1 x2 x3 x4:List Int):Prop:=g9 (decide ((0+x1.length≤x1.length∧x1.length≤1000000)∧0+x2.length≤x2.length∧x2.length≤1000000)) (g9 (decide ((0+x3.length≤x3.length∧x3.length≤1000000)∧0+x4.length≤x4.length∧x4.length≤1000000)) (g9 (c582_2_2 x1 x2 x3 x4) (g9 (c582_2_3 x1 x2 x3 x4) (g9 (lim .i64 (c582_2_0 x0 x1 x2 x3 x4)) (fC (.int .i64 (c582_2_0 x0 x1 x2 x3 x4)) (c582_2_4 mp tp mq tq mu tu mw tw) 23) False) (g9 (c582_2_6 x1 x2) (g9 (c582_2_5 x3 x4) (fC (.int .i64 0) (c582_2_4 mp tp mq tq mu tu mw tw) 25) (g9 (c582_2_6 x1 x2) (g9 (lim .i64 (-x0)) (fC (.int .i64 (-x0)) (c582_2_4 mp tp mq tq mu tu mw tw) 26) False) (g9 (c582_2_5 x3 x4) (fC (.int .i64 x0) (c582_2_4 mp tp mq tq mu tu mw tw) 27) (g9 (lim .i64 (-x0)) (fA (hd Tryz.f82 0) (c582_2_7 x0) (c582_2_1 mp tp mq tq mu tu mw tw x1 x2 x3 x4) 27) False)))) (g9 (c582_2_6 x1 x2) (g9 (lim .i64 (-x0)) (fC (.int .i64 (-x0)) (c582_2_4 mp tp mq tq mu tu mw tw) 25) False) (g9 (c582_2_5 x3 x4) (fC (.int .i64 x0) (c582_2_4 mp tp mq tq mu tu mw tw) 26) (g9 (lim .i64 (-x0)) (fA (hd Tryz.f82 0) (c582_2_7 x0) (c582_2_1 mp tp mq tq mu tu mw tw x1 x2 x3 x4) 26) False))))) False) False) False
theorem t582_2 (x0:Int) (x1 x2 x3 x4:List Int):run g9 Tryz.env true (xRC g9) true 400 ⟨82,hd Tryz.f82 0,yc [4,5,6,7,9] [.ptr ⟨4,0,0,0⟩,
 .ptr ⟨6,0,0,0⟩,
 .ptr ⟨8,0,0,0⟩,
 .ptr ⟨10,0,0,0⟩,.int .i64 x0],[[(4,(true,.cells [.tf false,.own 5 1 x1.length])),(5,(true,CI x1)),(6,(true,.cells [.tf false,.own 7 1 x2.length])),(7,(true,CI x2)),(8,(true,.cells [.tf false,.own 9 1 x3.length])),(9,(true,CI x3)),(10,(true,.cells [.tf false,.own 11 1 x4.length])),(11,(true,CI x4))],[(0,(false,CB mp tp)),(1,(false,CB mq tq)),(2,(false,CB mu tu)),(3,(false,CB mw tw))]],12⟩ (zq 4 [4,5,6,7,9] fA fC)=
  T582_2 g9 fA fC mp tp mq tq mu tu mw tw x0 x1 x2 x3 x4:=by kernel_rfl
noncomputable abbrev J582:Rt582→zQ:=fun r=> [yJ (4+1) ((N582) r)++ [(0,(false,CB mp tp)),(1,(false,CB mq tq)),(2,(false,CB mu tu)),(3,(false,CB mw tw))]]
attribute [local irreducible] Int.subNatNat in
theorem a582 {r:Rt582} (h:zX ((q582 n1 ap np mp tp n2 aq nq mq tq n3 au nu mu tu n4 aw nw mw tw)) ((p582 n1 ap np mp tp n2 aq nq mq tq n3 au nu mu tu n4 aw nw mw tw)) r):zn Tryz.prog 82 [.agg [.bool n1,.loose ⟨0,1,ap,0⟩ np],.agg [.bool n2,.loose ⟨1,1,aq,0⟩ nq],.agg [.bool n3,.loose ⟨2,1,au,0⟩ nu],.agg [.bool n4,.loose ⟨3,1,aw,0⟩ nw]] [[(0,(false,CB mp tp)),(1,(false,CB mq tq)),(2,(false,CB mu tu)),(3,(false,CB mw tw))]] 4 ((V582) r) ((J582 mp tp mq tq mu tu mw tw) r) 400∧HB Tryz.prog 82:=by
 refine zf Tryz.envOk Tryz.mixed gM ((I582 n1 ap np mp tp n2 aq nq mq tq n3 au nu mu tu n4 aw nw mw tw)) ((V582)) (J582 mp tp mq tq mu tu mw tw) (fn:=zS Tryz.f82) (ts:= [4,5,6,7,9]) (n:=400) rfl (by decide) (by simp) (zV rfl) ?_ ?_ ?_ h
 · intro s; cases s<;>exact ⟨ym _ _,by simp [I582],zV rfl,Nat.le_of_ble_eq_true rfl⟩
 · intro fA fC x hS hR h
   refine Holds.eq (te582 cond fA fC n1 ap np mp tp n2 aq nq mq tq n3 au nu mu tu n4 aw nw mw tw) ?_
   unfold Te582
   exact zb hS _ h (fun n=>bif Nat.beq n 4 then 4 else bif Nat.beq n 5 then 5 else bif Nat.beq n 6 then 6 else bif Nat.beq n 7 then 7 else n) rfl rfl rfl ⟨(yG (zD rfl) rfl rfl),⟨(yG (zD rfl) rfl rfl),⟨(yG (zD rfl) rfl rfl),⟨(yG (zD rfl) rfl rfl),⟨(zH rfl),trivial⟩⟩⟩⟩⟩ rfl (yK (zD rfl) rfl (by simp) (zt ⟨(zu rfl),(zM (zC rfl) rfl rfl rfl),trivial⟩) (yK (zD rfl) rfl (by simp) (zt ⟨(zu rfl),(zM (zC rfl) rfl rfl rfl),trivial⟩) (yK (zD rfl) rfl (by simp) (zt ⟨(zu rfl),(zM (zC rfl) rfl rfl rfl),trivial⟩) (yK (zD rfl) rfl (by simp) (zt ⟨(zu rfl),(zM (zC rfl) rfl rfl rfl),trivial⟩) (zB (zC rfl) rfl rfl (zB (zC rfl) rfl rfl (zB (zC rfl) rfl rfl (zB (zC rfl) rfl rfl zE))))))))
 · intro fA fC x hS hR s h
   cases s with
   | h0=>
    refine Holds.eq (t582_0 cond fA fC n1 ap np mp tp n2 aq nq mq tq n3 au nu mu tu n4 aw nw mw tw) ?_
    unfold T582_0
    rw [q582] at h
    refine zA h (fun c0 h=>zA h (fun c1 h=>zA h (fun c2 h=>zA h (fun c3 h=>zA h (fun c4 h=> ?_) (fun c4 h=> ?_)) (fun c3 h=>zA h (fun c4 h=>zA h (fun c5 h=> ?_) (fun c5 h=>zJ c4 (zJ rfl (zU hR _ h (fun n=>n) rfl rfl rfl (zH rfl) rfl (zB (zC rfl) rfl rfl (zB (zC rfl) rfl rfl (zB (zC rfl) rfl rfl (zB (zC rfl) rfl rfl zE)))))))) (fun c4 h=>za c4 (zA h (fun c5 h=> ?_) (fun c5 h=>zJ rfl (zb hS _ h (fun n=>bif Nat.beq n 4 then 4 else bif Nat.beq n 5 then 5 else bif Nat.beq n 6 then 9 else bif Nat.beq n 7 then 6 else bif Nat.beq n 8 then 7 else bif Nat.beq n 9 then 14 else n) rfl rfl rfl ⟨(yG (zD rfl) rfl rfl),⟨(yG (zD rfl) rfl rfl),⟨(yG (zD rfl) rfl rfl),⟨(yG (zD rfl) rfl rfl),⟨(zH rfl),trivial⟩⟩⟩⟩⟩ rfl (yK (zD rfl) rfl (by simp) (zt ⟨(zu rfl),(zM (zC rfl) rfl rfl rfl),trivial⟩) (yK (zD rfl) rfl (by simp) (zt ⟨(yW rfl),(zZ (zD rfl) rfl rfl),trivial⟩) (zL (zD rfl) rfl (Nat.le_of_eq rfl) (zO (fun _ _=>rfl) zP) (yK (zD rfl) rfl (by simp) (zt ⟨(zu rfl),(zM (zC rfl) rfl rfl rfl),trivial⟩) (yK (zD rfl) rfl (by simp) (zt ⟨(yW rfl),(zZ (zD rfl) rfl rfl),trivial⟩) (zL (zD rfl) rfl (Nat.le_of_eq rfl) (zO (fun _ _=>rfl) zP) (zB (zC rfl) rfl rfl (zB (zC rfl) rfl rfl (zB (zC rfl) rfl rfl (zB (zC rfl) rfl rfl zE)))))))))))))))) (fun c2 h=> ?_)) (fun c1 h=> ?_)) (fun c0 h=> ?_)
    all_goals first
      |exact zF h
      |exact zU hR _ h (fun n=>n) rfl rfl rfl (zH rfl) rfl (zB (zC rfl) rfl rfl (zB (zC rfl) rfl rfl (zB (zC rfl) rfl rfl (zB (zC rfl) rfl rfl zE))))
   | h1 x0 x1=>
    refine Holds.eq (t582_1 cond fA fC mp tp n2 aq nq mq tq mu tu n4 aw nw mw tw x0 x1) ?_
    unfold T582_1
    rw [q582] at h
    refine zA h (fun c0 h=>zA h (fun c1 h=>zA h (fun c2 h=>zA h (fun c3 h=>zA h (fun c4 h=> ?_) (fun c4 h=> ?_)) (fun c3 h=>zA h (fun c4 h=>zA h (fun c5 h=> ?_) (fun c5 h=>zJ c4 (zJ rfl (zU hR _ h (fun n=>n) rfl rfl rfl (zH rfl) rfl (zB (zC rfl) rfl rfl (zB (zC rfl) rfl rfl (zB (zC rfl) rfl rfl (zB (zC rfl) rfl rfl zE)))))))) (fun c4 h=>za c4 (zA h (fun c5 h=> ?_) (fun c5 h=>zJ rfl (zb hS _ h (fun n=>bif Nat.beq n 4 then 4 else bif Nat.beq n 5 then 6 else bif Nat.beq n 6 then 5 else bif Nat.beq n 7 then 11 else bif Nat.beq n 8 then 7 else bif Nat.beq n 9 then 9 else bif Nat.beq n 10 then 8 else bif Nat.beq n 11 then 16 else n) rfl rfl rfl ⟨(yG (zD rfl) rfl rfl),⟨(yG (zD rfl) rfl rfl),⟨(yG (zD rfl) rfl rfl),⟨(yG (zD rfl) rfl rfl),⟨(zH rfl),trivial⟩⟩⟩⟩⟩ rfl (yK (zD rfl) rfl (by simp) (zt ⟨(yW rfl),(zZ (zD rfl) rfl rfl),trivial⟩) (zL (zD rfl) rfl (Nat.le_of_eq rfl) (zO (fun _ _=>rfl) zP) (yK (zD rfl) rfl (by simp) (zt ⟨(yW rfl),(zZ (zD rfl) rfl rfl),trivial⟩) (zL (zD rfl) rfl (Nat.le_of_eq rfl) (zO (fun _ _=>rfl) zP) (yK (zD rfl) rfl (by simp) (zt ⟨(yW rfl),(zZ (zD rfl) rfl rfl),trivial⟩) (zL (zD rfl) rfl (Nat.le_of_eq rfl) (zO (fun _ _=>rfl) zP) (yK (zD rfl) rfl (by simp) (zt ⟨(yW rfl),(zZ (zD rfl) rfl rfl),trivial⟩) (zL (zD rfl) rfl (Nat.le_of_eq rfl) (zO (fun _ _=>rfl) zP) (zB (zC rfl) rfl rfl (zB (zC rfl) rfl rfl (zB (zC rfl) rfl rfl (zB (zC rfl) rfl rfl zE)))))))))))))))))) (fun c2 h=> ?_)) (fun c1 h=> ?_)) (fun c0 h=> ?_)
    all_goals first
      |exact zF h
      |exact zU hR _ h (fun n=>n) rfl rfl rfl (zH rfl) rfl (zB (zC rfl) rfl rfl (zB (zC rfl) rfl rfl (zB (zC rfl) rfl rfl (zB (zC rfl) rfl rfl zE))))
   | h2 x0 x1 x2 x3 x4=>
    refine Holds.eq (t582_2 cond fA fC mp tp mq tq mu tu mw tw x0 x1 x2 x3 x4) ?_
    unfold T582_2
    rw [q582] at h
    refine zA h (fun c0 h=>zA h (fun c1 h=>zA h (fun c2 h=>zA h (fun c3 h=>zA h (fun c4 h=> ?_) (fun c4 h=> ?_)) (fun c3 h=>zA h (fun c4 h=>zA h (fun c5 h=> ?_) (fun c5 h=>zJ c4 (zA h (fun c6 h=> ?_) (fun c6 h=> ?_)))) (fun c4 h=>za c4 (zA h (fun c5 h=> ?_) (fun c5 h=>zA h (fun c6 h=>zb hS _ h (fun n=>bif Nat.beq n 4 then 4 else bif Nat.beq n 5 then 7 else bif Nat.beq n 6 then 6 else bif Nat.beq n 7 then 13 else bif Nat.beq n 8 then 8 else bif Nat.beq n 9 then 11 else bif Nat.beq n 10 then 10 else bif Nat.beq n 11 then 18 else n) rfl rfl rfl ⟨(yG (zD rfl) rfl rfl),⟨(yG (zD rfl) rfl rfl),⟨(yG (zD rfl) rfl rfl),⟨(yG (zD rfl) rfl rfl),⟨(zH rfl),trivial⟩⟩⟩⟩⟩ rfl (yK (zD rfl) rfl (by simp) (zt ⟨(yW rfl),(zZ (zD rfl) rfl rfl),trivial⟩) (zL (zD rfl) rfl (Nat.le_of_eq rfl) (zO (fun _ _=>rfl) zP) (yK (zD rfl) rfl (by simp) (zt ⟨(yW rfl),(zZ (zD rfl) rfl rfl),trivial⟩) (zL (zD rfl) rfl (Nat.le_of_eq rfl) (zO (fun _ _=>rfl) zP) (yK (zD rfl) rfl (by simp) (zt ⟨(yW rfl),(zZ (zD rfl) rfl rfl),trivial⟩) (zL (zD rfl) rfl (Nat.le_of_eq rfl) (zO (fun _ _=>rfl) zP) (yK (zD rfl) rfl (by simp) (zt ⟨(yW rfl),(zZ (zD rfl) rfl rfl),trivial⟩) (zL (zD rfl) rfl (Nat.le_of_eq rfl) (zO (fun _ _=>rfl) zP) (zB (zC rfl) rfl rfl (zB (zC rfl) rfl rfl (zB (zC rfl) rfl rfl (zB (zC rfl) rfl rfl zE))))))))))))) (fun c6 h=> ?_)))))) (fun c2 h=> ?_)) (fun c1 h=> ?_)) (fun c0 h=> ?_)
    all_goals first
      |exact zF h
      |exact zU hR _ h (fun n=>n) rfl rfl rfl (zH rfl) rfl (zB (zC rfl) rfl rfl (zB (zC rfl) rfl rfl (zB (zC rfl) rfl rfl (zB (zC rfl) rfl rfl zE))))
end
theorem s582' (n1:Bool) (ap np mp:Nat) (tp:Nat→Int) (n2:Bool) (aq nq mq:Nat) (tq:Nat→Int) (n3:Bool) (au nu mu:Nat) (tu:Nat→Int) (n4:Bool) (aw nw mw:Nat) (tw:Nat→Int): ∀ (k:Nat) (A B C D g:Int),B.toNat<k→0<A→0<B→0<C→0<D→A<S.pw 80→B<S.pw 80→C<S.pw 80→D<S.pw 80→(g=1∨g= -1)→Comes (q582 n1 ap np mp tp n2 aq nq mq tq n3 au nu mu tu n4 aw nw mw tw) (.h2 g (S.fX A) (S.fX B) (S.fX C) (S.fX D)) (g*S.fV (A*D) (C*B)):=by
 intro k
 induction k with
 |zero=>intro A B C D g h; omega
 | succ k ih=>
  intro A B C D g hk pA hc pC hc' lA lB lC lD hs
  have oA:=wy (Int.le_of_lt pA) lA
  have oB:=wy (Int.le_of_lt hc) lB
  have oC:=wy (Int.le_of_lt pC) lC
  have oD:=wy (Int.le_of_lt hc') lD
  have d1:S.fK false (S.fX A).length (fun j=>S.at' (S.fX A) j) false (S.fX B).length (fun j=>S.at' (S.fX B) j)=(decide (A / B<0),0,S.fX (A % B),S.fX ((A / B).natAbs:Int)):=by
   rw [wP oA.1 oB.1 (by have:=yT hc; omega),oA.2,oB.2]
  have d2:S.fK false (S.fX C).length (fun j=>S.at' (S.fX C) j) false (S.fX D).length (fun j=>S.at' (S.fX D) j)=(decide (C / D<0),0,S.fX (C % D),S.fX ((C / D).natAbs:Int)):=by
   rw [wP oC.1 oD.1 (by have:=yT hc'; omega),oC.2,oD.2]
  have hq:=qY (a:=A) (a':=C) hc hc' (by omega) (by omega)
  have q1:=(yP (wQ (a:=A) hc (by omega)).1).1
  have q2:=(yP (wQ (a:=C) hc' (by omega)).1).1
  have m1:=Int.emod_nonneg A (show B≠0 by omega)
  have m2:=Int.emod_lt_of_pos A hc
  have m3:=Int.emod_nonneg C (show D≠0 by omega)
  have m4:=Int.emod_lt_of_pos C hc'
  have k1:=z7 lA
  have k2:=z7 lB
  have k3:=z7 lC
  have k4:=z7 lD
  apply Comes.of
  rw [q582]
  with_reducible refine zK (decide_eq_true ⟨⟨by omega,by omega⟩,by omega,by omega⟩) ?_
  with_reducible refine zK (decide_eq_true ⟨⟨by omega,by omega⟩,by omega,by omega⟩) ?_
  simp only [-eq_self,c582_2_0,c582_2_1,c582_2_2,c582_2_3,c582_2_4,c582_2_5,c582_2_6,c582_2_7,d1,d2,hq]
  with_reducible refine zK (decide_eq_true ⟨⟨by omega,by omega⟩,by omega,by omega⟩) ?_
  by_cases h:S.fV (A / B) (C / D)=0
  rotate_left
  · with_reducible refine zK (bne_iff_ne.mpr h) ?_
    have hb:= @oN (A / B) (C / D)
    rw [ku hc hc' h]
    with_reducible refine zK (by rw [yu]; apply decide_eq_true; rcases hs with rfl|rfl<;>omega) ?_
    exact zG.mpr rfl
  with_reducible refine zd (bne_eq_false_iff_eq.mpr h) ?_
  have he:=tL h
  rw [mg he]
  by_cases z1:A % B=0
  · with_reducible refine zK (by rw [z1,z8]; exact beq_iff_eq.mpr rfl) ?_
    by_cases z2:C % D=0
    · with_reducible refine zK (by rw [z2,z8]; exact beq_iff_eq.mpr rfl) ?_
      rw [z1,z2,Int.zero_mul,Int.zero_mul,ve,Int.mul_zero]
      exact zG.mpr rfl
    · have y2:0<C % D:=by omega
      with_reducible refine zd (beq_eq_false_iff_ne.mpr (by have:=yT y2; omega)) ?_
      with_reducible refine zK (by rw [yu]; apply decide_eq_true; omega) ?_
      rw [z1,Int.zero_mul,vZ (Int.mul_pos y2 hc)]
      exact zG.mpr (by show (_:Int)=(_:Int); omega)
  have y1:0<A % B:=by omega
  with_reducible refine zd (beq_eq_false_iff_ne.mpr (by have:=yT y1; omega)) ?_
  by_cases z2:C % D=0
  · with_reducible refine zK (by rw [z2,z8]; exact beq_iff_eq.mpr rfl) ?_
    rw [z2,Int.zero_mul,uR (Int.mul_pos y1 hc')]
    exact zG.mpr (by show (_:Int)=(_:Int); omega)
  have y2:0<C % D:=by omega
  with_reducible refine zd (beq_eq_false_iff_ne.mpr (by have:=yT y2; omega)) ?_
  with_reducible refine zK (by rw [yu]; apply decide_eq_true; omega) ?_
  rw [kk]
  have hm:=ih B (A % B) D (C % D) (-g) (by omega) hc y1 hc' y2 lB (by omega) lD (by omega) (by omega)
  rw [Int.neg_mul,← Int.mul_neg] at hm
  exact hm
theorem s582h (n1:Bool) (ap np mp:Nat) (tp:Nat→Int) (n2:Bool) (aq nq mq:Nat) (tq:Nat→Int) (n3:Bool) (au nu mu:Nat) (tu:Nat→Int) (n4:Bool) (aw nw mw:Nat) (tw:Nat→Int) (hp:(((ap+np≤mp∧np≤1000000)∧aq+nq≤mq∧nq≤1000000)∧(au+nu≤mu∧nu≤1000000)∧aw+nw≤mw∧nw≤1000000)∧(S.fE n1 np (fun j=>tp (j+ap))=true∧S.fE n2 nq (fun j=>tq (j+aq))=true∧n2=false∧0<nq)∧S.fE n3 nu (fun j=>tu (j+au))=true∧S.fE n4 nw (fun j=>tw (j+aw))=true∧n4=false∧0<nw) (R1 R2:Int) (hc:0<R1) (hc':0<R2) (lR1:R1<S.pw 80) (lR2:R2<S.pw 80):Comes (q582 n1 ap np mp tp n2 aq nq mq tq n3 au nu mu tu n4 aw nw mw tw) (.h1 (S.fX R1) (S.fX R2)) (-S.fV (S.sv n2 (S.val nq (fun j=>tq (j+aq)))*R2) (S.sv n4 (S.val nw (fun j=>tw (j+aw)))*R1)):=by
 obtain ⟨⟨⟨⟨hp1,hp2⟩,hp3,hp4⟩,⟨hp5,hp6⟩,hp7,hp8⟩,⟨a1,a2,a3,a4⟩,b1,b2,b3,b4⟩:=hp
 have pC:=v5 a2 a3 a4
 have pC2:=v5 b2 b3 b4
 have la:=vy a1
 have lb:=vy a2
 have lc:=vy b1
 have ld:=vy b2
 have w1:=y4 (yP a1).1
 have w2:=y4 (yP a2).1
 have w3:=y4 (yP b1).1
 have w4:=y4 (yP b2).1
 obtain ⟨A,hA⟩: ∃ x,S.sv n1 (S.val np (fun j=>tp (j+ap)))=x:=⟨_,rfl⟩
 obtain ⟨C,hC⟩: ∃ x,S.sv n2 (S.val nq (fun j=>tq (j+aq)))=x:=⟨_,rfl⟩
 obtain ⟨A2,hA2⟩: ∃ x,S.sv n3 (S.val nu (fun j=>tu (j+au)))=x:=⟨_,rfl⟩
 obtain ⟨C2,hC2⟩: ∃ x,S.sv n4 (S.val nw (fun j=>tw (j+aw)))=x:=⟨_,rfl⟩
 rw [hC] at pC lb
 rw [hC2] at pC2 ld
 have oR1:=wy (Int.le_of_lt hc) lR1
 have oR2:=wy (Int.le_of_lt hc') lR2
 have d1:S.fK n2 nq (fun j=>tq (j+aq)) false (S.fX R1).length (fun j=>S.at' (S.fX R1) j)=(decide (C / R1<0),0,S.fX (C % R1),S.fX ((C / R1).natAbs:Int)):=by
  rw [wP a2 oR1.1 (by have:=yT hc; omega),oR1.2,hC]
 have d2:S.fK n4 nw (fun j=>tw (j+aw)) false (S.fX R2).length (fun j=>S.at' (S.fX R2) j)=(decide (C2 / R2<0),0,S.fX (C2 % R2),S.fX ((C2 / R2).natAbs:Int)):=by
  rw [wP b2 oR2.1 (by have:=yT hc'; omega),oR2.2,hC2]
 have hq:=qY (a:=C) (a':=C2) hc hc' (by omega) (by omega)
 have q1:=(yP (wQ (a:=C) hc (by omega)).1).1
 have q2:=(yP (wQ (a:=C2) hc' (by omega)).1).1
 have m1:=Int.emod_nonneg C (show R1≠0 by omega)
 have m2:=Int.emod_lt_of_pos C hc
 have m3:=Int.emod_nonneg C2 (show R2≠0 by omega)
 have m4:=Int.emod_lt_of_pos C2 hc'
 have k1:=z7 lR1
 have k2:=z7 lR2
 apply Comes.of
 rw [q582,hC,hC2]
 with_reducible refine zK (decide_eq_true ⟨⟨hp3,hp4⟩,by omega,by omega⟩) ?_
 with_reducible refine zK (decide_eq_true ⟨⟨hp7,hp8⟩,by omega,by omega⟩) ?_
 simp only [-eq_self,c582_1_0,c582_1_1,c582_1_2,c582_1_3,c582_1_4,c582_1_5,c582_1_6,c582_1_7,d1,d2,hq]
 with_reducible refine zK (decide_eq_true ⟨⟨by omega,by omega⟩,by omega,by omega⟩) ?_
 by_cases h:S.fV (C / R1) (C2 / R2)=0
 rotate_left
 · with_reducible refine zK (bne_iff_ne.mpr h) ?_
   have hb:= @oN (C / R1) (C2 / R2)
   rw [ku hc hc' h]
   with_reducible refine zK (by rw [yu]; apply decide_eq_true; omega) ?_
   exact zG.mpr (by show (_:Int)=(_:Int); omega)
 with_reducible refine zd (bne_eq_false_iff_eq.mpr h) ?_
 have he:=tL h
 rw [mg he]
 by_cases z1:C % R1=0
 · with_reducible refine zK (by rw [z1,z8]; exact beq_iff_eq.mpr rfl) ?_
   by_cases z2:C2 % R2=0
   · with_reducible refine zK (by rw [z2,z8]; exact beq_iff_eq.mpr rfl) ?_
     rw [z1,z2,Int.zero_mul,Int.zero_mul,ve]
     exact zG.mpr (by show (_:Int)=(_:Int); omega)
   · have y2:0<C2 % R2:=by omega
     with_reducible refine zd (beq_eq_false_iff_ne.mpr (by have:=yT y2; omega)) ?_
     rw [z1,Int.zero_mul,vZ (Int.mul_pos y2 hc)]
     exact zG.mpr (by show (_:Int)=(_:Int); omega)
 have y1:0<C % R1:=by omega
 with_reducible refine zd (beq_eq_false_iff_ne.mpr (by have:=yT y1; omega)) ?_
 by_cases z2:C2 % R2=0
 · with_reducible refine zK (by rw [z2,z8]; exact beq_iff_eq.mpr rfl) ?_
   rw [z2,Int.zero_mul,uR (Int.mul_pos y1 hc')]
   exact zG.mpr (by show (_:Int)=(_:Int); omega)
 have y2:0<C2 % R2:=by omega
 with_reducible refine zd (beq_eq_false_iff_ne.mpr (by have:=yT y2; omega)) ?_
 rw [kk]
 have hm:=s582' n1 ap np mp tp n2 aq nq mq tq n3 au nu mu tu n4 aw nw mw tw ((C % R1).toNat+1) R1 (C % R1) R2 (C2 % R2) 1 (by omega) hc y1 hc' y2 lR1 (by omega) lR2 (by omega) (.inl rfl)
 rw [Int.one_mul] at hm
 rw [Int.neg_neg]
 exact hm
noncomputable abbrev w582 {α:Type} (g:Bool→Nat→Nat→Nat→(Nat→Int)→Bool→Nat→Nat→Nat→(Nat→Int)→Bool→Nat→Nat→Nat→(Nat→Int)→Bool→Nat→Nat→Nat→(Nat→Int)→α) (x:(Bool×(Nat×Nat×Nat×(Nat→Int)×Unit)×Unit)×(Bool×(Nat×Nat×Nat×(Nat→Int)×Unit)×Unit)×(Bool×(Nat×Nat×Nat×(Nat→Int)×Unit)×Unit)×(Bool×(Nat×Nat×Nat×(Nat→Int)×Unit)×Unit)×Unit):α:=g x.1.1 x.1.2.1.1 x.1.2.1.2.1 x.1.2.1.2.2.1 x.1.2.1.2.2.2.1 x.2.1.1 x.2.1.2.1.1 x.2.1.2.1.2.1 x.2.1.2.1.2.2.1 x.2.1.2.1.2.2.2.1 x.2.2.1.1 x.2.2.1.2.1.1 x.2.2.1.2.1.2.1 x.2.2.1.2.1.2.2.1 x.2.2.1.2.1.2.2.2.1 x.2.2.2.1.1 x.2.2.2.1.2.1.1 x.2.2.2.1.2.1.2.1 x.2.2.2.1.2.1.2.2.1 x.2.2.2.1.2.1.2.2.2.1
noncomputable def k582:Con:=⟨82,[.agg [.plain (.bool),.list [.int .i64]],.agg [.plain (.bool),.list [.int .i64]],.agg [.plain (.bool),.list [.int .i64]],.agg [.plain (.bool),.list [.int .i64]]],w582 (fun n1 ap np mp tp n2 aq nq mq tq n3 au nu mu tu n4 aw nw mw tw=>decide ((((ap+np≤mp∧np≤1000000)∧aq+nq≤mq∧nq≤1000000)∧(au+nu≤mu∧nu≤1000000)∧aw+nw≤mw∧nw≤1000000)∧(S.fE n1 np (FS tp ap)=true∧S.fE n2 nq (FS tq aq)=true∧n2=false∧0<nq)∧S.fE n3 nu (FS tu au)=true∧S.fE n4 nw (FS tw aw)=true∧n4=false∧0<nw)),w582 (fun n1 ap np mp tp n2 aq nq mq tq n3 au nu mu tu n4 aw nw mw tw=>(V582) (S.fV (S.sv n1 (S.val np (FS tp ap))*S.sv n4 (S.val nw (FS tw aw))) (S.sv n3 (S.val nu (FS tu au))*S.sv n2 (S.val nq (FS tq aq))))),w582 (fun n1 ap np mp tp n2 aq nq mq tq n3 au nu mu tu n4 aw nw mw tw=>(N582) (S.fV (S.sv n1 (S.val np (FS tp ap))*S.sv n4 (S.val nw (FS tw aw))) (S.sv n3 (S.val nu (FS tu au))*S.sv n2 (S.val nq (FS tq aq))))),fun _ _=> .dead⟩
theorem s582 (n1:Bool) (ap np mp:Nat) (tp:Nat→Int) (n2:Bool) (aq nq mq:Nat) (tq:Nat→Int) (n3:Bool) (au nu mu:Nat) (tu:Nat→Int) (n4:Bool) (aw nw mw:Nat) (tw:Nat→Int) (hp:(((ap+np≤mp∧np≤1000000)∧aq+nq≤mq∧nq≤1000000)∧(au+nu≤mu∧nu≤1000000)∧aw+nw≤mw∧nw≤1000000)∧(S.fE n1 np (fun j=>tp (j+ap))=true∧S.fE n2 nq (fun j=>tq (j+aq))=true∧n2=false∧0<nq)∧S.fE n3 nu (fun j=>tu (j+au))=true∧S.fE n4 nw (fun j=>tw (j+aw))=true∧n4=false∧0<nw):zX ((q582 n1 ap np mp tp n2 aq nq mq tq n3 au nu mu tu n4 aw nw mw tw)) ((p582 n1 ap np mp tp n2 aq nq mq tq n3 au nu mu tu n4 aw nw mw tw)) (S.fV (S.sv n1 (S.val np (fun j=>tp (j+ap)))*S.sv n4 (S.val nw (fun j=>tw (j+aw)))) (S.sv n3 (S.val nu (fun j=>tu (j+au)))*S.sv n2 (S.val nq (fun j=>tq (j+aq))))):=by
 have hp0:=hp
 obtain ⟨⟨⟨⟨hp1,hp2⟩,hp3,hp4⟩,⟨hp5,hp6⟩,hp7,hp8⟩,⟨a1,a2,a3,a4⟩,b1,b2,b3,b4⟩:=hp
 have pC:=v5 a2 a3 a4
 have pC2:=v5 b2 b3 b4
 have la:=vy a1
 have lb:=vy a2
 have lc:=vy b1
 have ld:=vy b2
 have w1:=y4 (yP a1).1
 have w2:=y4 (yP a2).1
 have w3:=y4 (yP b1).1
 have w4:=y4 (yP b2).1
 obtain ⟨A,hA⟩: ∃ x,S.sv n1 (S.val np (fun j=>tp (j+ap)))=x:=⟨_,rfl⟩
 obtain ⟨C,hC⟩: ∃ x,S.sv n2 (S.val nq (fun j=>tq (j+aq)))=x:=⟨_,rfl⟩
 obtain ⟨A2,hA2⟩: ∃ x,S.sv n3 (S.val nu (fun j=>tu (j+au)))=x:=⟨_,rfl⟩
 obtain ⟨C2,hC2⟩: ∃ x,S.sv n4 (S.val nw (fun j=>tw (j+aw)))=x:=⟨_,rfl⟩
 have hc:0<C:=by rw [← hC]; exact pC
 have hc':0<C2:=by rw [← hC2]; exact pC2
 have d1:S.fK n1 np (fun j=>tp (j+ap)) n2 nq (fun j=>tq (j+aq))=(decide (A / C<0),0,S.fX (A % C),S.fX ((A / C).natAbs:Int)):=by
  rw [wP a1 a2 (by omega),hA,hC]
 have d2:S.fK n3 nu (fun j=>tu (j+au)) n4 nw (fun j=>tw (j+aw))=(decide (A2 / C2<0),0,S.fX (A2 % C2),S.fX ((A2 / C2).natAbs:Int)):=by
  rw [wP b1 b2 (by omega),hA2,hC2]
 rw [hA] at la
 rw [hC] at lb
 rw [hA2] at lc
 rw [hC2] at ld
 have hq:=qY (a:=A) (a':=A2) hc hc' (by omega) (by omega)
 have q1:=(yP (wQ (a:=A) hc (by omega)).1).1
 have q2:=(yP (wQ (a:=A2) hc' (by omega)).1).1
 have m1:=Int.emod_nonneg A (show C≠0 by omega)
 have m2:=Int.emod_lt_of_pos A hc
 have m3:=Int.emod_nonneg A2 (show C2≠0 by omega)
 have m4:=Int.emod_lt_of_pos A2 hc'
 have hn:=fun y1 y2=>s582h n1 ap np mp tp n2 aq nq mq tq n3 au nu mu tu n4 aw nw mw tw hp0 (A % C) (A2 % C2) y1 y2 (by omega) (by omega)
 rw [hC,hC2] at hn
 rw [hA,hC,hA2,hC2]
 unfold p582
 show Comes (q582 n1 ap np mp tp n2 aq nq mq tq n3 au nu mu tu n4 aw nw mw tw) .h0 _
 apply Comes.of
 rw [q582]
 with_reducible refine zK (decide_eq_true ⟨⟨hp1,hp2⟩,hp3,hp4⟩) ?_
 with_reducible refine zK (decide_eq_true ⟨⟨hp5,hp6⟩,hp7,hp8⟩) ?_
 simp only [-eq_self,c582_0_0,c582_0_1,c582_0_2,c582_0_3,c582_0_4,c582_0_5,c582_0_6,c582_0_7,d1,d2,hq]
 with_reducible refine zK (decide_eq_true ⟨⟨by omega,by omega⟩,by omega,by omega⟩) ?_
 by_cases h:S.fV (A / C) (A2 / C2)=0
 rotate_left
 · with_reducible refine zK (bne_iff_ne.mpr h) ?_
   have hb:= @oN (A / C) (A2 / C2)
   rw [ku hc hc' h]
   with_reducible refine zK (by rw [yu]; apply decide_eq_true; omega) ?_
   exact zG.mpr (by show (_:Int)=(_:Int); omega)
 with_reducible refine zd (bne_eq_false_iff_eq.mpr h) ?_
 have he:=tL h
 rw [mg he]
 by_cases z1:A % C=0
 · with_reducible refine zK (by rw [z1,z8]; exact beq_iff_eq.mpr rfl) ?_
   by_cases z2:A2 % C2=0
   · with_reducible refine zK (by rw [z2,z8]; exact beq_iff_eq.mpr rfl) ?_
     rw [z1,z2,Int.zero_mul,Int.zero_mul,ve]
     exact zG.mpr (by show (_:Int)=(_:Int); omega)
   · have y2:0<A2 % C2:=by omega
     with_reducible refine zd (beq_eq_false_iff_ne.mpr (by have:=yT y2; omega)) ?_
     rw [z1,Int.zero_mul,vZ (Int.mul_pos y2 hc)]
     exact zG.mpr (by show (_:Int)=(_:Int); omega)
 have y1:0<A % C:=by omega
 with_reducible refine zd (beq_eq_false_iff_ne.mpr (by have:=yT y1; omega)) ?_
 by_cases z2:A2 % C2=0
 · with_reducible refine zK (by rw [z2,z8]; exact beq_iff_eq.mpr rfl) ?_
   rw [z2,Int.zero_mul,uR (Int.mul_pos y1 hc')]
   exact zG.mpr (by show (_:Int)=(_:Int); omega)
 have y2:0<A2 % C2:=by omega
 with_reducible refine zd (beq_eq_false_iff_ne.mpr (by have:=yT y2; omega)) ?_
 rw [kk]
 exact hn y1 y2
theorem k582_ok:k582.ok Tryz.prog:=by
 intro x hx
 obtain ⟨⟨n1,⟨ap,np,mp,tp,_⟩,_⟩,⟨n2,⟨aq,nq,mq,tq,_⟩,_⟩,⟨n3,⟨au,nu,mu,tu,_⟩,_⟩,⟨n4,⟨aw,nw,mw,tw,_⟩,_⟩,_⟩:=x
 obtain ⟨h1,h2⟩:=a582 n1 ap np mp tp n2 aq nq mq tq n3 au nu mu tu n4 aw nw mw tw (s582 n1 ap np mp tp n2 aq nq mq tq n3 au nu mu tu n4 aw nw mw tw (zo hx rfl))
 exact ⟨⟨400,(by decide:4+1+0≤400),h1⟩,h2⟩
noncomputable def xRD (g9:Bool→Prop→Prop→Prop):Ext:=jK (ifX g9 k26f k26g e26i) (xK g9 [k522,k31,k582])
theorem gR:yZ Tryz.prog (xRD cond):=rv (me k26f_ok k26g_ok) (yN ⟨k522_ok,k31_ok,k582_ok,trivial⟩)
namespace S
noncomputable def fIdx (s:ByteArray) (c:Int):Int:=firstIdx s c.toNat.toUInt8
end S
set_option maxHeartbeats 400000 in
theorem ky (s:ByteArray) (c:Int) (w:World):Calls Tryz.prog 151 #[.string s,.int .u8 c] w fun e w'=>e= .returned (.int .i64 (S.fIdx s c))∧w=w':=by
 have hd: ∀ W:World,(callFunc 160 #[.string s,.int .u8 c]).run Tryz.prog W= .ok (.value (.int .i64 (firstIdx s c.toNat.toUInt8))) W:=fun W=>by
  rw [run_callFunc_indexByte Tryz.func160 (by kernel_rfl) (by kernel_rfl) (by kernel_rfl) (by kernel_rfl),run_indexByte_string]; rfl
 go_enter Tryz.func151,Tryz.ntmps151
 go_wp2
 go_ret
 exact ⟨rfl,rfl⟩
noncomputable def k93:Con:=⟨151,[.one (.plain .str),.one (.plain (.int .u8))],fun _=>true,fun x=> .int .i64 (S.fIdx x.1 x.2.1),fun _=> [],fun _ _=> .dead⟩
theorem k93_ok:k93.ok Tryz.prog:=by
 intro x hx
 obtain ⟨s,c,_⟩:=x
 refine ⟨⟨1,Nat.le_refl _,fun σ w vals hv hs hn=> ?_⟩,Tryz.f151,Tryz.func151,by kernel_rfl,by kernel_rfl⟩
 have e:vals= #[.string s,.int .u8 c]:=by
  obtain ⟨l⟩:=vals
  cases hv with
  | cons _ _ _ _ h1 hl=>
   cases hl with
   |cons _ _ _ _ h2 hl=>
    cases hl
    cases h1; cases h2; rfl
 rw [e]
 refine (ky s c w).mono fun e w' h=> ?_
 obtain ⟨he,hw⟩:=h
 subst hw
 exact ⟨_,σ,he,⟨.int _ _,hs,Mono.refl σ,fun _ _=>rfl,Frm.refl w _⟩⟩
noncomputable def xIX (g9:Bool→Prop→Prop→Prop):Ext:=xK g9 [k93]
theorem ie:yZ Tryz.prog (xIX cond):=yN ⟨k93_ok,trivial⟩
noncomputable def k512:Con:=⟨12,[],fun _=>true,fun _=> .bool true,fun _=> [],fun _ _=> .dead⟩
theorem te512 (fA:KS) (fC:KR):run cond Tryz.env true (xIX cond) false 4000 ⟨12,[.cd (zS Tryz.f12).body],[],[[],[]],0⟩ (zq 0 [] fA fC)=fC (.tf true) [[]] 860:=by kernel_rfl
theorem k512_ok:k512.ok Tryz.prog:=kl (fn:=zS Tryz.f12) (hi:=861) (n:=4000) Tryz.envOk Tryz.mixed ie rfl (by decide) (by decide:Nat.ble 860 861=true) te512
namespace S
def cmpR (n1:Bool) (n:Nat) (t:Nat→Int) (n2:Bool) (m:Nat) (u:Nat→Int) (n3:Bool) (n':Nat) (t':Nat→Int) (n4:Bool) (m':Nat) (u':Nat→Int):Int:=if fH n1 n t n2 m u=true∧fH n3 n' t' n4 m' u'=true then fV (sv n1 (val n t)*sv n4 (val m' u')) (sv n3 (val n' t')*sv n2 (val m u)) else 0
noncomputable def floR (n1:Bool) (n:Nat) (t:Nat→Int) (n2:Bool) (m:Nat) (u:Nat→Int):Bool×Int×List Int:=if fH n1 n t n2 m u=true then (decide (sv n1 (val n t) / sv n2 (val m u)<0),0,fX ((sv n1 (val n t) / sv n2 (val m u)).natAbs:Int)) else (false,1,[])
end S
theorem cmpM {n1 n2 n3 n4:Bool} {n m n' m':Nat} {t u t' u':Nat→Int} (f1:S.fQ n1 n t n2 m u=true) (f2:S.fQ n3 n' t' n4 m' u'=true):S.fU (S.ngM n1 n t n2 m u) (S.grM n1 n t n2 m u).length (fun j=>S.at' (S.grM n1 n t n2 m u) j) (S.ngM n3 n' t' n4 m' u') (S.grM n3 n' t' n4 m' u').length (fun j=>S.at' (S.grM n3 n' t' n4 m' u') j)=S.fV (S.sv n1 (S.val n t)*S.sv n2 (S.val m u)) (S.sv n3 (S.val n' t')*S.sv n4 (S.val m' u')):=by
 have o1:=tn (v:=S.sv n1 (S.val n t)*S.sv n2 (S.val m u)) f1
 have o2:=tn (v:=S.sv n3 (S.val n' t')*S.sv n4 (S.val m' u')) f2
 unfold S.ngM S.grM S.fU
 rw [if_pos ⟨o1.1,o2.1⟩,o1.2,o2.2]
theorem mT {n1 n2:Bool} {n m:Nat} {t u:Nat→Int} (f1:S.fQ n1 n t n2 m u=true):(S.grM n1 n t n2 m u).length≤80:=(yP (tn (v:=S.sv n1 (S.val n t)*S.sv n2 (S.val m u)) f1).1).1
section
variable (g9:TT) (fA:KS) (fC:KR) (n1:Bool) (ap np mp:Nat) (tp:NI) (n2:Bool) (aq nq mq:Nat) (tq:NI) (n3:Bool) (au nu mu:Nat) (tu:NI) (n4:Bool) (aw nw mw:Nat) (tw:NI)
noncomputable abbrev c536_e_0:=decide ((((ap+np≤mp∧np≤1000000)∧aq+nq≤mq∧nq≤1000000)∧(au+nu≤mu∧nu≤1000000)∧aw+nw≤mw∧nw≤1000000)∧((S.fE n1 np fun j=>tp (j+ap))=true∧(S.fE n2 nq fun j=>tq (j+aq))=true∧n2=false∧0<nq)∧(S.fE n3 nu fun j=>tu (j+au))=true∧(S.fE n4 nw fun j=>tw (j+aw))=true∧n4=false∧0<nw)
noncomputable abbrev c536_e_1:=decide ((0+(S.grM n1 np (fun j=>tp (j+ap)) n4 nw fun j=>tw (j+aw)).length≤(S.grM n1 np (fun j=>tp (j+ap)) n4 nw fun j=>tw (j+aw)).length∧(S.grM n1 np (fun j=>tp (j+ap)) n4 nw fun j=>tw (j+aw)).length≤1000000)∧0+(S.grM n3 nu (fun j=>tu (j+au)) n2 nq fun j=>tq (j+aq)).length≤(S.grM n3 nu (fun j=>tu (j+au)) n2 nq fun j=>tq (j+aq)).length∧(S.grM n3 nu (fun j=>tu (j+au)) n2 nq fun j=>tq (j+aq)).length≤1000000)
noncomputable abbrev c536_e_2:=S.fU (S.ngM n1 np (fun j=>tp (j+ap)) n4 nw fun j=>tw (j+aw)) (S.grM n1 np (fun j=>tp (j+ap)) n4 nw fun j=>tw (j+aw)).length (fun j=>S.at' (S.grM n1 np (fun j=>tp (j+ap)) n4 nw fun j=>tw (j+aw)) j) (S.ngM n3 nu (fun j=>tu (j+au)) n2 nq fun j=>tq (j+aq)) (S.grM n3 nu (fun j=>tu (j+au)) n2 nq fun j=>tq (j+aq)).length fun j=>S.at' (S.grM n3 nu (fun j=>tu (j+au)) n2 nq fun j=>tq (j+aq)) j
noncomputable abbrev c536_e_3:=S.fV (S.sv n1 (S.val np fun j=>tp (j+ap))*S.sv n4 (S.val nw fun j=>tw (j+aw))) (S.sv n3 (S.val nu fun j=>tu (j+au))*S.sv n2 (S.val nq fun j=>tq (j+aq)))
noncomputable abbrev c536_e_4:= [[(3,false,Blk.cols mw [Col.int .i64 tw]),(2,false,Blk.cols mu [Col.int .i64 tu]),(1,false,Blk.cols mq [Col.int .i64 tq]),(0,false,Blk.cols mp [Col.int .i64 tp])]]
noncomputable abbrev c536_e_5:=decide (((au+nu≤mu∧nu≤1000000)∧aq+nq≤mq∧nq≤1000000)∧(S.fE n3 nu fun j=>tu (j+au))=true∧(S.fE n2 nq fun j=>tq (j+aq))=true∧(S.fQ n3 nu (fun j=>tu (j+au)) n2 nq fun j=>tq (j+aq))=false)
noncomputable abbrev c536_e_6:=decide (((au+nu≤mu∧nu≤1000000)∧aq+nq≤mq∧nq≤1000000)∧(S.fE n3 nu fun j=>tu (j+au))=true∧(S.fE n2 nq fun j=>tq (j+aq))=true∧(S.fQ n3 nu (fun j=>tu (j+au)) n2 nq fun j=>tq (j+aq))=true)
abbrev St536:=Empty
abbrev Rt536:=Int
noncomputable def V536 (r:Rt536):PV:= .int .i64 r
noncomputable def N536 (r:Rt536):List Blk:= []
noncomputable def I536:St536→Hd:=fun s=>s.elim
noncomputable def q536 (n1:Bool) (ap np mp:Nat) (tp:NI) (n2:Bool) (aq nq mq:Nat) (tq:NI) (n3:Bool) (au nu mu:Nat) (tu:NI) (n4:Bool) (aw nw mw:Nat) (tw:NI):St536→Option (St536⊕Rt536):=fun s=>s.elim
noncomputable def p536 (n1:Bool) (ap np mp:Nat) (tp:NI) (n2:Bool) (aq nq mq:Nat) (tq:NI) (n3:Bool) (au nu mu:Nat) (tu:NI) (n4:Bool) (aw nw mw:Nat) (tw:NI):Option (St536⊕Rt536):=bif (decide ((ap+np≤mp∧np≤1000000)∧aq+nq≤mq∧nq≤1000000)) then (bif (S.fH n1 np (fun j=>tp (j+ap)) n2 nq fun j=>tq (j+aq)) then (bif (decide ((au+nu≤mu∧nu≤1000000)∧aw+nw≤mw∧nw≤1000000)) then (bif (S.fH n3 nu (fun j=>tu (j+au)) n4 nw fun j=>tw (j+aw)) then (bif (S.fQ n1 np (fun j=>tp (j+ap)) n4 nw fun j=>tw (j+aw)) then (bif (decide (((ap+np≤mp∧np≤1000000)∧aw+nw≤mw∧nw≤1000000)∧(S.fE n1 np fun j=>tp (j+ap))=true∧(S.fE n4 nw fun j=>tw (j+aw))=true∧(S.fQ n1 np (fun j=>tp (j+ap)) n4 nw fun j=>tw (j+aw))=true)) then (bif (S.fQ n3 nu (fun j=>tu (j+au)) n2 nq fun j=>tq (j+aq)) then (bif (c536_e_6 n2 aq nq mq tq n3 au nu mu tu) then (bif (c536_e_1 n1 ap np tp n2 aq nq tq n3 au nu tu n4 aw nw tw) then (some (.inr (c536_e_2 n1 ap np tp n2 aq nq tq n3 au nu tu n4 aw nw tw))) else none) else none) else (bif (c536_e_5 n2 aq nq mq tq n3 au nu mu tu) then (bif (c536_e_0 n1 ap np mp tp n2 aq nq mq tq n3 au nu mu tu n4 aw nw mw tw) then (some (.inr (c536_e_3 n1 ap np tp n2 aq nq tq n3 au nu tu n4 aw nw tw))) else none) else none)) else none) else (bif (decide (((ap+np≤mp∧np≤1000000)∧aw+nw≤mw∧nw≤1000000)∧(S.fE n1 np fun j=>tp (j+ap))=true∧(S.fE n4 nw fun j=>tw (j+aw))=true∧(S.fQ n1 np (fun j=>tp (j+ap)) n4 nw fun j=>tw (j+aw))=false)) then (bif (S.fQ n3 nu (fun j=>tu (j+au)) n2 nq fun j=>tq (j+aq)) then (bif (c536_e_6 n2 aq nq mq tq n3 au nu mu tu) then (bif (c536_e_0 n1 ap np mp tp n2 aq nq mq tq n3 au nu mu tu n4 aw nw mw tw) then (some (.inr (c536_e_3 n1 ap np tp n2 aq nq tq n3 au nu tu n4 aw nw tw))) else none) else none) else (bif (c536_e_5 n2 aq nq mq tq n3 au nu mu tu) then (bif (c536_e_0 n1 ap np mp tp n2 aq nq mq tq n3 au nu mu tu n4 aw nw mw tw) then (some (.inr (c536_e_3 n1 ap np tp n2 aq nq tq n3 au nu tu n4 aw nw tw))) else none) else none)) else none)) else (some (.inr ((0:Int))))) else none) else (some (.inr ((0:Int))))) else none
def Te536:Prop:=g9 (decide ((ap+np≤mp∧np≤1000000)∧aq+nq≤mq∧nq≤1000000)) (g9 (S.fH n1 np (FS tp ap) n2 nq (FS tq aq)) (g9 (decide ((au+nu≤mu∧nu≤1000000)∧aw+nw≤mw∧nw≤1000000)) (g9 (S.fH n3 nu (FS tu au) n4 nw (FS tw aw)) (g9 (S.fQ n1 np (FS tp ap) n4 nw (FS tw aw)) (g9 (decide (((ap+np≤mp∧np≤1000000)∧aw+nw≤mw∧nw≤1000000)∧(S.fE n1 np (FS tp ap))=true∧(S.fE n4 nw (FS tw aw))=true∧(S.fQ n1 np (FS tp ap) n4 nw (FS tw aw))=true)) (g9 (S.fQ n3 nu (FS tu au) n2 nq (FS tq aq)) (g9 (c536_e_6 n2 aq nq mq tq n3 au nu mu tu) (g9 (c536_e_1 n1 ap np tp n2 aq nq tq n3 au nu tu n4 aw nw tw) (fC (.int .i64 (c536_e_2 n1 ap np tp n2 aq nq tq n3 au nu tu n4 aw nw tw)) (c536_e_4 mp tp mq tq mu tu mw tw) 15) False) False) (g9 (c536_e_5 n2 aq nq mq tq n3 au nu mu tu) (g9 (c536_e_0 n1 ap np mp tp n2 aq nq mq tq n3 au nu mu tu n4 aw nw mw tw) (fC (.int .i64 (c536_e_3 n1 ap np tp n2 aq nq tq n3 au nu tu n4 aw nw tw)) (c536_e_4 mp tp mq tq mu tu mw tw) 15) False) False)) False) (g9 (decide (((ap+np≤mp∧np≤1000000)∧aw+nw≤mw∧nw≤1000000)∧(S.fE n1 np (FS tp ap))=true∧(S.fE n4 nw (FS tw aw))=true∧(S.fQ n1 np (FS tp ap) n4 nw (FS tw aw))=false)) (g9 (S.fQ n3 nu (FS tu au) n2 nq (FS tq aq)) (g9 (c536_e_6 n2 aq nq mq tq n3 au nu mu tu) (g9 (c536_e_0 n1 ap np mp tp n2 aq nq mq tq n3 au nu mu tu n4 aw nw mw tw) (fC (.int .i64 (c536_e_3 n1 ap np tp n2 aq nq tq n3 au nu tu n4 aw nw tw)) (c536_e_4 mp tp mq tq mu tu mw tw) 15) False) False) (g9 (c536_e_5 n2 aq nq mq tq n3 au nu mu tu) (g9 (c536_e_0 n1 ap np mp tp n2 aq nq mq tq n3 au nu mu tu n4 aw nw mw tw) (fC (.int .i64 (c536_e_3 n1 ap np tp n2 aq nq tq n3 au nu tu n4 aw nw tw)) (c536_e_4 mp tp mq tq mu tu mw tw) 15) False) False)) False)) (fC (.int .i64 0) (c536_e_4 mp tp mq tq mu tu mw tw) 8)) False) (fC (.int .i64 0) (c536_e_4 mp tp mq tq mu tu mw tw) 7)) False
theorem te536:run cond Tryz.env true (xRD cond) false 400 ⟨36,[.cd (zS Tryz.f36).body],yD 0 [.agg [.bool n1,.loose ⟨0,1,ap,0⟩ np,.bool n2,.loose ⟨1,1,aq,0⟩ nq],.agg [.bool n3,.loose ⟨2,1,au,0⟩ nu,.bool n4,.loose ⟨3,1,aw,0⟩ nw]],[[],[(0,(false,CB mp tp)),(1,(false,CB mq tq)),(2,(false,CB mu tu)),(3,(false,CB mw tw))]],4⟩ (zq 4 [] fA fC)=
 Te536 cond fC n1 ap np mp tp n2 aq nq mq tq n3 au nu mu tu n4 aw nw mw tw:=by kernel_rfl
noncomputable abbrev J536:Rt536→zQ:=fun r=> [yJ (4+1) ((N536) r)++ [(0,(false,CB mp tp)),(1,(false,CB mq tq)),(2,(false,CB mu tu)),(3,(false,CB mw tw))]]
attribute [local irreducible] Int.subNatNat in
theorem a536 {r:Rt536} (h:zX ((q536 n1 ap np mp tp n2 aq nq mq tq n3 au nu mu tu n4 aw nw mw tw)) ((p536 n1 ap np mp tp n2 aq nq mq tq n3 au nu mu tu n4 aw nw mw tw)) r):zn Tryz.prog 36 [.agg [.bool n1,.loose ⟨0,1,ap,0⟩ np,.bool n2,.loose ⟨1,1,aq,0⟩ nq],.agg [.bool n3,.loose ⟨2,1,au,0⟩ nu,.bool n4,.loose ⟨3,1,aw,0⟩ nw]] [[(0,(false,CB mp tp)),(1,(false,CB mq tq)),(2,(false,CB mu tu)),(3,(false,CB mw tw))]] 4 ((V536) r) ((J536 mp tp mq tq mu tu mw tw) r) 400∧HB Tryz.prog 36:=by
 refine pX Tryz.envOk Tryz.mixed gR ((I536)) ((V536)) (J536 mp tp mq tq mu tu mw tw) (fn:=zS Tryz.f36) (n:=400) rfl (by decide) (by simp) (zV rfl) ?_ h
 · intro fA fC x hS hR h
   refine Holds.eq (te536 fA fC n1 ap np mp tp n2 aq nq mq tq n3 au nu mu tu n4 aw nw mw tw) ?_
   unfold Te536
   unfold p536 at h
   refine zA h (fun c0 h=>zA h (fun c1 h=>zA h (fun c2 h=>zA h (fun c3 h=>zA h (fun c4 h=>zA h (fun c5 h=>zA h (fun c6 h=>zA h (fun c7 h=>zA h (fun c8 h=> ?_) (fun c8 h=> ?_)) (fun c7 h=> ?_)) (fun c6 h=>zA h (fun c7 h=>zA h (fun c8 h=> ?_) (fun c8 h=> ?_)) (fun c7 h=> ?_))) (fun c5 h=> ?_)) (fun c4 h=>zA h (fun c5 h=>zA h (fun c6 h=>zA h (fun c7 h=>zA h (fun c8 h=> ?_) (fun c8 h=> ?_)) (fun c7 h=> ?_)) (fun c6 h=>zA h (fun c7 h=>zA h (fun c8 h=> ?_) (fun c8 h=> ?_)) (fun c7 h=> ?_))) (fun c5 h=> ?_))) (fun c3 h=> ?_)) (fun c2 h=> ?_)) (fun c1 h=> ?_)) (fun c0 h=> ?_)
   all_goals first
     |exact zF h
     |exact zU hR _ h (fun n=>n) rfl rfl rfl (zH rfl) rfl (zB (zC rfl) rfl rfl (zB (zC rfl) rfl rfl (zB (zC rfl) rfl rfl (zB (zC rfl) rfl rfl zE))))
end
noncomputable abbrev w536 {α:Type} (g:Bool→Nat→Nat→Nat→(Nat→Int)→Bool→Nat→Nat→Nat→(Nat→Int)→Bool→Nat→Nat→Nat→(Nat→Int)→Bool→Nat→Nat→Nat→(Nat→Int)→α) (x:(Bool×(Nat×Nat×Nat×(Nat→Int)×Unit)×Bool×(Nat×Nat×Nat×(Nat→Int)×Unit)×Unit)×(Bool×(Nat×Nat×Nat×(Nat→Int)×Unit)×Bool×(Nat×Nat×Nat×(Nat→Int)×Unit)×Unit)×Unit):α:=g x.1.1 x.1.2.1.1 x.1.2.1.2.1 x.1.2.1.2.2.1 x.1.2.1.2.2.2.1 x.1.2.2.1 x.1.2.2.2.1.1 x.1.2.2.2.1.2.1 x.1.2.2.2.1.2.2.1 x.1.2.2.2.1.2.2.2.1 x.2.1.1 x.2.1.2.1.1 x.2.1.2.1.2.1 x.2.1.2.1.2.2.1 x.2.1.2.1.2.2.2.1 x.2.1.2.2.1 x.2.1.2.2.2.1.1 x.2.1.2.2.2.1.2.1 x.2.1.2.2.2.1.2.2.1 x.2.1.2.2.2.1.2.2.2.1
noncomputable def k536:Con:=⟨36,[.agg [.plain (.bool),.list [.int .i64],.plain (.bool),.list [.int .i64]],.agg [.plain (.bool),.list [.int .i64],.plain (.bool),.list [.int .i64]]],w536 (fun n1 ap np mp tp n2 aq nq mq tq n3 au nu mu tu n4 aw nw mw tw=>decide (((ap+np≤mp∧np≤1000000)∧aq+nq≤mq∧nq≤1000000)∧(au+nu≤mu∧nu≤1000000)∧aw+nw≤mw∧nw≤1000000)),w536 (fun n1 ap np mp tp n2 aq nq mq tq n3 au nu mu tu n4 aw nw mw tw=>(V536) (S.cmpR n1 np (FS tp ap) n2 nq (FS tq aq) n3 nu (FS tu au) n4 nw (FS tw aw))),w536 (fun n1 ap np mp tp n2 aq nq mq tq n3 au nu mu tu n4 aw nw mw tw=>(N536) (S.cmpR n1 np (FS tp ap) n2 nq (FS tq aq) n3 nu (FS tu au) n4 nw (FS tw aw))),fun _ _=> .dead⟩
theorem s536 (n1:Bool) (ap np mp:Nat) (tp:Nat→Int) (n2:Bool) (aq nq mq:Nat) (tq:Nat→Int) (n3:Bool) (au nu mu:Nat) (tu:Nat→Int) (n4:Bool) (aw nw mw:Nat) (tw:Nat→Int) (hp:((ap+np≤mp∧np≤1000000)∧aq+nq≤mq∧nq≤1000000)∧(au+nu≤mu∧nu≤1000000)∧aw+nw≤mw∧nw≤1000000):zX ((q536 n1 ap np mp tp n2 aq nq mq tq n3 au nu mu tu n4 aw nw mw tw)) ((p536 n1 ap np mp tp n2 aq nq mq tq n3 au nu mu tu n4 aw nw mw tw)) (S.cmpR n1 np (fun j=>tp (j+ap)) n2 nq (fun j=>tq (j+aq)) n3 nu (fun j=>tu (j+au)) n4 nw (fun j=>tw (j+aw))):=by
 obtain ⟨⟨⟨hp1,hp2⟩,hp3,hp4⟩,⟨hp5,hp6⟩,hp7,hp8⟩:=hp
 unfold S.cmpR p536
 with_reducible refine zK (decide_eq_true ⟨⟨hp1,hp2⟩,hp3,hp4⟩) ?_
 by_cases g1:S.fH n1 np (fun j=>tp (j+ap)) n2 nq (fun j=>tq (j+aq))=true
 rotate_left
 · rw [if_neg fun h=>g1 h.1]
   with_reducible refine zd (Bool.not_eq_true _ ▸ g1) ?_
   exact zG.mpr rfl
 with_reducible refine zK g1 ?_
 with_reducible refine zK (decide_eq_true ⟨⟨hp5,hp6⟩,hp7,hp8⟩) ?_
 by_cases g2:S.fH n3 nu (fun j=>tu (j+au)) n4 nw (fun j=>tw (j+aw))=true
 rotate_left
 · rw [if_neg fun h=>g2 h.2]
   with_reducible refine zd (Bool.not_eq_true _ ▸ g2) ?_
   exact zG.mpr rfl
 with_reducible refine zK g2 ?_
 rw [if_pos ⟨g1,g2⟩]
 obtain ⟨a1,a2,a3,a4,-⟩:=vY.mp g1
 obtain ⟨b1,b2,b3,b4,-⟩:=vY.mp g2
 have p1:=v5 a2 a3 a4
 have p2:=v5 b2 b3 b4
 simp only [-eq_self,c536_e_0,c536_e_1,c536_e_2,c536_e_3,c536_e_4,c536_e_5,c536_e_6]
 cases f1:S.fQ n1 np (fun j=>tp (j+ap)) n4 nw (fun j=>tw (j+aw))<;>cases f2:S.fQ n3 nu (fun j=>tu (j+au)) n2 nq (fun j=>tq (j+aq))
 · with_reducible refine zd rfl ?_
   with_reducible refine zK (decide_eq_true ⟨⟨⟨hp1,hp2⟩,hp7,hp8⟩,a1,b2,rfl⟩) ?_
   with_reducible refine zd rfl ?_
   with_reducible refine zK (decide_eq_true ⟨⟨⟨hp5,hp6⟩,hp3,hp4⟩,b1,a2,rfl⟩) ?_
   with_reducible refine zK (decide_eq_true ⟨⟨⟨⟨hp1,hp2⟩,hp3,hp4⟩,⟨hp5,hp6⟩,hp7,hp8⟩,⟨a1,a2,a3,a4⟩,b1,b2,b3,b4⟩) ?_
   exact zG.mpr rfl
 · with_reducible refine zd rfl ?_
   with_reducible refine zK (decide_eq_true ⟨⟨⟨hp1,hp2⟩,hp7,hp8⟩,a1,b2,rfl⟩) ?_
   with_reducible refine zK rfl ?_
   with_reducible refine zK (decide_eq_true ⟨⟨⟨hp5,hp6⟩,hp3,hp4⟩,b1,a2,rfl⟩) ?_
   with_reducible refine zK (decide_eq_true ⟨⟨⟨⟨hp1,hp2⟩,hp3,hp4⟩,⟨hp5,hp6⟩,hp7,hp8⟩,⟨a1,a2,a3,a4⟩,b1,b2,b3,b4⟩) ?_
   exact zG.mpr rfl
 · with_reducible refine zK rfl ?_
   with_reducible refine zK (decide_eq_true ⟨⟨⟨hp1,hp2⟩,hp7,hp8⟩,a1,b2,rfl⟩) ?_
   with_reducible refine zd rfl ?_
   with_reducible refine zK (decide_eq_true ⟨⟨⟨hp5,hp6⟩,hp3,hp4⟩,b1,a2,rfl⟩) ?_
   with_reducible refine zK (decide_eq_true ⟨⟨⟨⟨hp1,hp2⟩,hp3,hp4⟩,⟨hp5,hp6⟩,hp7,hp8⟩,⟨a1,a2,a3,a4⟩,b1,b2,b3,b4⟩) ?_
   exact zG.mpr rfl
 · have l1:=mT f1
   have l2:=mT f2
   rw [cmpM f1 f2]
   with_reducible refine zK rfl ?_
   with_reducible refine zK (decide_eq_true ⟨⟨⟨hp1,hp2⟩,hp7,hp8⟩,a1,b2,rfl⟩) ?_
   with_reducible refine zK rfl ?_
   with_reducible refine zK (decide_eq_true ⟨⟨⟨hp5,hp6⟩,hp3,hp4⟩,b1,a2,rfl⟩) ?_
   with_reducible refine zK (decide_eq_true ⟨⟨by omega,by omega⟩,by omega,by omega⟩) ?_
   exact zG.mpr rfl
theorem k536_ok:k536.ok Tryz.prog:=by
 intro x hx
 obtain ⟨⟨n1,⟨ap,np,mp,tp,_⟩,n2,⟨aq,nq,mq,tq,_⟩,_⟩,⟨n3,⟨au,nu,mu,tu,_⟩,n4,⟨aw,nw,mw,tw,_⟩,_⟩,_⟩:=x
 obtain ⟨h1,h2⟩:=a536 n1 ap np mp tp n2 aq nq mq tq n3 au nu mu tu n4 aw nw mw tw (s536 n1 ap np mp tp n2 aq nq mq tq n3 au nu mu tu n4 aw nw mw tw (zo hx rfl))
 exact ⟨⟨400,(by decide:4+1+0≤400),h1⟩,h2⟩
section
variable (g9:TT) (fA:KS) (fC:KR) (n1:Bool) (ap np mp:Nat) (tp:NI) (n2:Bool) (aq nq mq:Nat) (tq:NI)
noncomputable abbrev c539_e_0:=S.fK n1 np (fun j=>tp (j+ap)) n2 nq fun j=>tq (j+aq)
abbrev St539:=Empty
abbrev Rt539:=Bool×Int×List Int
noncomputable def V539 (r:Rt539):PV:= .tup [.agg [.bool r.1,.own 3 1 r.2.2.length],.int .i64 r.2.1]
noncomputable def N539 (r:Rt539):List Blk:= [CI r.2.2]
noncomputable def I539:St539→Hd:=fun s=>s.elim
noncomputable def q539 (n1:Bool) (ap np mp:Nat) (tp:NI) (n2:Bool) (aq nq mq:Nat) (tq:NI):St539→Option (St539⊕Rt539):=fun s=>s.elim
noncomputable def p539 (n1:Bool) (ap np mp:Nat) (tp:NI) (n2:Bool) (aq nq mq:Nat) (tq:NI):Option (St539⊕Rt539):=bif (decide ((ap+np≤mp∧np≤1000000)∧aq+nq≤mq∧nq≤1000000)) then (bif (S.fH n1 np (fun j=>tp (j+ap)) n2 nq fun j=>tq (j+aq)) then (some (.inr ((c539_e_0 n1 ap np tp n2 aq nq tq).1,(c539_e_0 n1 ap np tp n2 aq nq tq).2.1,(c539_e_0 n1 ap np tp n2 aq nq tq).2.2.2))) else (some (.inr (false,(1:Int),[])))) else none
def Te539:Prop:=g9 (decide ((ap+np≤mp∧np≤1000000)∧aq+nq≤mq∧nq≤1000000)) (g9 (S.fH n1 np (FS tp ap) n2 nq (FS tq aq)) (g9 (decide ((ap+np≤mp∧np≤1000000)∧aq+nq≤mq∧nq≤1000000)) (fC (.tup [.agg [.bool (c539_e_0 n1 ap np tp n2 aq nq tq).1,.own 7 1 (c539_e_0 n1 ap np tp n2 aq nq tq).2.2.2.length],.int .i64 (c539_e_0 n1 ap np tp n2 aq nq tq).2.1]) ([[(1,false,CB mq tq),(0,false,CB mp tp),(7,true,CI (c539_e_0 n1 ap np tp n2 aq nq tq).2.2.2)]]) 10) False) (fC (.tup [.agg [.tf false,.nils],.int .i64 1]) ([[(1,false,CB mq tq),(0,false,CB mp tp)]]) 5)) False
theorem te539:run g9 Tryz.env true (xRF g9) true 400 ⟨39,[.cd (zS Tryz.f39).body],yD 0 [.agg [.bool n1,.loose ⟨0,1,ap,0⟩ np,.bool n2,.loose ⟨1,1,aq,0⟩ nq]],[[],[(0,(false,CB mp tp)),(1,(false,CB mq tq))]],2⟩ (zq 2 [] fA fC)=
 Te539 g9 fC n1 ap np mp tp n2 aq nq mq tq:=by kernel_rfl
noncomputable abbrev J539:Rt539→zQ:=fun r=> [yJ (2+1) ((N539) r)++ [(0,(false,CB mp tp)),(1,(false,CB mq tq))]]
attribute [local irreducible] Int.subNatNat in
theorem a539 {r:Rt539} (h:zX ((q539 n1 ap np mp tp n2 aq nq mq tq)) ((p539 n1 ap np mp tp n2 aq nq mq tq)) r):zn Tryz.prog 39 [.agg [.bool n1,.loose ⟨0,1,ap,0⟩ np,.bool n2,.loose ⟨1,1,aq,0⟩ nq]] [[(0,(false,CB mp tp)),(1,(false,CB mq tq))]] 2 ((V539) r) ((J539 mp tp mq tq) r) 400∧HB Tryz.prog 39:=by
 refine zf Tryz.envOk Tryz.mixed kS ((I539)) ((V539)) (J539 mp tp mq tq) (fn:=zS Tryz.f39) (ts:= []) (n:=400) rfl (by decide) (by simp) (zV rfl) ?_ ?_ ?_ h
 · intro s; exact s.elim
 · intro fA fC x hS hR h
   refine Holds.eq (te539 cond fA fC n1 ap np mp tp n2 aq nq mq tq) ?_
   unfold Te539
   unfold p539 at h
   exact zA h (fun c0 h=>zA h (fun c1 h=>zJ c0 (zU hR _ h (fun n=>bif Nat.beq n 3 then 7 else n) rfl rfl rfl (zm ⟨(zg ⟨(zu rfl),(zZ (zD rfl) rfl rfl),trivial⟩),(zH rfl),trivial⟩) rfl (zL (zD rfl) rfl (Nat.le_of_eq rfl) (zO (fun _ _=>rfl) zP) (zB (zC rfl) rfl rfl (zB (zC rfl) rfl rfl zE))))) (fun c1 h=>zU hR _ h (fun n=>bif Nat.beq n 3 then 399 else n) rfl rfl rfl (zm ⟨(zg ⟨(zR rfl),(zT rfl),trivial⟩),(zH rfl),trivial⟩) rfl (zY (zD rfl) (zc rfl) (zB (zC rfl) rfl rfl (zB (zC rfl) rfl rfl zE))))) (fun c0 h=>zF h)
 · intro fA fC x hS hR s h; exact s.elim
end
noncomputable def k539:Con:=⟨39,[.agg [.plain (.bool),.list [.int .i64],.plain (.bool),.list [.int .i64]]],w522 (fun n1 ap np mp tp n2 aq nq mq tq=>decide ((ap+np≤mp∧np≤1000000)∧aq+nq≤mq∧nq≤1000000)),w522 (fun n1 ap np mp tp n2 aq nq mq tq=>(V539) (S.floR n1 np (FS tp ap) n2 nq (FS tq aq))),w522 (fun n1 ap np mp tp n2 aq nq mq tq=>(N539) (S.floR n1 np (FS tp ap) n2 nq (FS tq aq))),fun _ _=> .dead⟩
theorem s539 (n1:Bool) (ap np mp:Nat) (tp:Nat→Int) (n2:Bool) (aq nq mq:Nat) (tq:Nat→Int) (hp:(ap+np≤mp∧np≤1000000)∧aq+nq≤mq∧nq≤1000000):zX ((q539 n1 ap np mp tp n2 aq nq mq tq)) ((p539 n1 ap np mp tp n2 aq nq mq tq)) (S.floR n1 np (fun j=>tp (j+ap)) n2 nq (fun j=>tq (j+aq))):=by
 obtain ⟨⟨hp1,hp2⟩,hp3,hp4⟩:=hp
 unfold S.floR p539
 with_reducible refine zK (decide_eq_true ⟨⟨hp1,hp2⟩,hp3,hp4⟩) ?_
 by_cases g1:S.fH n1 np (fun j=>tp (j+ap)) n2 nq (fun j=>tq (j+aq))=true
 rotate_left
 · rw [if_neg g1]
   with_reducible refine zd (Bool.not_eq_true _ ▸ g1) ?_
   exact zG.mpr rfl
 rw [if_pos g1]
 obtain ⟨a1,a2,-,a4,-⟩:=vY.mp g1
 with_reducible refine zK g1 ?_
 simp only [-eq_self,c539_e_0,wP a1 a2 (show nq≠0 by omega)]
 exact zG.mpr rfl
theorem k539_ok:k539.ok Tryz.prog:=by
 intro x hx
 obtain ⟨⟨n1,⟨ap,np,mp,tp,_⟩,n2,⟨aq,nq,mq,tq,_⟩,_⟩,_⟩:=x
 obtain ⟨h1,h2⟩:=a539 n1 ap np mp tp n2 aq nq mq tq (s539 n1 ap np mp tp n2 aq nq mq tq (zo hx rfl))
 exact ⟨⟨400,(by decide:2+1+1≤400),h1⟩,h2⟩
section
variable (g9:TT) (fA:KS) (fC:KR) (n1:Bool) (ap np mp:Nat) (tp:NI) (n2:Bool) (aq nq mq:Nat) (tq:NI)
abbrev St540:=Empty
abbrev Rt540:=Bool×Int×List Int
noncomputable def V540 (r:Rt540):PV:= .tup [.agg [.bool r.1,.own 3 1 r.2.2.length],.int .i64 r.2.1]
noncomputable def N540 (r:Rt540):List Blk:= [CI r.2.2]
noncomputable def I540:St540→Hd:=fun s=>s.elim
noncomputable def q540 (n1:Bool) (ap np mp:Nat) (tp:NI) (n2:Bool) (aq nq mq:Nat) (tq:NI):St540→Option (St540⊕Rt540):=fun s=>s.elim
noncomputable def p540 (n1:Bool) (ap np mp:Nat) (tp:NI) (n2:Bool) (aq nq mq:Nat) (tq:NI):Option (St540⊕Rt540):=bif (decide ((ap+np≤mp∧np≤1000000)∧aq+nq≤mq∧nq≤1000000)) then (bif (S.fH n1 np (fun j=>tp (j+ap)) n2 nq fun j=>tq (j+aq)) then (some (.inr ((S.fK n1 np (fun j=>tp (j+ap)) n2 nq fun j=>tq (j+aq)).1,(0:Int),(S.fK n1 np (fun j=>tp (j+ap)) n2 nq fun j=>tq (j+aq)).2.2.2))) else (some (.inr (false,(1:Int),[])))) else none
def Te540:Prop:=g9 (decide ((ap+np≤mp∧np≤1000000)∧aq+nq≤mq∧nq≤1000000)) (g9 (S.fH n1 np (FS tp ap) n2 nq (FS tq aq)) (g9 (decide ((ap+np≤mp∧np≤1000000)∧aq+nq≤mq∧nq≤1000000)) (fC (.tup [.agg [.bool (S.fK n1 np (FS tp ap) n2 nq (FS tq aq)).1,.own 7 1 (S.fK n1 np (FS tp ap) n2 nq (FS tq aq)).2.2.2.length],.int .i64 0]) ([[(1,false,CB mq tq),(0,false,CB mp tp),(7,true,CI (S.fK n1 np (FS tp ap) n2 nq (FS tq aq)).2.2.2)]]) 10) False) (fC (.tup [.agg [.tf false,.nils],.int .i64 1]) ([[(1,false,CB mq tq),(0,false,CB mp tp)]]) 5)) False
theorem te540:run g9 Tryz.env true (xRF g9) true 400 ⟨40,[.cd (zS Tryz.f40).body],yD 0 [.agg [.bool n1,.loose ⟨0,1,ap,0⟩ np,.bool n2,.loose ⟨1,1,aq,0⟩ nq]],[[],[(0,(false,CB mp tp)),(1,(false,CB mq tq))]],2⟩ (zq 2 [] fA fC)=
 Te540 g9 fC n1 ap np mp tp n2 aq nq mq tq:=by kernel_rfl
noncomputable abbrev J540:Rt540→zQ:=fun r=> [yJ (2+1) ((N540) r)++ [(0,(false,CB mp tp)),(1,(false,CB mq tq))]]
attribute [local irreducible] Int.subNatNat in
theorem a540 {r:Rt540} (h:zX ((q540 n1 ap np mp tp n2 aq nq mq tq)) ((p540 n1 ap np mp tp n2 aq nq mq tq)) r):zn Tryz.prog 40 [.agg [.bool n1,.loose ⟨0,1,ap,0⟩ np,.bool n2,.loose ⟨1,1,aq,0⟩ nq]] [[(0,(false,CB mp tp)),(1,(false,CB mq tq))]] 2 ((V540) r) ((J540 mp tp mq tq) r) 400∧HB Tryz.prog 40:=by
 refine zf Tryz.envOk Tryz.mixed kS ((I540)) ((V540)) (J540 mp tp mq tq) (fn:=zS Tryz.f40) (ts:= []) (n:=400) rfl (by decide) (by simp) (zV rfl) ?_ ?_ ?_ h
 · intro s; exact s.elim
 · intro fA fC x hS hR h
   refine Holds.eq (te540 cond fA fC n1 ap np mp tp n2 aq nq mq tq) ?_
   unfold Te540
   unfold p540 at h
   exact zA h (fun c0 h=>zA h (fun c1 h=>zJ c0 (zU hR _ h (fun n=>bif Nat.beq n 3 then 7 else n) rfl rfl rfl (zm ⟨(zg ⟨(zu rfl),(zZ (zD rfl) rfl rfl),trivial⟩),(zH rfl),trivial⟩) rfl (zL (zD rfl) rfl (Nat.le_of_eq rfl) (zO (fun _ _=>rfl) zP) (zB (zC rfl) rfl rfl (zB (zC rfl) rfl rfl zE))))) (fun c1 h=>zU hR _ h (fun n=>bif Nat.beq n 3 then 399 else n) rfl rfl rfl (zm ⟨(zg ⟨(zR rfl),(zT rfl),trivial⟩),(zH rfl),trivial⟩) rfl (zY (zD rfl) (zc rfl) (zB (zC rfl) rfl rfl (zB (zC rfl) rfl rfl zE))))) (fun c0 h=>zF h)
 · intro fA fC x hS hR s h; exact s.elim
end
noncomputable def k540:Con:=⟨40,[.agg [.plain (.bool),.list [.int .i64],.plain (.bool),.list [.int .i64]]],w522 (fun n1 ap np mp tp n2 aq nq mq tq=>decide ((ap+np≤mp∧np≤1000000)∧aq+nq≤mq∧nq≤1000000)),w522 (fun n1 ap np mp tp n2 aq nq mq tq=>(V540) (S.floR n1 np (FS tp ap) n2 nq (FS tq aq))),w522 (fun n1 ap np mp tp n2 aq nq mq tq=>(N540) (S.floR n1 np (FS tp ap) n2 nq (FS tq aq))),fun _ _=> .dead⟩
theorem s540 (n1:Bool) (ap np mp:Nat) (tp:Nat→Int) (n2:Bool) (aq nq mq:Nat) (tq:Nat→Int) (hp:(ap+np≤mp∧np≤1000000)∧aq+nq≤mq∧nq≤1000000):zX ((q540 n1 ap np mp tp n2 aq nq mq tq)) ((p540 n1 ap np mp tp n2 aq nq mq tq)) (S.floR n1 np (fun j=>tp (j+ap)) n2 nq (fun j=>tq (j+aq))):=by
 obtain ⟨⟨hp1,hp2⟩,hp3,hp4⟩:=hp
 unfold S.floR p540
 with_reducible refine zK (decide_eq_true ⟨⟨hp1,hp2⟩,hp3,hp4⟩) ?_
 by_cases g1:S.fH n1 np (fun j=>tp (j+ap)) n2 nq (fun j=>tq (j+aq))=true
 rotate_left
 · rw [if_neg g1]
   with_reducible refine zd (Bool.not_eq_true _ ▸ g1) ?_
   exact zG.mpr rfl
 rw [if_pos g1]
 obtain ⟨a1,a2,-,a4,-⟩:=vY.mp g1
 with_reducible refine zK g1 ?_
 simp only [-eq_self,wP a1 a2 (show nq≠0 by omega)]
 exact zG.mpr rfl
theorem k540_ok:k540.ok Tryz.prog:=by
 intro x hx
 obtain ⟨⟨n1,⟨ap,np,mp,tp,_⟩,n2,⟨aq,nq,mq,tq,_⟩,_⟩,_⟩:=x
 obtain ⟨h1,h2⟩:=a540 n1 ap np mp tp n2 aq nq mq tq (s540 n1 ap np mp tp n2 aq nq mq tq (zo hx rfl))
 exact ⟨⟨400,(by decide:2+1+1≤400),h1⟩,h2⟩
namespace S
noncomputable def ofN (v:Int):Bool:=(fP v).1
noncomputable def ofL (v:Int):List Int:=(fP v).2
end S
noncomputable def k21o:Con:=⟨43,[.one (.plain (.int .i64))],fun (x:Int×Unit)=>(fun (v:Int)=>decide (-9223372036854775808≤v∧v≤9223372036854775807)) x.1,fun (x:Int×Unit)=>(fun (v:Int)=>(V21) (S.ofN v,S.ofL v)) x.1,fun (x:Int×Unit)=>(fun (v:Int)=>(N21) (S.ofN v,S.ofL v)) x.1,fun _ _=> .dead⟩
theorem s21o (v:Int) (hp: -9223372036854775808≤v∧v≤9223372036854775807):zX ((q21 v)) ((p21 v)) ((S.ofN v,S.ofL v)):=by
 exact s21 v hp
theorem k21o_ok:k21o.ok Tryz.prog:=by
 intro x hx
 obtain ⟨v,_⟩:=x
 obtain ⟨h1,h2⟩:=a21 v (s21o v (zo hx rfl))
 exact ⟨⟨400,(by decide:0+1+1≤400),h1⟩,h2⟩
noncomputable def xRG (g9:Bool→Prop→Prop→Prop):Ext:=jK (ifX g9 k23f k23g e23i) (xK g9 [k512,k539,k540,k541,k21o,k536])
theorem gb:yZ Tryz.prog (xRG cond):=rv (me k23f_ok k23g_ok) (yN ⟨k512_ok,k539_ok,k540_ok,k541_ok,k21o_ok,k536_ok,trivial⟩)
theorem kw: ∀ x:Int,(Classical.indefiniteDescription (fun (x:Int→List Int)=>x=S.grpI) S.grp_ex).1 x=S.fX x:=fun _=>rfl
theorem kz:S.ofL 1=S.fX 1:=rfl
theorem jG:S.ofN 1=false:=rfl
theorem nQ {Q:Int} (h:(Q.natAbs:Int)<S.pw 80):S.fH (decide (Q<0)) (S.fX (Q.natAbs:Int)).length (fun j=>S.at' (S.fX (Q.natAbs:Int)) j) false (S.fX 1).length (fun j=>S.at' (S.fX 1) j)=true:=by
 have o1:=wy (r:=1) (by decide) qO
 refine vY.mpr ⟨(pH h).1,o1.1,rfl,yT (by decide),?_⟩
 rw [z4 (by omega),z4 (by decide),pR]
section
variable (g9:TT) (fA:KS) (fC:KR) (n1:Bool) (ap np mp:Nat) (tp:NI) (n2:Bool) (aq nq mq:Nat) (tq:NI)
noncomputable abbrev c509_e_0:=S.floR n1 np (fun j=>tp (j+ap)) n2 nq fun j=>tq (j+aq)
noncomputable abbrev c509_e_1:=decide ((0+(c509_e_0 n1 ap np tp n2 aq nq tq).2.2.length≤(c509_e_0 n1 ap np tp n2 aq nq tq).2.2.length∧(c509_e_0 n1 ap np tp n2 aq nq tq).2.2.length≤1000000)∧0+(c509_e_0 n1 ap np tp n2 aq nq tq).2.2.length≤(c509_e_0 n1 ap np tp n2 aq nq tq).2.2.length∧(c509_e_0 n1 ap np tp n2 aq nq tq).2.2.length≤1000000∧(S.fE (c509_e_0 n1 ap np tp n2 aq nq tq).1 (c509_e_0 n1 ap np tp n2 aq nq tq).2.2.length fun j=>S.at' (c509_e_0 n1 ap np tp n2 aq nq tq).2.2 j)=true∧(S.fE (c509_e_0 n1 ap np tp n2 aq nq tq).1 (c509_e_0 n1 ap np tp n2 aq nq tq).2.2.length fun j=>S.at' (c509_e_0 n1 ap np tp n2 aq nq tq).2.2 j)=true)
noncomputable abbrev c509_e_2:=(0+(c509_e_0 n1 ap np tp n2 aq nq tq).2.2.length≤(c509_e_0 n1 ap np tp n2 aq nq tq).2.2.length∧(c509_e_0 n1 ap np tp n2 aq nq tq).2.2.length≤1000000)∧0+(S.ofN ((1:Int),()).1,S.ofL ((1:Int),()).1).2.length≤(S.ofN ((1:Int),()).1,S.ofL ((1:Int),()).1).2.length∧(S.ofN ((1:Int),()).1,S.ofL ((1:Int),()).1).2.length≤1000000
noncomputable abbrev c509_e_3:=decide ((S.fU (c509_e_0 n1 ap np tp n2 aq nq tq).1 (c509_e_0 n1 ap np tp n2 aq nq tq).2.2.length (fun j=>S.at' (c509_e_0 n1 ap np tp n2 aq nq tq).2.2 j) (c509_e_0 n1 ap np tp n2 aq nq tq).1 (c509_e_0 n1 ap np tp n2 aq nq tq).2.2.length fun j=>S.at' (c509_e_0 n1 ap np tp n2 aq nq tq).2.2 j)=0)
noncomputable abbrev c509_e_4:= [[(1,false,Blk.cols mq [Col.int .i64 tq]),(0,false,Blk.cols mp [Col.int .i64 tp])]]
noncomputable abbrev c509_e_5:=(S.ofN ((1:Int),()).1,S.ofL ((1:Int),()).1).2.length
noncomputable abbrev c509_e_6:=fun j=>S.at' (c509_e_0 n1 ap np tp n2 aq nq tq).2.2 j
noncomputable abbrev c509_e_7:=(c509_e_0 n1 ap np tp n2 aq nq tq).2.2.length
noncomputable abbrev c509_e_8:=S.fE (c509_e_0 n1 ap np tp n2 aq nq tq).1 (c509_e_7 n1 ap np tp n2 aq nq tq) fun j=>S.at' (c509_e_0 n1 ap np tp n2 aq nq tq).2.2 j
noncomputable abbrev c509_e_9:=(c509_e_0 n1 ap np tp n2 aq nq tq).2.1==(c509_e_0 n1 ap np tp n2 aq nq tq).2.1
noncomputable abbrev c509_e_10:=(S.ofN ((1:Int),()).1,S.ofL ((1:Int),()).1)
abbrev St509:=Empty
abbrev Rt509:=Bool
noncomputable def V509 (r:Rt509):PV:= .bool r
noncomputable def N509 (r:Rt509):List Blk:= []
noncomputable def I509:St509→Hd:=fun s=>s.elim
noncomputable def q509 (n1:Bool) (ap np mp:Nat) (tp:NI) (n2:Bool) (aq nq mq:Nat) (tq:NI):St509→Option (St509⊕Rt509):=fun s=>s.elim
noncomputable def p509 (n1:Bool) (ap np mp:Nat) (tp:NI) (n2:Bool) (aq nq mq:Nat) (tq:NI):Option (St509⊕Rt509):=bif (lim .i64 ((0:Int)+(np:Int))) then (bif (lim .i64 ((0:Int)+(np:Int)+(nq:Int))) then (bif (decide ((0:Int)+(np:Int)+(nq:Int)≤100)) then (bif (decide ((ap+np≤mp∧np≤1000000)∧aq+nq≤mq∧nq≤1000000)) then (bif ((c509_e_0 n1 ap np tp n2 aq nq tq).2.1 != (c509_e_0 n1 ap np tp n2 aq nq tq).2.1) then (bif (c509_e_9 n1 ap np tp n2 aq nq tq) then (bif (c509_e_1 n1 ap np tp n2 aq nq tq) then (bif (c509_e_3 n1 ap np tp n2 aq nq tq) then (some (.inr true)) else (some (.inr false))) else none) else (some (.inr false))) else (bif (c509_e_1 n1 ap np tp n2 aq nq tq) then (bif (c509_e_3 n1 ap np tp n2 aq nq tq) then (bif ((c509_e_0 n1 ap np tp n2 aq nq tq).2.1 != 0) then (bif (c509_e_9 n1 ap np tp n2 aq nq tq) then (some (.inr true)) else (some (.inr false))) else (bif (S.fR (c509_e_0 n1 ap np tp n2 aq nq tq).1 (c509_e_7 n1 ap np tp n2 aq nq tq) (c509_e_6 n1 ap np tp n2 aq nq tq) false c509_e_5 fun j=>S.at' ((Classical.indefiniteDescription (fun (x:Int→List Int)=>x=S.grpI) S.grp_ex).1 (↑(Int.natAbs ((1:Int),()).1):Int)) j) then (bif (decide ((c509_e_2 n1 ap np tp n2 aq nq tq)∧(c509_e_8 n1 ap np tp n2 aq nq tq)=true∧(S.fE false c509_e_5 fun j=>S.at' ((Classical.indefiniteDescription (fun (x:Int→List Int)=>x=S.grpI) S.grp_ex).1 (↑(Int.natAbs ((1:Int),()).1):Int)) j)=true∧(S.fR (c509_e_0 n1 ap np tp n2 aq nq tq).1 (c509_e_7 n1 ap np tp n2 aq nq tq) (c509_e_6 n1 ap np tp n2 aq nq tq) false c509_e_5 fun j=>S.at' ((Classical.indefiniteDescription (fun (x:Int→List Int)=>x=S.grpI) S.grp_ex).1 (↑(Int.natAbs ((1:Int),()).1):Int)) j)=true)) then (bif (decide ((c509_e_2 n1 ap np tp n2 aq nq tq)∧(ap+np≤mp∧np≤1000000)∧aq+nq≤mq∧nq≤1000000)) then (bif (decide ((S.cmpR (c509_e_0 n1 ap np tp n2 aq nq tq).1 (c509_e_7 n1 ap np tp n2 aq nq tq) (c509_e_6 n1 ap np tp n2 aq nq tq) false c509_e_5 (fun j=>S.at' ((Classical.indefiniteDescription (fun (x:Int→List Int)=>x=S.grpI) S.grp_ex).1 (↑(Int.natAbs ((1:Int),()).1):Int)) j) n1 np (fun j=>tp (j+ap)) n2 nq fun j=>tq (j+aq))≤0)) then (bif (decide (((ap+np≤mp∧np≤1000000)∧aq+nq≤mq∧nq≤1000000)∧(0+(S.grA (c509_e_0 n1 ap np tp n2 aq nq tq).1 (c509_e_7 n1 ap np tp n2 aq nq tq) (c509_e_6 n1 ap np tp n2 aq nq tq) false c509_e_5 fun j=>S.at' ((Classical.indefiniteDescription (fun (x:Int→List Int)=>x=S.grpI) S.grp_ex).1 (↑(Int.natAbs ((1:Int),()).1):Int)) j).length≤(S.grA (c509_e_0 n1 ap np tp n2 aq nq tq).1 (c509_e_7 n1 ap np tp n2 aq nq tq) (c509_e_6 n1 ap np tp n2 aq nq tq) false c509_e_5 fun j=>S.at' ((Classical.indefiniteDescription (fun (x:Int→List Int)=>x=S.grpI) S.grp_ex).1 (↑(Int.natAbs ((1:Int),()).1):Int)) j).length∧(S.grA (c509_e_0 n1 ap np tp n2 aq nq tq).1 (c509_e_7 n1 ap np tp n2 aq nq tq) (c509_e_6 n1 ap np tp n2 aq nq tq) false c509_e_5 fun j=>S.at' ((Classical.indefiniteDescription (fun (x:Int→List Int)=>x=S.grpI) S.grp_ex).1 (↑(Int.natAbs ((1:Int),()).1):Int)) j).length≤1000000)∧0+(c509_e_10).2.length≤(c509_e_10).2.length∧(c509_e_10).2.length≤1000000)) then (bif (decide ((S.cmpR n1 np (fun j=>tp (j+ap)) n2 nq (fun j=>tq (j+aq)) (S.ngA (c509_e_0 n1 ap np tp n2 aq nq tq).1 (c509_e_7 n1 ap np tp n2 aq nq tq) (c509_e_6 n1 ap np tp n2 aq nq tq) false c509_e_5 fun j=>S.at' ((Classical.indefiniteDescription (fun (x:Int→List Int)=>x=S.grpI) S.grp_ex).1 (↑(Int.natAbs ((1:Int),()).1):Int)) j) (S.grA (c509_e_0 n1 ap np tp n2 aq nq tq).1 (c509_e_7 n1 ap np tp n2 aq nq tq) (c509_e_6 n1 ap np tp n2 aq nq tq) false c509_e_5 fun j=>S.at' ((Classical.indefiniteDescription (fun (x:Int→List Int)=>x=S.grpI) S.grp_ex).1 (↑(Int.natAbs ((1:Int),()).1):Int)) j).length (fun j=>S.at' (S.grA (c509_e_0 n1 ap np tp n2 aq nq tq).1 (c509_e_7 n1 ap np tp n2 aq nq tq) (c509_e_6 n1 ap np tp n2 aq nq tq) false c509_e_5 fun j=>S.at' ((Classical.indefiniteDescription (fun (x:Int→List Int)=>x=S.grpI) S.grp_ex).1 (↑(Int.natAbs ((1:Int),()).1):Int)) j) j) false c509_e_5 fun j=>S.at' ((Classical.indefiniteDescription (fun (x:Int→List Int)=>x=S.grpI) S.grp_ex).1 (↑(Int.natAbs ((1:Int),()).1):Int)) j)<0)) then (some (.inr true)) else (some (.inr false))) else none) else (some (.inr false))) else none) else none) else (bif (decide ((c509_e_2 n1 ap np tp n2 aq nq tq)∧(c509_e_8 n1 ap np tp n2 aq nq tq)=true∧(S.fE false c509_e_5 fun j=>S.at' ((Classical.indefiniteDescription (fun (x:Int→List Int)=>x=S.grpI) S.grp_ex).1 (↑(Int.natAbs ((1:Int),()).1):Int)) j)=true∧(S.fR (c509_e_0 n1 ap np tp n2 aq nq tq).1 (c509_e_7 n1 ap np tp n2 aq nq tq) (c509_e_6 n1 ap np tp n2 aq nq tq) false c509_e_5 fun j=>S.at' ((Classical.indefiniteDescription (fun (x:Int→List Int)=>x=S.grpI) S.grp_ex).1 (↑(Int.natAbs ((1:Int),()).1):Int)) j)=false)) then (some (.inr true)) else none))) else (bif (c509_e_9 n1 ap np tp n2 aq nq tq) then (some (.inr false)) else (some (.inr false)))) else none)) else none) else (some (.inr true))) else none) else none
def Te509:Prop:=g9 (lim .i64 ((0:Int)+(np:Int))) (g9 (lim .i64 ((0:Int)+(np:Int)+(nq:Int))) (g9 (decide ((0:Int)+(np:Int)+(nq:Int)≤100)) (g9 (decide ((ap+np≤mp∧np≤1000000)∧aq+nq≤mq∧nq≤1000000)) (g9 (decide ((ap+np≤mp∧np≤1000000)∧aq+nq≤mq∧nq≤1000000)) (g9 ((c509_e_0 n1 ap np tp n2 aq nq tq).2.1 != (c509_e_0 n1 ap np tp n2 aq nq tq).2.1) (g9 (c509_e_9 n1 ap np tp n2 aq nq tq) (g9 (c509_e_1 n1 ap np tp n2 aq nq tq) (g9 (c509_e_3 n1 ap np tp n2 aq nq tq) (fC (.tf true) (c509_e_4 mp tp mq tq) 14) (fC (.tf false) (c509_e_4 mp tp mq tq) 14)) False) (fC (.tf false) (c509_e_4 mp tp mq tq) 13)) (g9 (c509_e_1 n1 ap np tp n2 aq nq tq) (g9 (c509_e_3 n1 ap np tp n2 aq nq tq) (g9 ((c509_e_0 n1 ap np tp n2 aq nq tq).2.1 != 0) (g9 (c509_e_9 n1 ap np tp n2 aq nq tq) (g9 (c509_e_1 n1 ap np tp n2 aq nq tq) (g9 (c509_e_3 n1 ap np tp n2 aq nq tq) (fC (.tf true) (c509_e_4 mp tp mq tq) 15) (fC (.tf false) (c509_e_4 mp tp mq tq) 15)) False) (fC (.tf false) (c509_e_4 mp tp mq tq) 14)) (g9 (S.fR (c509_e_0 n1 ap np tp n2 aq nq tq).1 (c509_e_7 n1 ap np tp n2 aq nq tq) (c509_e_6 n1 ap np tp n2 aq nq tq) false c509_e_5 fun j=>S.at' ((Classical.indefiniteDescription (fun (x:Int→List Int)=>x=S.grpI) S.grp_ex).1 (↑(Int.natAbs ((1:Int),()).1):Int)) j) (g9 (decide ((c509_e_2 n1 ap np tp n2 aq nq tq)∧(c509_e_8 n1 ap np tp n2 aq nq tq)=true∧(S.fE false c509_e_5 fun j=>S.at' ((Classical.indefiniteDescription (fun (x:Int→List Int)=>x=S.grpI) S.grp_ex).1 (↑(Int.natAbs ((1:Int),()).1):Int)) j)=true∧(S.fR (c509_e_0 n1 ap np tp n2 aq nq tq).1 (c509_e_7 n1 ap np tp n2 aq nq tq) (c509_e_6 n1 ap np tp n2 aq nq tq) false c509_e_5 fun j=>S.at' ((Classical.indefiniteDescription (fun (x:Int→List Int)=>x=S.grpI) S.grp_ex).1 (↑(Int.natAbs ((1:Int),()).1):Int)) j)=true)) (g9 (decide ((c509_e_2 n1 ap np tp n2 aq nq tq)∧(ap+np≤mp∧np≤1000000)∧aq+nq≤mq∧nq≤1000000)) (g9 (decide ((S.cmpR (c509_e_0 n1 ap np tp n2 aq nq tq).1 (c509_e_7 n1 ap np tp n2 aq nq tq) (c509_e_6 n1 ap np tp n2 aq nq tq) false c509_e_5 (fun j=>S.at' ((Classical.indefiniteDescription (fun (x:Int→List Int)=>x=S.grpI) S.grp_ex).1 (↑(Int.natAbs ((1:Int),()).1):Int)) j) n1 np (FS tp ap) n2 nq (FS tq aq))≤0)) (g9 (decide (((ap+np≤mp∧np≤1000000)∧aq+nq≤mq∧nq≤1000000)∧(0+(S.grA (c509_e_0 n1 ap np tp n2 aq nq tq).1 (c509_e_7 n1 ap np tp n2 aq nq tq) (c509_e_6 n1 ap np tp n2 aq nq tq) false c509_e_5 fun j=>S.at' ((Classical.indefiniteDescription (fun (x:Int→List Int)=>x=S.grpI) S.grp_ex).1 (↑(Int.natAbs ((1:Int),()).1):Int)) j).length≤(S.grA (c509_e_0 n1 ap np tp n2 aq nq tq).1 (c509_e_7 n1 ap np tp n2 aq nq tq) (c509_e_6 n1 ap np tp n2 aq nq tq) false c509_e_5 fun j=>S.at' ((Classical.indefiniteDescription (fun (x:Int→List Int)=>x=S.grpI) S.grp_ex).1 (↑(Int.natAbs ((1:Int),()).1):Int)) j).length∧(S.grA (c509_e_0 n1 ap np tp n2 aq nq tq).1 (c509_e_7 n1 ap np tp n2 aq nq tq) (c509_e_6 n1 ap np tp n2 aq nq tq) false c509_e_5 fun j=>S.at' ((Classical.indefiniteDescription (fun (x:Int→List Int)=>x=S.grpI) S.grp_ex).1 (↑(Int.natAbs ((1:Int),()).1):Int)) j).length≤1000000)∧0+(c509_e_10).2.length≤(c509_e_10).2.length∧(c509_e_10).2.length≤1000000)) (g9 (decide ((S.cmpR n1 np (FS tp ap) n2 nq (FS tq aq) (S.ngA (c509_e_0 n1 ap np tp n2 aq nq tq).1 (c509_e_7 n1 ap np tp n2 aq nq tq) (c509_e_6 n1 ap np tp n2 aq nq tq) false c509_e_5 fun j=>S.at' ((Classical.indefiniteDescription (fun (x:Int→List Int)=>x=S.grpI) S.grp_ex).1 (↑(Int.natAbs ((1:Int),()).1):Int)) j) (S.grA (c509_e_0 n1 ap np tp n2 aq nq tq).1 (c509_e_7 n1 ap np tp n2 aq nq tq) (c509_e_6 n1 ap np tp n2 aq nq tq) false c509_e_5 fun j=>S.at' ((Classical.indefiniteDescription (fun (x:Int→List Int)=>x=S.grpI) S.grp_ex).1 (↑(Int.natAbs ((1:Int),()).1):Int)) j).length (fun j=>S.at' (S.grA (c509_e_0 n1 ap np tp n2 aq nq tq).1 (c509_e_7 n1 ap np tp n2 aq nq tq) (c509_e_6 n1 ap np tp n2 aq nq tq) false c509_e_5 fun j=>S.at' ((Classical.indefiniteDescription (fun (x:Int→List Int)=>x=S.grpI) S.grp_ex).1 (↑(Int.natAbs ((1:Int),()).1):Int)) j) j) false c509_e_5 fun j=>S.at' ((Classical.indefiniteDescription (fun (x:Int→List Int)=>x=S.grpI) S.grp_ex).1 (↑(Int.natAbs ((1:Int),()).1):Int)) j)<0)) (fC (.tf true) (c509_e_4 mp tp mq tq) 24) (fC (.tf false) (c509_e_4 mp tp mq tq) 24)) False) (fC (.tf false) (c509_e_4 mp tp mq tq) 23)) False) False) (g9 (decide ((c509_e_2 n1 ap np tp n2 aq nq tq)∧(c509_e_8 n1 ap np tp n2 aq nq tq)=true∧(S.fE false c509_e_5 fun j=>S.at' ((Classical.indefiniteDescription (fun (x:Int→List Int)=>x=S.grpI) S.grp_ex).1 (↑(Int.natAbs ((1:Int),()).1):Int)) j)=true∧(S.fR (c509_e_0 n1 ap np tp n2 aq nq tq).1 (c509_e_7 n1 ap np tp n2 aq nq tq) (c509_e_6 n1 ap np tp n2 aq nq tq) false c509_e_5 fun j=>S.at' ((Classical.indefiniteDescription (fun (x:Int→List Int)=>x=S.grpI) S.grp_ex).1 (↑(Int.natAbs ((1:Int),()).1):Int)) j)=false)) (fC (.tf true) (c509_e_4 mp tp mq tq) 22) False))) (g9 (c509_e_9 n1 ap np tp n2 aq nq tq) (g9 (c509_e_1 n1 ap np tp n2 aq nq tq) (g9 (c509_e_3 n1 ap np tp n2 aq nq tq) (fC (.tf true) (c509_e_4 mp tp mq tq) 15) (fC (.tf false) (c509_e_4 mp tp mq tq) 15)) False) (fC (.tf false) (c509_e_4 mp tp mq tq) 14))) False)) False) False) (fC (.tf true) (c509_e_4 mp tp mq tq) 8)) False) False
theorem te509:run cond Tryz.env true (xRG cond) false 400 ⟨9,[.cd (zS Tryz.f9).body],yD 0 [.agg [.bool n1,.loose ⟨0,1,ap,0⟩ np,.bool n2,.loose ⟨1,1,aq,0⟩ nq]],[[],[(0,(false,CB mp tp)),(1,(false,CB mq tq))]],2⟩ (zq 2 [] fA fC)=
 Te509 cond fC n1 ap np mp tp n2 aq nq mq tq:=by kernel_rfl
noncomputable abbrev J509:Rt509→zQ:=fun r=> [yJ (2+1) ((N509) r)++ [(0,(false,CB mp tp)),(1,(false,CB mq tq))]]
attribute [local irreducible] Int.subNatNat in
theorem a509 {r:Rt509} (h:zX ((q509 n1 ap np mp tp n2 aq nq mq tq)) ((p509 n1 ap np mp tp n2 aq nq mq tq)) r):zn Tryz.prog 9 [.agg [.bool n1,.loose ⟨0,1,ap,0⟩ np,.bool n2,.loose ⟨1,1,aq,0⟩ nq]] [[(0,(false,CB mp tp)),(1,(false,CB mq tq))]] 2 ((V509) r) ((J509 mp tp mq tq) r) 400∧HB Tryz.prog 9:=by
 refine pX Tryz.envOk Tryz.mixed gb ((I509)) ((V509)) (J509 mp tp mq tq) (fn:=zS Tryz.f9) (n:=400) rfl (by decide) (by simp) (zV rfl) ?_ h
 · intro fA fC x hS hR h
   refine Holds.eq (te509 fA fC n1 ap np mp tp n2 aq nq mq tq) ?_
   unfold Te509
   unfold p509 at h
   refine zA h (fun c0 h=>zA h (fun c1 h=>zA h (fun c2 h=>zA h (fun c3 h=>zJ c3 (zA h (fun c4 h=>zA h (fun c5 h=>zA h (fun c6 h=>zA h (fun c7 h=> ?_) (fun c7 h=> ?_)) (fun c6 h=> ?_)) (fun c5 h=> ?_)) (fun c4 h=>zA h (fun c5 h=>zA h (fun c6 h=>zA h (fun c7 h=>zA h (fun c8 h=>zJ c5 (zJ c6 (zU hR _ h (fun n=>n) rfl rfl rfl (zR rfl) rfl (zB (zC rfl) rfl rfl (zB (zC rfl) rfl rfl zE))))) (fun c8 h=> ?_)) (fun c7 h=>zA h (fun c8 h=>zA h (fun c9 h=>zA h (fun c10 h=>zA h (fun c11 h=>zA h (fun c12 h=>zA h (fun c13 h=> ?_) (fun c13 h=> ?_)) (fun c12 h=> ?_)) (fun c11 h=> ?_)) (fun c10 h=> ?_)) (fun c9 h=> ?_)) (fun c8 h=>zA h (fun c9 h=> ?_) (fun c9 h=> ?_)))) (fun c6 h=>zA h (fun c7 h=>zJ c5 (za c6 (zU hR _ h (fun n=>n) rfl rfl rfl (zR rfl) rfl (zB (zC rfl) rfl rfl (zB (zC rfl) rfl rfl zE))))) (fun c7 h=> ?_))) (fun c5 h=> ?_)))) (fun c3 h=> ?_)) (fun c2 h=> ?_)) (fun c1 h=> ?_)) (fun c0 h=> ?_)
   all_goals first
     |exact zU hR _ h (fun n=>n) rfl rfl rfl (zR rfl) rfl (zB (zC rfl) rfl rfl (zB (zC rfl) rfl rfl zE))
     |exact zF h
end
noncomputable def k509:Con:=⟨9,[.agg [.plain (.bool),.list [.int .i64],.plain (.bool),.list [.int .i64]]],w522 (fun n1 ap np mp tp n2 aq nq mq tq=>decide ((ap+np≤mp∧np≤reachBytes)∧aq+nq≤mq∧nq≤reachBytes)),w522 (fun n1 ap np mp tp n2 aq nq mq tq=>(V509) (true)),w522 (fun n1 ap np mp tp n2 aq nq mq tq=>(N509) (true)),fun _ _=> .dead⟩
theorem s509 (n1:Bool) (ap np mp:Nat) (tp:Nat→Int) (n2:Bool) (aq nq mq:Nat) (tq:Nat→Int) (hp:(ap+np≤mp∧np≤reachBytes)∧aq+nq≤mq∧nq≤reachBytes):zX ((q509 n1 ap np mp tp n2 aq nq mq tq)) ((p509 n1 ap np mp tp n2 aq nq mq tq)) (true):=by
 obtain ⟨⟨hp1,hp2⟩,hp3,hp4⟩:=hp
 unfold reachBytes at hp2 hp4
 unfold p509
 with_reducible refine zK (by rw [yu]; exact decide_eq_true (by omega)) ?_
 with_reducible refine zK (by rw [yu]; exact decide_eq_true (by omega)) ?_
 by_cases hs:0+(np:Int)+nq≤100
 rotate_left
 · with_reducible refine zd (decide_eq_false hs) ?_
   exact zG.mpr rfl
 with_reducible refine zK (decide_eq_true hs) ?_
 with_reducible refine zK (decide_eq_true ⟨⟨hp1,by omega⟩,hp3,by omega⟩) ?_
 by_cases g1:S.fH n1 np (fun j=>tp (j+ap)) n2 nq (fun j=>tq (j+aq))=true
 rotate_left
 · have hF:S.floR n1 np (fun j=>tp (j+ap)) n2 nq (fun j=>tq (j+aq))=(false,1,[]):=by unfold S.floR; rw [if_neg g1]
   have o0:S.fE false ([]:List Int).length (fun j=>S.at' ([]:List Int) j)=true:=rfl
   have hc:S.fU false ([]:List Int).length (fun j=>S.at' ([]:List Int) j) false ([]:List Int).length (fun j=>S.at' ([]:List Int) j)=0:=by
    unfold S.fU
    rw [if_pos ⟨o0,o0⟩,ve]
   delta c509_e_6
   simp only [-eq_self,c509_e_0,c509_e_1,c509_e_2,c509_e_3,c509_e_4,c509_e_5,c509_e_6,c509_e_7,c509_e_8,c509_e_9,c509_e_10,hF]
   with_reducible refine zd (bne_self_eq_false _) ?_
   with_reducible refine zK (decide_eq_true ⟨⟨Nat.le_refl _,Nat.zero_le _⟩,Nat.le_refl _,Nat.zero_le _,o0,o0⟩) ?_
   with_reducible refine zK (decide_eq_true hc) ?_
   with_reducible refine zK rfl ?_
   with_reducible refine zK (beq_self_eq_true _) ?_
   exact zG.mpr rfl
 obtain ⟨a1,a2,a3,a4,-⟩:=vY.mp g1
 have pC:=v5 a2 a3 a4
 have la:=vy a1
 have w1:=y4 (yP a1).1
 obtain ⟨Q,hQ⟩: ∃ x,S.sv n1 (S.val np (fun j=>tp (j+ap))) / S.sv n2 (S.val nq (fun j=>tq (j+aq)))=x:=⟨_,rfl⟩
 have lQ:=(rq (v:=S.sv n1 (S.val np (fun j=>tp (j+ap)))) (w:=S.sv n2 (S.val nq (fun j=>tq (j+aq)))) (by omega)).1
 have q1:=Int.ediv_mul_le (S.sv n1 (S.val np (fun j=>tp (j+ap)))) (show S.sv n2 (S.val nq (fun j=>tq (j+aq)))≠0 by omega)
 have q2:=Int.lt_ediv_add_one_mul_self (S.sv n1 (S.val np (fun j=>tp (j+ap)))) pC
 rw [hQ] at lQ q1 q2
 have lQ':(Q.natAbs:Int)<S.pw 80:=by omega
 have hF:S.floR n1 np (fun j=>tp (j+ap)) n2 nq (fun j=>tq (j+aq))=(decide (Q<0),0,(S.fX (Q.natAbs:Int))):=by unfold S.floR; rw [if_pos g1,hQ]
 have oQ:=pH lQ'
 have o1:=wy (r:=1) (by decide) qO
 have kQ:=(yP oQ.1).1
 have k1:=(yP o1.1).1
 have hc:S.fU (decide (Q<0)) (S.fX (Q.natAbs:Int)).length (fun j=>S.at' (S.fX (Q.natAbs:Int)) j) (decide (Q<0)) (S.fX (Q.natAbs:Int)).length (fun j=>S.at' (S.fX (Q.natAbs:Int)) j)=0:=by
  unfold S.fU
  rw [if_pos ⟨oQ.1,oQ.1⟩,ve]
 have hA:S.fR (decide (Q<0)) (S.fX (Q.natAbs:Int)).length (fun j=>S.at' (S.fX (Q.natAbs:Int)) j) false (S.fX 1).length (fun j=>S.at' (S.fX 1) j)=S.fS (Q+1):=by
  unfold S.fR
  rw [oQ.2,o1.2]
 have hN:S.ngA (decide (Q<0)) (S.fX (Q.natAbs:Int)).length (fun j=>S.at' (S.fX (Q.natAbs:Int)) j) false (S.fX 1).length (fun j=>S.at' (S.fX 1) j)=decide (Q+1<0):=by
  unfold S.ngA
  rw [oQ.2,o1.2]
 have hG:S.grA (decide (Q<0)) (S.fX (Q.natAbs:Int)).length (fun j=>S.at' (S.fX (Q.natAbs:Int)) j) false (S.fX 1).length (fun j=>S.at' (S.fX 1) j)=S.fX ((Q+1).natAbs:Int):=by
  unfold S.grA
  rw [oQ.2,o1.2]
 have hc1:S.cmpR (decide (Q<0)) (S.fX (Q.natAbs:Int)).length (fun j=>S.at' (S.fX (Q.natAbs:Int)) j) false (S.fX 1).length (fun j=>S.at' (S.fX 1) j) n1 np (fun j=>tp (j+ap)) n2 nq (fun j=>tq (j+aq))≤0:=by
  unfold S.cmpR
  rw [if_pos ⟨nQ lQ',g1⟩,oQ.2,o1.2,Int.mul_one]
  unfold S.fV
  (repeat' split)<;>omega
 have hc2:S.fS (Q+1)=true→S.cmpR n1 np (fun j=>tp (j+ap)) n2 nq (fun j=>tq (j+aq)) (decide (Q+1<0)) (S.fX ((Q+1).natAbs:Int)).length (fun j=>S.at' (S.fX ((Q+1).natAbs:Int)) j) false (S.fX 1).length (fun j=>S.at' (S.fX 1) j)<0:=fun fB=>by
  have l2:=kW fB
  have o2:=pH l2
  unfold S.cmpR
  rw [if_pos ⟨g1,nQ l2⟩,o2.2,o1.2,Int.mul_one]
  rw [vZ q2]
  decide
 have hn1:((Int.natAbs 1:Nat):Int)=1:=rfl
 delta c509_e_6
 simp only [-eq_self,c509_e_0,c509_e_1,c509_e_2,c509_e_3,c509_e_4,c509_e_5,c509_e_6,c509_e_7,c509_e_8,c509_e_9,c509_e_10,hF,kw,kz,jG,hn1,hA,hN,hG]
 with_reducible refine zd (bne_self_eq_false _) ?_
 with_reducible refine zK (decide_eq_true ⟨⟨by omega,by omega⟩,by omega,by omega,oQ.1,oQ.1⟩) ?_
 with_reducible refine zK (decide_eq_true hc) ?_
 with_reducible refine zd rfl ?_
 cases fB:S.fS (Q+1)
 · with_reducible refine zd rfl ?_
   refine zK (decide_eq_true ⟨⟨⟨by omega,by omega⟩,by omega,by omega⟩,oQ.1,o1.1,rfl⟩) ?_
   exact zG.mpr rfl
 · have l3:=(yP (tn fB).1).1
   with_reducible refine zK rfl ?_
   refine zK (decide_eq_true ⟨⟨⟨by omega,by omega⟩,by omega,by omega⟩,oQ.1,o1.1,rfl⟩) ?_
   with_reducible refine zK (decide_eq_true ⟨⟨⟨by omega,by omega⟩,by omega,by omega⟩,⟨hp1,by omega⟩,hp3,by omega⟩) ?_
   with_reducible refine zK (decide_eq_true hc1) ?_
   with_reducible refine zK (decide_eq_true ⟨⟨⟨hp1,by omega⟩,hp3,by omega⟩,⟨by omega,by omega⟩,by omega,by omega⟩) ?_
   with_reducible refine zK (decide_eq_true (hc2 fB)) ?_
   exact zG.mpr rfl
theorem k509_ok:k509.ok Tryz.prog:=by
 intro x hx
 obtain ⟨⟨n1,⟨ap,np,mp,tp,_⟩,n2,⟨aq,nq,mq,tq,_⟩,_⟩,_⟩:=x
 obtain ⟨h1,h2⟩:=a509 n1 ap np mp tp n2 aq nq mq tq (s509 n1 ap np mp tp n2 aq nq mq tq (zo hx rfl))
 exact ⟨⟨400,(by decide:2+1+0≤400),h1⟩,h2⟩
theorem pre509 {x:SsI k509.ss} (hx:sQ k509.ss x) (hz:uX reachBytes k509.ss x):k509.pre (ssj k509.ss x)=true:=by
 obtain ⟨⟨b0,⟨n,t,u'⟩,b1,⟨m,t2,u2⟩,u3⟩,u4⟩:=x
 obtain ⟨⟨-,hn,-,hm,-⟩,-⟩:=hz
 exact decide_eq_true ⟨⟨Nat.le_of_eq (Nat.zero_add _),hn⟩,Nat.le_of_eq (Nat.zero_add _),hm⟩
end Go.Ev
