/-
  The um that the statement needs, 3 of 5.
-/
import Derived.Test.YtblfgknonjogfaaGreatDoorY5062
namespace Go.Ev
open Go.Proofs
open Go.RowKit
set_option linter.unusedVariables false
set_option linter.unusedSimpArgs false
set_option maxRecDepth 100000
theorem jI {L:List Int} {j:Nat}:S.at' (L++ [0]) j=S.at' L j:=by
 unfold S.at'
 by_cases h:j<L.length
 · simp [List.getElem?_append_left h]
 · by_cases h2:j=L.length
   · subst h2; simp
   · simp [List.getElem?_eq_none (show L.length≤j by omega),List.getElem?_eq_none (show (L++ [(0:Int)]).length≤j by simp; omega)]
theorem gZ {L:List Int}:S.at' L L.length=0:=by simp [S.at']
theorem px {s:Int} {j:Nat} (h:j<1):S.lit [s] 0 j=s:=by
 obtain rfl:j=0:=by omega
 rfl
theorem uW {n:Nat} {f:Nat→Int} (h:n=1):S.val n f=f 0:=by
 subst h
 simp only [S.val,S.fU]
 omega
theorem s54 (ap np mp:Nat) (tp:Nat→Int) (aq nq mq:Nat) (tq:Nat→Int) (hp:(ap+np≤mp∧aq+nq≤mq)∧(np≤900∧nq≤900)∧S.fW np (fun j=>tp (j+ap))=true∧S.fW nq (fun j=>tq (j+aq))=true∧0<nq):zY ((q54 ap np mp tp aq nq mq tq)) ((p54 ap np mp tp aq nq mq tq)) ((S.f0 ((S.val np (fun j=>tp (j+ap))) % (S.val nq (fun j=>tq (j+aq)))),S.f0 ((S.val np (fun j=>tp (j+ap))) / (S.val nq (fun j=>tq (j+aq)))))):=by
 have hp':=hp
 obtain ⟨⟨hp1,hp2⟩,⟨hp3,hp4⟩,g1,g2,hq0⟩:=hp
 have up:=yM (zi g1)
 have vp:=yV g2 hq0
 have dP:=(zp.mp g1).1
 have dQ:=(zp.mp g2).1
 have c1:ap+np≤mp∧np≤1000000∧aq+nq≤mq∧nq≤1000000∧S.fW np (fun j=>tp (j+ap))=true∧S.fW nq (fun j=>tq (j+aq))=true:=⟨hp1,by omega,hp2,by omega,g1,g2⟩
 have c2:ap+np≤mp∧np≤1000000:=⟨hp1,by omega⟩
 have hC:S.fv (S.val np (fun j=>tp (j+ap))) (S.val nq (fun j=>tq (j+aq)))<0↔(S.val np (fun j=>tp (j+ap)))<(S.val nq (fun j=>tq (j+aq))):=by
  unfold S.fv
  (repeat' split)<;>omega
 by_cases h1:(S.val np (fun j=>tp (j+ap)))<(S.val nq (fun j=>tq (j+aq)))
 · rw [Int.emod_eq_of_lt up h1,Int.ediv_eq_zero_of_lt up h1,yQ,← kM g1]
   unfold p54
   simp only [decide_eq_true c1,decide_eq_true (hC.mpr h1),decide_eq_true c2,cond_true]
   exact zG.mpr rfl
 · have h1': ¬ S.fv (S.val np (fun j=>tp (j+ap))) (S.val nq (fun j=>tq (j+aq)))<0:=fun h=>h1 (hC.mp h)
   by_cases hn:nq=1
   · subst hn
     have hv:S.val 1 (fun j=>tq (j+aq))=tq (0+aq):=uW rfl
     have q0:=dQ 0 (by omega)
     (try dsimp only at q0)
     rw [hv] at vp ⊢
     have m0:=Int.emod_nonneg (S.val np (fun j=>tp (j+ap))) (show tq (0+aq)≠0 by omega)
     have m1:=Int.emod_lt_of_pos (S.val np (fun j=>tp (j+ap))) vp
     have c3:ap+np≤mp∧np≤1000∧S.fX np (fun j=>tp (j+ap))=true∧0<tq (0+aq)∧tq (0+aq)≤1000000:=⟨hp1,by omega,zi g1,vp,by omega⟩
     have hw:IntKind.u64.wrap ((S.val np (fun j=>tp (j+ap))) % tq (0+aq))=(S.val np (fun j=>tp (j+ap))) % tq (0+aq):=by rw [IntKind.wrap_u64]; omega
     unfold p54
     simp only [decide_eq_true c1,decide_eq_false h1',decide_eq_true c2,decide_eq_true c3,hw,cond_true,cond_false]
     repeat' (first|with_reducible refine zP (fun h=> ?_) (fun h=> ?_)<;>(try simp only [SH] at h)|exact zK.mpr (by omega))
     all_goals first|(exfalso; omega)|exact zG.mpr rfl
   · have l1:=dQ (nq-1) (by omega)
     have e1:((nq:Int)-1).toNat=nq-1:=by omega
     (try dsimp only at l1)
     have ts:=nD (X:=1000000) (Y:=tq (nq-1+aq)+1) (by omega) (by omega)
     have tf:0<Int.tdiv 1000000 (tq (nq-1+aq)+1):=by
      rcases Int.lt_or_eq_of_le ts.1 with h|h
      · exact h
      · rw [← h] at ts; omega
     obtain ⟨ts0,-,ts2⟩:=ts
     have l2:1≤tq (nq-1+aq):=by
      have:=(zp.mp g2).2
      rcases this with h|h
      · omega
      · (try dsimp only at h); omega
     have ts5:Int.tdiv 1000000 (tq (nq-1+aq)+1)≤500000:=by
      rw [Int.tdiv_eq_ediv_of_nonneg (by omega)]
      have:=(Int.ediv_lt_iff_lt_mul (a:=1000000) (b:=500001) (c:=tq (nq-1+aq)+1) (by omega)).mpr (by omega)
      omega
     generalize hs:Int.tdiv 1000000 (tq (nq-1+aq)+1)=s at*
     have hv1:(S.val 1 fun j=>S.lit [s] 0 j)=s:=uW rfl
     have hkS:(S.fW 1 fun j=>S.lit [s] 0 j)=true:=zp.mpr ⟨fun j hj=>by rw [px hj]; omega,.inr (show s≠0 by omega)⟩
     have vq1:S.pw (nq-1)≤(S.val nq (fun j=>tq (j+aq))):=by
      have h:=yP (t:=(fun j=>tq (j+aq))) (i:=0) (k:=nq-1)
      rw [show nq-1+1=nq by omega,Nat.zero_add] at h
      have h':(S.val nq (fun j=>tq (j+aq)))=S.fU (fun j=>tq (j+aq)) 0 (nq-1)+S.pw (nq-1)*tq (nq-1+aq):=h
      have n0:=yI (t:=(fun j=>tq (j+aq))) (k:=nq-1) (i:=0) fun j _ h=>(dQ j (by omega)).1
      have:S.pw (nq-1)*1≤S.pw (nq-1)*tq (nq-1+aq):=Int.mul_le_mul_of_nonneg_left (by omega) (by have:=xH (k:=nq-1); omega)
      omega
     have vs1:(S.val nq (fun j=>tq (j+aq)))*1≤(S.val nq (fun j=>tq (j+aq)))*s:=Int.mul_le_mul_of_nonneg_left (by omega) (by omega)
     have us1:(S.val nq (fun j=>tq (j+aq)))*s≤(S.val np (fun j=>tp (j+ap)))*s:=Int.mul_le_mul_of_nonneg_right (by omega) (by omega)
     have pw1:S.pw 1=1000000:=rfl
     have uB:=(sL (a:=np) (b:=1) ⟨up,z5 (zi g1) (Nat.le_refl np)⟩ ⟨show 0≤s by omega,by omega⟩).2
     have vB:=(sL (a:=nq) (b:=1) ⟨by omega,z5 (zi g2) (Nat.le_refl nq)⟩ ⟨show 0≤s by omega,by omega⟩).2
     have lu:=zw uB
     have lv:=zw vB
     have lv2:=kU (k:=nq-1) (v:=(S.val nq (fun j=>tq (j+aq)))*s) (by omega)
     have hV:=zq (v:=(S.val nq (fun j=>tq (j+aq)))*s) (by omega)
     have hU:S.eD (S.f0 ((S.val np (fun j=>tp (j+ap)))*s))=(S.val np (fun j=>tp (j+ap)))*s:=uV (by omega)
     have lm:(S.f0 ((S.val nq (fun j=>tq (j+aq)))*s)).length≤(S.f0 ((S.val np (fun j=>tp (j+ap)))*s)).length:=by
      refine zw (Int.lt_of_le_of_lt us1 ?_)
      have:=z5 (zi (yE (v:=(S.val np (fun j=>tp (j+ap)))*s))) (Nat.le_refl _)
      rw [vN,hU] at this
      exact this
     have lp:S.pw ((S.f0 ((S.val nq (fun j=>tq (j+aq)))*s)).length-1)≤(S.val nq (fun j=>tq (j+aq)))*s:=by
      refine Int.not_lt.mp fun h=> ?_
      have:=zw h
      omega
     have hDk:(S.fW (S.f0 ((S.val nq (fun j=>tq (j+aq)))*s)).length fun j=>S.at' (S.f0 ((S.val nq (fun j=>tq (j+aq)))*s)) j)=true:=yE
     obtain ⟨m,hmm⟩: ∃ m,m=(S.f0 ((S.val np (fun j=>tp (j+ap)))*s)).length+1-(S.f0 ((S.val nq (fun j=>tq (j+aq)))*s)).length:=⟨_,rfl⟩
     have hRl:(S.fZ (S.f0 ((S.val np (fun j=>tp (j+ap)))*s)) 0).length=m+(S.f0 ((S.val nq (fun j=>tq (j+aq)))*s)).length:=by rw [yG]; omega
     have hRa: ∀ j,S.at' (S.fZ (S.f0 ((S.val np (fun j=>tp (j+ap)))*s)) 0) j=S.at' (S.f0 ((S.val np (fun j=>tp (j+ap)))*s)) j:=fun j=>by rw [wC]; exact jI
     have hdR: ∀ j,j<m+(S.f0 ((S.val nq (fun j=>tq (j+aq)))*s)).length→0≤S.at' (S.fZ (S.f0 ((S.val np (fun j=>tp (j+ap)))*s)) 0) j∧S.at' (S.fZ (S.f0 ((S.val np (fun j=>tp (j+ap)))*s)) 0) j<1000000:=fun j _=>by rw [hRa]; exact qB
     have hRv:S.fU (fun j=>S.at' (S.fZ (S.f0 ((S.val np (fun j=>tp (j+ap)))*s)) 0) j) 0 (m+(S.f0 ((S.val nq (fun j=>tq (j+aq)))*s)).length)=(S.val np (fun j=>tp (j+ap)))*s:=by
      rw [show (fun j=>S.at' (S.fZ (S.f0 ((S.val np (fun j=>tp (j+ap)))*s)) 0) j)=fun j=>S.at' (S.f0 ((S.val np (fun j=>tp (j+ap)))*s)) j from funext hRa]
      exact uS (by omega) (by have:=z5 (zi (yE (v:=(S.val np (fun j=>tp (j+ap)))*s))) (show (S.f0 ((S.val np (fun j=>tp (j+ap)))*s)).length≤m+(S.f0 ((S.val nq (fun j=>tq (j+aq)))*s)).length by omega); rw [vN,hU] at this; exact this)
     have hRt:S.fU (fun j=>S.at' (S.fZ (S.f0 ((S.val np (fun j=>tp (j+ap)))*s)) 0) j) m (m+(S.f0 ((S.val nq (fun j=>tq (j+aq)))*s)).length-m)<(S.val nq (fun j=>tq (j+aq)))*s:=by
      rw [show (fun j=>S.at' (S.fZ (S.f0 ((S.val np (fun j=>tp (j+ap)))*s)) 0) j)=fun j=>S.at' (S.f0 ((S.val np (fun j=>tp (j+ap)))*s)) j from funext hRa]
      rw [show m+(S.f0 ((S.val nq (fun j=>tq (j+aq)))*s)).length-m=(S.f0 ((S.val nq (fun j=>tq (j+aq)))*s)).length-1+1 by omega,yP,show m+((S.f0 ((S.val nq (fun j=>tq (j+aq)))*s)).length-1)=(S.f0 ((S.val np (fun j=>tp (j+ap)))*s)).length by omega,gZ,Int.mul_zero,Int.add_zero]
      exact Int.lt_of_lt_of_le (yu fun j _ _=>qB) lp
     have hz: ∀ j,S.at' (S.fb m fun _=>(0:Int)) j=0:=fun j=>by
      by_cases h:j<m
      · exact y9 h
      · simp [S.at',List.getElem?_eq_none (show (S.fb m fun _=>(0:Int)).length≤j by rw [zZ]; omega)]
     have hm:=s54' ap np mp tp aq nq mq tq hp' (S.f0 ((S.val nq (fun j=>tq (j+aq)))*s)) hDk s ⟨tf,by omega⟩ hV ⟨by omega,by omega⟩ m ⟨by omega,by omega⟩ m (S.fZ (S.f0 ((S.val np (fun j=>tp (j+ap)))*s)) 0) (S.fb m fun _=>0) (Nat.le_refl _) hRl zZ hdR (fun j _=>by rw [hz]; omega) hRt (by rw [hRv,Nat.sub_self]; simp only [S.fU]; rw [Int.mul_zero,Int.zero_mul,Int.add_zero])
     have c4:(ap+np≤mp∧1≤1)∧(np≤1000∧1≤1000)∧S.fW np (fun j=>tp (j+ap))=true∧(S.fW 1 fun j=>S.lit [s] 0 j)=true:=⟨⟨hp1,by omega⟩,⟨by omega,by omega⟩,g1,hkS⟩
     have c5:(aq+nq≤mq∧1≤1)∧(nq≤1000∧1≤1000)∧S.fW nq (fun j=>tq (j+aq))=true∧(S.fW 1 fun j=>S.lit [s] 0 j)=true:=⟨⟨hp2,by omega⟩,⟨by omega,by omega⟩,g2,hkS⟩
     have e5:(((S.f0 ((S.val np (fun j=>tp (j+ap)))*s)).length+1:Nat):Int)-((S.f0 ((S.val nq (fun j=>tq (j+aq)))*s)).length:Int)=(m:Int):=by omega
     clear uB vB hRl hRa hdR hRv hRt hU hV lp lm
     unfold p54
     simp only [decide_eq_true c1,decide_eq_false h1',cond_true,cond_false,e1,hs,hv1,decide_eq_true c4,decide_eq_true c5,e5,Int.toNat_natCast]
     repeat' (first|with_reducible refine zP (fun h=> ?_) (fun h=> ?_)<;>(try simp only [SH] at h)|exact zK.mpr (by omega))
     all_goals first|(exfalso; omega)|exact hm
theorem k54_ok:k54.ok Tryz.prog:=by
 intro x hx
 obtain ⟨⟨ap,np,mp,tp,_⟩,⟨aq,nq,mq,tq,_⟩,_⟩:=x
 obtain ⟨h1,h2⟩:=a54 ap np mp tp aq nq mq tq (s54 ap np mp tp aq nq mq tq (zm hx rfl))
 exact ⟨⟨400,(by decide:2+1+2≤400),h1⟩,h2⟩
noncomputable def xF3 (fR:Bool→Prop→Prop→Prop):Ext:=y2 fR [k69,k65,k69v,k65v,k60,k61,k44,k73,k55,k45,k58,k56,k59,k52,k53,k71,k74,k77,k54]
theorem kg:yT Tryz.prog (xF3 cond):=yH ⟨k69_ok,k65_ok,k69v_ok,k65v_ok,k60_ok,k61_ok,k44_ok,k73_ok,k55_ok,k45_ok,k58_ok,k56_ok,k59_ok,k52_ok,k53_ok,k71_ok,k74_ok,k77_ok,k54_ok,trivial⟩
theorem ny {L:List Int} {x:Int} (hx:0≤x∧x<1000000) (h: ∀ y ∈ L,0≤y∧y<1000000):(S.trim (S.fb (1+L.length) fun j=>bif Nat.blt j 1 then x else S.at' L (j-1+0)))=S.f0 (x+1000000*S.eD L):=by
 have e:(S.fb (1+L.length) fun j=>bif Nat.blt j 1 then x else S.at' L (j-1+0))=x::L:=by
  refine gF (by simp; omega) fun j hj=> ?_
  cases j with
  |zero=>rfl
  |succ j=>
   rw [show Nat.blt (j+1) 1=false from rfl,cond_false]
   simp [S.at']
 rw [e,xK (y6 hx h)]
 rfl
theorem iB {X V P v t:Int} (hP:0<P) (hv:0<v) (h1:v*P≤V) (h2:V<(v+1)*P) (h3:t*P≤X) (h4:X<(t+1)*P) (t0:0≤t):0≤Int.tdiv t (v+1)∧Int.tdiv t (v+1)≤X / V∧X / V≤Int.tdiv (t+1) v∧Int.tdiv (t+1) v≤t+1:=by
 rw [Int.tdiv_eq_ediv_of_nonneg t0,Int.tdiv_eq_ediv_of_nonneg (by omega:0≤t+1)]
 have hV:0<V:=by
  have:=Int.mul_pos hv hP
  omega
 have c0:0≤t / (v+1):=Int.ediv_nonneg t0 (by omega)
 have x0:0≤X:=by have:=Int.mul_nonneg t0 (show 0≤P by omega); omega
 refine ⟨c0,(Int.le_ediv_iff_mul_le hV).mpr ?_,(Int.le_ediv_iff_mul_le hv).mpr ?_,Int.ediv_le_self _ (by omega)⟩
 · have a1:t / (v+1)*(v+1)≤t:=Int.ediv_mul_le _ (by omega)
   have a2:t / (v+1)*V≤t / (v+1)*((v+1)*P):=Int.mul_le_mul_of_nonneg_left (by omega) c0
   have a3:t / (v+1)*(v+1)*P≤t*P:=Int.mul_le_mul_of_nonneg_right a1 (by omega)
   rw [Int.mul_assoc] at a3
   omega
 · have d0:0≤X / V:=Int.ediv_nonneg x0 (by omega)
   have a1:X / V*V≤X:=Int.ediv_mul_le _ (by omega)
   have a2:X / V*(v*P)≤X / V*V:=Int.mul_le_mul_of_nonneg_left h1 d0
   rw [← Int.mul_assoc] at a2
   have hh:X / V*v*P<(t+1)*P:=by omega
   have:=Int.lt_of_mul_lt_mul_right hh (by omega)
   omega
theorem lw {L:List Int} {j:Nat}:S.ext L.length (fun j=>S.at' L j) j=S.at' L j:=by
 unfold S.ext
 split
 · rfl
 · simp [S.at',List.getElem?_eq_none (by omega:L.length≤j)]
section
variable (fR:TT) (fS:KS) (fT:KR) (ap np mp:Nat) (tp:NI) (aq nq mq:Nat) (tq:NI)
noncomputable abbrev c57_0_0 (x0 x1:Nat) (x2:Int) (x4:List Int):=S.trim (S.fb (1+x1) fun j=>bif Nat.blt j 1 then tp (x2.toNat+ap) else S.at' x4 (j-1+x0))
noncomputable abbrev c57_0_1 (x0 x1:Nat) (x2:Int) (x4:List Int):=S.ext (c57_0_0 ap tp x0 x1 x2 x4).length (fun j=>S.at' (c57_0_0 ap tp x0 x1 x2 x4) j) nq*1000000+S.ext (c57_0_0 ap tp x0 x1 x2 x4).length (fun j=>S.at' (c57_0_0 ap tp x0 x1 x2 x4) j) ((nq:Int)-1).toNat
noncomputable abbrev c57_0_2 (x0 x1:Nat) (x2:Int) (x4:List Int):=S.ext (c57_0_0 ap tp x0 x1 x2 x4).length (fun j=>S.at' (c57_0_0 ap tp x0 x1 x2 x4) j) nq*1000000+S.ext (c57_0_0 ap tp x0 x1 x2 x4).length (fun j=>S.at' (c57_0_0 ap tp x0 x1 x2 x4) j) ((nq:Int)-1).toNat+1
noncomputable abbrev c57_0_3 (x0 x1:Nat) (x2:Int) (x4:List Int):=Int.tdiv ((c57_0_1 ap tp nq x0 x1 x2 x4)*1000000+S.ext (c57_0_0 ap tp x0 x1 x2 x4).length (fun j=>S.at' (c57_0_0 ap tp x0 x1 x2 x4) j) ((nq:Int)-2).toNat) (tq (((nq:Int)-1).toNat+aq)*1000000+tq (((nq:Int)-2).toNat+aq)+1)
noncomputable abbrev c57_0_4 (x0 x1:Nat) (x2:Int) (x4:List Int):=(c57_0_1 ap tp nq x0 x1 x2 x4)*1000000+S.ext (c57_0_0 ap tp x0 x1 x2 x4).length (fun j=>S.at' (c57_0_0 ap tp x0 x1 x2 x4) j) ((nq:Int)-2).toNat+1
noncomputable abbrev c57_0_5 (x0 x1:Nat) (x2:Int) (x3 x4:List Int):=([[(1,false,Blk.cols mq [Col.int .i64 tq]),(0,false,Blk.cols mp [Col.int .i64 tp]),(5,true,Blk.cols (c57_0_0 ap tp x0 x1 x2 x4).length [Col.int .i64 fun j=>S.at' (c57_0_0 ap tp x0 x1 x2 x4) j]),(2,true,Blk.cols x3.length [Col.int .i64 fun j=>S.at' x3 j])]])
noncomputable abbrev c57_1_0 (x2:Int):=S.f0 ((S.val nq fun j=>tq (j+aq))*S.val 1 fun j=>S.lit [x2] (0:Int) j)
noncomputable abbrev c57_1_1 (x2 x3:Int):=S.f0 ((S.val nq fun j=>tq (j+aq))*S.val 1 fun j=>S.lit [Int.tdiv (x2+x3+1) (2:Int)] (0:Int) j)
inductive St57 where
 |h0 (x0:Nat) (x1:Nat) (x2:Int) (x3:List Int) (x4:List Int)
 |h1 (x0:Nat) (x1:Int) (x2:Int) (x3:Int) (x4:List Int) (x5:List Int)
abbrev Rt57:=Nat×Nat×List Int×List Int
noncomputable def V57 (r:Rt57):PV:= .tup [.own 3 1 r.2.2.1.length,.loose (PA.mk 4 1 r.1 0) r.2.1]
noncomputable def N57 (r:Rt57):List Blk:= [CI r.2.2.1,CI r.2.2.2]
noncomputable def I57:St57→Hd
  | .h0 x0 x1 x2 x3 x4=>⟨hd Tryz.f101 0,[.loose ⟨0,1,ap,0⟩ np,
 .loose ⟨1,1,aq,0⟩ nq,
 .own 2 1 x3.length,
 .loose ⟨3,1,x0,0⟩ x1,.int .i64 (nq:Int),
 .int .i64 x2,.unk,.unk],[[(2,(true,CI x3)),(3,(true,CI x4))],[(0,(false,CB mp tp)),(1,(false,CB mq tq))]],4⟩
  | .h1 x0 x1 x2 x3 x4 x5=>⟨hd Tryz.f101 1,[.loose ⟨0,1,ap,0⟩ np,
 .loose ⟨1,1,aq,0⟩ nq,
 .own 2 1 x4.length,
 .loose ⟨3,1,0,0⟩ x0,
 .int .i64 (nq:Int),.int .i64 x1,.int .i64 x2,
 .int .i64 x3],[[(2,(true,CI x4)),(3,(true,CI x5))],[(0,(false,CB mp tp)),(1,(false,CB mq tq))]],4⟩
noncomputable def q57 (ap np mp:Nat) (tp:NI) (aq nq mq:Nat) (tq:NI):St57→Option (St57⊕Rt57)| .h0 x0 x1 x2 x3 x4=>bif (decide (x2≥0)) then (bif (decide ((0:Int)≤x2∧x2<(np:Int))) then (bif (decide (x2.toNat+ap<mp)) then (bif (decide (1+x1≤1000000)) then (bif (decide (x0+x1≤x4.length)) then (bif (decide (1+x1≤1+x1)) then (bif (decide ((↑((c57_0_0 ap tp x0 x1 x2 x4).length):Int)<(nq:Int))) then (bif (lim .i64 (x2-1)) then (some (.inl (.h0 0 (c57_0_0 ap tp x0 x1 x2 x4).length (x2-1) x3 (c57_0_0 ap tp x0 x1 x2 x4)))) else none) else (bif (lim .i64 ((nq:Int)-1)) then (bif (decide ((0:Int)≤(nq:Int)-1∧(nq:Int)-1<(nq:Int))) then (bif (decide (((nq:Int)-1).toNat+aq<mq)) then (bif (decide (0+(c57_0_0 ap tp x0 x1 x2 x4).length≤(c57_0_0 ap tp x0 x1 x2 x4).length∧(0:Int)≤(nq:Int))) then (bif (lim .i64 (S.ext (c57_0_0 ap tp x0 x1 x2 x4).length (fun j=>S.at' (c57_0_0 ap tp x0 x1 x2 x4) j) nq*1000000)) then (bif (decide (0+(c57_0_0 ap tp x0 x1 x2 x4).length≤(c57_0_0 ap tp x0 x1 x2 x4).length∧(0:Int)≤(nq:Int)-1)) then (bif (lim .i64 (c57_0_1 ap tp nq x0 x1 x2 x4)) then (bif (decide ((nq:Int)>1)) then (bif (lim .i64 (tq (((nq:Int)-1).toNat+aq)*1000000)) then (bif (lim .i64 ((nq:Int)-2)) then (bif (decide ((0:Int)≤(nq:Int)-2∧(nq:Int)-2<(nq:Int))) then (bif (decide (((nq:Int)-2).toNat+aq<mq)) then (bif (lim .i64 (tq (((nq:Int)-1).toNat+aq)*1000000+tq (((nq:Int)-2).toNat+aq))) then (bif (lim .i64 ((c57_0_1 ap tp nq x0 x1 x2 x4)*1000000)) then (bif (decide (0+(c57_0_0 ap tp x0 x1 x2 x4).length≤(c57_0_0 ap tp x0 x1 x2 x4).length∧(0:Int)≤(nq:Int)-2)) then (bif (lim .i64 ((c57_0_1 ap tp nq x0 x1 x2 x4)*1000000+S.ext (c57_0_0 ap tp x0 x1 x2 x4).length (fun j=>S.at' (c57_0_0 ap tp x0 x1 x2 x4) j) ((nq:Int)-2).toNat)) then (bif (lim .i64 (tq (((nq:Int)-1).toNat+aq)*1000000+tq (((nq:Int)-2).toNat+aq)+1)) then (bif (decide (tq (((nq:Int)-1).toNat+aq)*1000000+tq (((nq:Int)-2).toNat+aq)+1=0)) then none else (bif (lim .i64 (c57_0_3 ap tp aq nq tq x0 x1 x2 x4)) then (bif (lim .i64 (c57_0_4 ap tp nq x0 x1 x2 x4)) then (bif (decide (tq (((nq:Int)-1).toNat+aq)*1000000+tq (((nq:Int)-2).toNat+aq)=0)) then none else (bif (lim .i64 (Int.tdiv (c57_0_4 ap tp nq x0 x1 x2 x4) (tq (((nq:Int)-1).toNat+aq)*1000000+tq (((nq:Int)-2).toNat+aq)))) then (some (.inl (.h1 (c57_0_0 ap tp x0 x1 x2 x4).length x2 (c57_0_3 ap tp aq nq tq x0 x1 x2 x4) (Min.min (Int.tdiv (c57_0_4 ap tp nq x0 x1 x2 x4) (tq (((nq:Int)-1).toNat+aq)*1000000+tq (((nq:Int)-2).toNat+aq))) (999999:Int)) x3 (c57_0_0 ap tp x0 x1 x2 x4)))) else none)) else none) else none)) else none) else none) else none) else none) else none) else none) else none) else none) else none) else (bif (lim .i64 (tq (((nq:Int)-1).toNat+aq)+1)) then (bif (decide (tq (((nq:Int)-1).toNat+aq)+1=0)) then none else (bif (lim .i64 (Int.tdiv (c57_0_1 ap tp nq x0 x1 x2 x4) (tq (((nq:Int)-1).toNat+aq)+1))) then (bif (lim .i64 (c57_0_2 ap tp nq x0 x1 x2 x4)) then (bif (decide (tq (((nq:Int)-1).toNat+aq)=0)) then none else (bif (lim .i64 (Int.tdiv (c57_0_2 ap tp nq x0 x1 x2 x4) (tq (((nq:Int)-1).toNat+aq)))) then (some (.inl (.h1 (c57_0_0 ap tp x0 x1 x2 x4).length x2 (Int.tdiv (c57_0_1 ap tp nq x0 x1 x2 x4) (tq (((nq:Int)-1).toNat+aq)+1)) (Min.min (Int.tdiv (c57_0_2 ap tp nq x0 x1 x2 x4) (tq (((nq:Int)-1).toNat+aq))) (999999:Int)) x3 (c57_0_0 ap tp x0 x1 x2 x4)))) else none)) else none) else none)) else none)) else none) else none) else none) else none) else none) else none) else none)) else none) else none) else none) else none) else none) else (bif (decide (x3.length≤x3.length)) then (bif (decide (x3.length≤1000000)) then (some (.inr (x0,x1,S.trim (S.fb x3.length fun j=>S.at' x3 j),x4))) else none) else none)| .h1 x0 x1 x2 x3 x4 x5=>bif (decide (x2<x3)) then (bif (lim .i64 (x2+x3)) then (bif (lim .i64 (x2+x3+1)) then (bif (lim .i64 (Int.tdiv (x2+x3+1) (2:Int))) then (bif (decide ((aq+nq≤mq∧1≤1)∧(nq≤1000∧1≤1000)∧(S.fX nq fun j=>tq (j+aq))=true∧(S.fX 1 fun j=>S.lit [Int.tdiv (x2+x3+1) (2:Int)] (0:Int) j)=true)) then (bif (decide (0+(c57_1_1 aq nq tq x2 x3).length≤(c57_1_1 aq nq tq x2 x3).length∧(c57_1_1 aq nq tq x2 x3).length≤1000000∧0+x0≤x5.length∧x0≤1000000∧(S.fW (c57_1_1 aq nq tq x2 x3).length fun j=>S.at' (c57_1_1 aq nq tq x2 x3) j)=true∧(S.fW x0 fun j=>S.at' x5 j)=true)) then (bif (decide (S.fv (S.val (c57_1_1 aq nq tq x2 x3).length fun j=>S.at' (c57_1_1 aq nq tq x2 x3) j) (S.val x0 fun j=>S.at' x5 j)≤0)) then (some (.inl (.h1 x0 x1 (Int.tdiv (x2+x3+1) (2:Int)) x3 x4 x5))) else (bif (lim .i64 (Int.tdiv (x2+x3+1) (2:Int)-1)) then (some (.inl (.h1 x0 x1 x2 (Int.tdiv (x2+x3+1) (2:Int)-1) x4 x5))) else none)) else none) else none) else none) else none) else none) else (bif (decide ((0:Int)≤x1∧x1<(↑(x4.length):Int))) then (bif (decide (x1.toNat<x4.length)) then (bif (decide ((aq+nq≤mq∧1≤1)∧(nq≤1000∧1≤1000)∧(S.fX nq fun j=>tq (j+aq))=true∧(S.fX 1 fun j=>S.lit [x2] (0:Int) j)=true)) then (bif (decide ((0+x0≤x5.length∧0+(c57_1_0 aq nq tq x2).length≤(c57_1_0 aq nq tq x2).length)∧(x0≤1000∧(c57_1_0 aq nq tq x2).length≤1000)∧(S.fW x0 fun j=>S.at' x5 j)=true∧(S.fW (c57_1_0 aq nq tq x2).length fun j=>S.at' (c57_1_0 aq nq tq x2) j)=true∧(S.val (c57_1_0 aq nq tq x2).length fun j=>S.at' (c57_1_0 aq nq tq x2) j)≤S.val x0 fun j=>S.at' x5 j)) then (bif (lim .i64 (x1-1)) then (some (.inl (.h0 0 (S.f0 ((S.val x0 fun j=>S.at' x5 j)-S.val (c57_1_0 aq nq tq x2).length fun j=>S.at' (c57_1_0 aq nq tq x2) j)).length (x1-1) (S.fb x4.length fun j=>bif Nat.beq j x1.toNat then x2 else S.at' x4 j) (S.f0 ((S.val x0 fun j=>S.at' x5 j)-S.val (c57_1_0 aq nq tq x2).length fun j=>S.at' (c57_1_0 aq nq tq x2) j))))) else none) else none) else none) else none) else none)
noncomputable def p57 (ap np mp:Nat) (tp:NI) (aq nq mq:Nat) (tq:NI):Option (St57⊕Rt57):=bif (decide ((np:Int)≤3)) then (bif (decide ((nq:Int)≤3)) then (bif (decide (ap+np≤mp∧np≤3∧(S.fX np fun j=>tp (j+ap))=true)) then (bif (decide (aq+nq≤mq∧nq≤3∧(S.fX nq fun j=>tq (j+aq))=true)) then (bif (decide ((S.val nq fun j=>tq (j+aq))=0)) then none else (bif (lim .i64 (Int.tdiv (S.val np fun j=>tp (j+ap)) (S.val nq fun j=>tq (j+aq)))) then (bif (decide ((0:Int)≤Int.tdiv (S.val np fun j=>tp (j+ap)) (S.val nq fun j=>tq (j+aq))∧Int.tdiv (S.val np fun j=>tp (j+ap)) (S.val nq fun j=>tq (j+aq))≤9223372036854775807)) then (bif (decide ((0:Int)≤Int.tmod (S.val np fun j=>tp (j+ap)) (S.val nq fun j=>tq (j+aq))∧Int.tmod (S.val np fun j=>tp (j+ap)) (S.val nq fun j=>tq (j+aq))≤9223372036854775807)) then (some (.inr (0,(S.f0 (Int.tmod (S.val np fun j=>tp (j+ap)) (S.val nq fun j=>tq (j+aq)))).length,S.f0 (Int.tdiv (S.val np fun j=>tp (j+ap)) (S.val nq fun j=>tq (j+aq))),S.f0 (Int.tmod (S.val np fun j=>tp (j+ap)) (S.val nq fun j=>tq (j+aq)))))) else none) else none) else none)) else none) else none) else (bif (decide ((0:Int)≤(np:Int)∧(np:Int)≤(np:Int)∧(np:Int)≤1000000)) then (bif (lim .i64 ((np:Int)-1)) then (some (.inl (.h0 0 0 ((np:Int)-1) (S.fb np fun j=>0) []))) else none) else none)) else (bif (decide ((0:Int)≤(np:Int)∧(np:Int)≤(np:Int)∧(np:Int)≤1000000)) then (bif (lim .i64 ((np:Int)-1)) then (some (.inl (.h0 0 0 ((np:Int)-1) (S.fb np fun j=>0) []))) else none) else none)
def Te57:Prop:=fR (decide ((np:Int)≤3)) (fR (decide ((nq:Int)≤3)) (fR (decide (ap+np≤mp∧np≤3∧(S.fX np (FS tp ap))=true)) (fR (decide (aq+nq≤mq∧nq≤3∧(S.fX nq (FS tq aq))=true)) (fR (decide ((S.val nq (FS tq aq))=0)) False (fR (lim .i64 (Int.tdiv (S.val np (FS tp ap)) (S.val nq (FS tq aq)))) (fR (decide ((0:Int)≤Int.tdiv (S.val np (FS tp ap)) (S.val nq (FS tq aq))∧Int.tdiv (S.val np (FS tp ap)) (S.val nq (FS tq aq))≤9223372036854775807)) (fR (decide (ap+np≤mp∧np≤3∧(S.fX np (FS tp ap))=true)) (fR (decide (aq+nq≤mq∧nq≤3∧(S.fX nq (FS tq aq))=true)) (fR (decide ((S.val nq (FS tq aq))=0)) False (fR (decide ((0:Int)≤Int.tmod (S.val np (FS tp ap)) (S.val nq (FS tq aq))∧Int.tmod (S.val np (FS tp ap)) (S.val nq (FS tq aq))≤9223372036854775807)) (fT (.tup [.own 5 1 (S.f0 (Int.tdiv (S.val np (FS tp ap)) (S.val nq (FS tq aq)))).length,.own 9 1 (S.f0 (Int.tmod (S.val np (FS tp ap)) (S.val nq (FS tq aq)))).length]) ([[(1,false,CB mq tq),(0,false,CB mp tp),(9,true,CI (S.f0 (Int.tmod (S.val np (FS tp ap)) (S.val nq (FS tq aq))))),(5,true,CI (S.f0 (Int.tdiv (S.val np (FS tp ap)) (S.val nq (FS tq aq)))))]]) 10) False)) False) False) False) False)) False) False) (fR (decide ((0:Int)≤(np:Int)∧(np:Int)≤(np:Int)∧(np:Int)≤1000000)) (fR (lim .i64 ((np:Int)-1)) (fS (hd Tryz.f101 0) ([.loose ⟨0,1,ap,0⟩ np,.loose ⟨1,1,aq,0⟩ nq,.own 2 1 np,.nils,.int .i64 (nq:Int),.int .i64 ((np:Int)-1),.unk,.unk]) ([[(1,false,CB mq tq),(0,false,CB mp tp),(2,true,.cols np [.int .i64 fun (x:Nat)=>0])]]) 3) False) False)) (fR (decide ((0:Int)≤(np:Int)∧(np:Int)≤(np:Int)∧(np:Int)≤1000000)) (fR (lim .i64 ((np:Int)-1)) (fS (hd Tryz.f101 0) ([.loose ⟨0,1,ap,0⟩ np,.loose ⟨1,1,aq,0⟩ nq,.own 2 1 np,.nils,.int .i64 (nq:Int),.int .i64 ((np:Int)-1),.unk,.unk]) ([[(1,false,CB mq tq),(0,false,CB mp tp),(2,true,.cols np [.int .i64 fun (x:Nat)=>0])]]) 3) False) False)
theorem te57:run fR Tryz.env true (xG1 fR) true 400 ⟨101,[.cd (zU Tryz.f101).body],z8 0 [.loose ⟨0,1,ap,0⟩ np,.loose ⟨1,1,aq,0⟩ nq],[[],[(0,(false,CB mp tp)),(1,(false,CB mq tq))]],2⟩ (zr 2 [0,1,6,7,8,9,12,13] fS fT)=
 Te57 fR fS fT ap np mp tp aq nq mq tq:=by kernel_rfl
noncomputable abbrev u57_0_0 (x0 x1:Nat) (x2:Int) (x4:List Int):=S.trim (S.fb (1+x1) fun j=>bif Nat.blt j 1 then tp (x2.toNat+ap) else S.at' x4 (j-1+x0))
noncomputable abbrev u57_0_1:=tq (((nq:Int)-(1:Int)).toNat+aq)*(1000000:Int)+tq (((nq:Int)-(2:Int)).toNat+aq)
def T57_0 (x0 x1:Nat) (x2:Int) (x3 x4:List Int):Prop:=fR (decide (x2≥0)) (fR (decide ((0:Int)≤x2∧x2<(np:Int))) (fR (decide (x2.toNat+ap<mp)) (fR (decide (1+x1≤1000000)) (fR true (fR (decide (x0+x1≤x4.length)) (fR (decide (1+x1≤1+x1)) (fR (decide (1+x1≤1000000)) (fR (decide ((↑((c57_0_0 ap tp x0 x1 x2 x4).length):Int)<(nq:Int))) (fR (lim .i64 (x2-1)) (fS (hd Tryz.f101 0) ([.loose ⟨0,1,ap,0⟩ np,.loose ⟨1,1,aq,0⟩ nq,.own 2 1 x3.length,.own 5 1 (c57_0_0 ap tp x0 x1 x2 x4).length,.int .i64 (nq:Int),.int .i64 (x2-1),.unk,.unk]) (c57_0_5 ap mp tp mq tq x0 x1 x2 x3 x4) 7) False) (fR (lim .i64 ((nq:Int)-1)) (fR (decide ((0:Int)≤(nq:Int)-1∧(nq:Int)-1<(nq:Int))) (fR (decide (((nq:Int)-1).toNat+aq<mq)) (fR (decide (0+(c57_0_0 ap tp x0 x1 x2 x4).length≤(c57_0_0 ap tp x0 x1 x2 x4).length∧(0:Int)≤(nq:Int))) (fR (lim .i64 (S.ext (c57_0_0 ap tp x0 x1 x2 x4).length (fun j=>S.at' (c57_0_0 ap tp x0 x1 x2 x4) j) nq*1000000)) (fR (lim .i64 ((nq:Int)-1)) (fR (decide (0+(c57_0_0 ap tp x0 x1 x2 x4).length≤(c57_0_0 ap tp x0 x1 x2 x4).length∧(0:Int)≤(nq:Int)-1)) (fR (lim .i64 (c57_0_1 ap tp nq x0 x1 x2 x4)) (fR (decide ((nq:Int)>1)) (fR (lim .i64 (tq (((nq:Int)-1).toNat+aq)*1000000)) (fR (lim .i64 ((nq:Int)-2)) (fR (decide ((0:Int)≤(nq:Int)-2∧(nq:Int)-2<(nq:Int))) (fR (decide (((nq:Int)-2).toNat+aq<mq)) (fR (lim .i64 (u57_0_1 aq nq tq)) (fR (lim .i64 ((c57_0_1 ap tp nq x0 x1 x2 x4)*1000000)) (fR (lim .i64 ((nq:Int)-2)) (fR (decide (0+(c57_0_0 ap tp x0 x1 x2 x4).length≤(c57_0_0 ap tp x0 x1 x2 x4).length∧(0:Int)≤(nq:Int)-2)) (fR (lim .i64 ((c57_0_1 ap tp nq x0 x1 x2 x4)*1000000+S.ext (c57_0_0 ap tp x0 x1 x2 x4).length (fun j=>S.at' (c57_0_0 ap tp x0 x1 x2 x4) j) ((nq:Int)-2).toNat)) (fR (lim .i64 (tq (((nq:Int)-1).toNat+aq)*1000000+tq (((nq:Int)-2).toNat+aq)+1)) (fR (decide (tq (((nq:Int)-1).toNat+aq)*1000000+tq (((nq:Int)-2).toNat+aq)+1=0)) False (fR (lim .i64 (c57_0_3 ap tp aq nq tq x0 x1 x2 x4)) (fR (lim .i64 (c57_0_4 ap tp nq x0 x1 x2 x4)) (fR (decide (tq (((nq:Int)-1).toNat+aq)*1000000+tq (((nq:Int)-2).toNat+aq)=0)) False (fR (lim .i64 (Int.tdiv (c57_0_4 ap tp nq x0 x1 x2 x4) (u57_0_1 aq nq tq))) (fS (hd Tryz.f101 1) ([.loose ⟨0,1,ap,0⟩ np,.loose ⟨1,1,aq,0⟩ nq,.own 2 1 x3.length,.own 5 1 (c57_0_0 ap tp x0 x1 x2 x4).length,.int .i64 (nq:Int),.int .i64 x2,.int .i64 (c57_0_3 ap tp aq nq tq x0 x1 x2 x4),.int .i64 (Min.min (Int.tdiv ((S.ext (u57_0_0 ap tp x0 x1 x2 x4).length (fun j=>S.at' (u57_0_0 ap tp x0 x1 x2 x4) j) nq*1000000+S.ext (u57_0_0 ap tp x0 x1 x2 x4).length (fun j=>S.at' (u57_0_0 ap tp x0 x1 x2 x4) j) ((nq:Int)-1).toNat)*1000000+S.ext (c57_0_0 ap tp x0 x1 x2 x4).length (fun j=>S.at' (c57_0_0 ap tp x0 x1 x2 x4) j) ((nq:Int)-2).toNat+1) (u57_0_1 aq nq tq)) (999999:Int))]) (c57_0_5 ap mp tp mq tq x0 x1 x2 x3 x4) 10) False)) False) False)) False) False) False) False) False) False) False) False) False) False) (fR (lim .i64 (tq (((nq:Int)-1).toNat+aq)+1)) (fR (decide (tq (((nq:Int)-1).toNat+aq)+1=0)) False (fR (lim .i64 (Int.tdiv (c57_0_1 ap tp nq x0 x1 x2 x4) (tq (((nq:Int)-1).toNat+aq)+1))) (fR (lim .i64 (c57_0_2 ap tp nq x0 x1 x2 x4)) (fR (decide (tq (((nq:Int)-1).toNat+aq)=0)) False (fR (lim .i64 (Int.tdiv (c57_0_2 ap tp nq x0 x1 x2 x4) (tq (((nq:Int)-1).toNat+aq)))) (fS (hd Tryz.f101 1) ([.loose ⟨0,1,ap,0⟩ np,.loose ⟨1,1,aq,0⟩ nq,.own 2 1 x3.length,.own 5 1 (c57_0_0 ap tp x0 x1 x2 x4).length,.int .i64 (nq:Int),.int .i64 x2,.int .i64 (Int.tdiv (c57_0_1 ap tp nq x0 x1 x2 x4) (tq (((nq:Int)-1).toNat+aq)+1)),.int .i64 (Min.min (Int.tdiv (c57_0_2 ap tp nq x0 x1 x2 x4) (tq (((nq:Int)-1).toNat+aq))) (999999:Int))]) (c57_0_5 ap mp tp mq tq x0 x1 x2 x3 x4) 9) False)) False) False)) False)) False) False) False) False) False) False) False) False)) False) False) False) False) False) False) False) (fR (decide (x3.length≤x3.length)) (fR (decide (x3.length≤1000000)) (fT (.tup [.own 2 1 (S.trim (S.fb x3.length fun j=>S.at' x3 j)).length,.loose ⟨3,1,x0,0⟩ x1]) ([[(1,false,CB mq tq),(0,false,CB mp tp),(3,true,CI x4),(2,true,CI (S.trim (S.fb x3.length fun j=>S.at' x3 j)))]]) 5) False) False)
theorem t57_0 (x0 x1:Nat) (x2:Int) (x3 x4:List Int):run fR Tryz.env true (xG1 fR) true 400 ⟨101,hd Tryz.f101 0,yd [0,1,6,7,8,9,12,13] [.loose ⟨0,1,ap,0⟩ np,
 .loose ⟨1,1,aq,0⟩ nq,
 .own 2 1 x3.length,
 .loose ⟨3,1,x0,0⟩ x1,.int .i64 (nq:Int),
 .int .i64 x2,.unk,.unk],[[(2,(true,CI x3)),(3,(true,CI x4))],[(0,(false,CB mp tp)),(1,(false,CB mq tq))]],4⟩ (zr 2 [0,1,6,7,8,9,12,13] fS fT)=
  T57_0 fR fS fT ap np mp tp aq nq mq tq x0 x1 x2 x3 x4:=by kernel_rfl
def T57_1 (x0:Nat) (x1 x2 x3:Int) (x4 x5:List Int):Prop:=fR (decide (x2<x3)) (fR (lim .i64 (x2+x3)) (fR (lim .i64 (x2+x3+1)) (fR false False (fR (lim .i64 (Int.tdiv (x2+x3+1) (2:Int))) (fR (decide ((aq+nq≤mq∧1≤1)∧(nq≤1000∧1≤1000)∧(S.fX nq (FS tq aq))=true∧(S.fX 1 fun j=>S.lit [Int.tdiv (x2+x3+1) (2:Int)] (0:Int) j)=true)) (fR (decide (0+(c57_1_1 aq nq tq x2 x3).length≤(c57_1_1 aq nq tq x2 x3).length∧(c57_1_1 aq nq tq x2 x3).length≤1000000∧0+x0≤x5.length∧x0≤1000000∧(S.fW (c57_1_1 aq nq tq x2 x3).length fun j=>S.at' (c57_1_1 aq nq tq x2 x3) j)=true∧(S.fW x0 fun j=>S.at' x5 j)=true)) (fR (decide (S.fv (S.val (c57_1_1 aq nq tq x2 x3).length fun j=>S.at' (c57_1_1 aq nq tq x2 x3) j) (S.val x0 fun j=>S.at' x5 j)≤0)) (fS (hd Tryz.f101 1) ([.loose ⟨0,1,ap,0⟩ np,.loose ⟨1,1,aq,0⟩ nq,.own 2 1 x4.length,.loose ⟨3,1,0,0⟩ x0,.int .i64 (nq:Int),.int .i64 x1,.int .i64 (Int.tdiv (x2+x3+1) (2:Int)),.int .i64 x3]) ([[(1,false,CB mq tq),(0,false,CB mp tp),(3,true,CI x5),(2,true,CI x4)]]) 8) (fR (lim .i64 (Int.tdiv (x2+x3+1) (2:Int)-1)) (fS (hd Tryz.f101 1) ([.loose ⟨0,1,ap,0⟩ np,.loose ⟨1,1,aq,0⟩ nq,.own 2 1 x4.length,.loose ⟨3,1,0,0⟩ x0,.int .i64 (nq:Int),.int .i64 x1,.int .i64 x2,.int .i64 (Int.tdiv (x2+x3+1) (2:Int)-1)]) ([[(1,false,CB mq tq),(0,false,CB mp tp),(3,true,CI x5),(2,true,CI x4)]]) 8) False)) False) False) False)) False) False) (fR (decide ((0:Int)≤x1∧x1<(↑(x4.length):Int))) (fR (decide (x1.toNat<x4.length)) (fR (decide ((aq+nq≤mq∧1≤1)∧(nq≤1000∧1≤1000)∧(S.fX nq (FS tq aq))=true∧(S.fX 1 fun j=>S.lit [x2] (0:Int) j)=true)) (fR (decide ((0+x0≤x5.length∧0+(c57_1_0 aq nq tq x2).length≤(c57_1_0 aq nq tq x2).length)∧(x0≤1000∧(c57_1_0 aq nq tq x2).length≤1000)∧(S.fW x0 fun j=>S.at' x5 j)=true∧(S.fW (c57_1_0 aq nq tq x2).length fun j=>S.at' (c57_1_0 aq nq tq x2) j)=true∧(S.val (c57_1_0 aq nq tq x2).length fun j=>S.at' (c57_1_0 aq nq tq x2) j)≤S.val x0 fun j=>S.at' x5 j)) (fR (lim .i64 (x1-1)) (fS (hd Tryz.f101 0) ([.loose ⟨0,1,ap,0⟩ np,.loose ⟨1,1,aq,0⟩ nq,.own 2 1 x4.length,.own 8 1 (S.f0 ((S.val x0 fun j=>S.at' x5 j)-S.val (c57_1_0 aq nq tq x2).length fun j=>S.at' (c57_1_0 aq nq tq x2) j)).length,.int .i64 (nq:Int),.int .i64 (x1-1),.int .i64 x2,.int .i64 x3]) ([[(1,false,CB mq tq),(0,false,CB mp tp),(8,true,CI (S.f0 ((S.val x0 fun j=>S.at' x5 j)-S.val (c57_1_0 aq nq tq x2).length fun j=>S.at' (c57_1_0 aq nq tq x2) j))),(2,true,.cols x4.length [.int .i64 fun j=>bif Nat.beq j x1.toNat then x2 else S.at' x4 j])]]) 9) False) False) False) False) False)
theorem t57_1 (x0:Nat) (x1 x2 x3:Int) (x4 x5:List Int):run fR Tryz.env true (xG1 fR) true 400 ⟨101,hd Tryz.f101 1,yd [0,1,6,7,8,9,12,13] [.loose ⟨0,1,ap,0⟩ np,
 .loose ⟨1,1,aq,0⟩ nq,
 .own 2 1 x4.length,
 .loose ⟨3,1,0,0⟩ x0,
 .int .i64 (nq:Int),.int .i64 x1,.int .i64 x2,
 .int .i64 x3],[[(2,(true,CI x4)),(3,(true,CI x5))],[(0,(false,CB mp tp)),(1,(false,CB mq tq))]],4⟩ (zr 2 [0,1,6,7,8,9,12,13] fS fT)=
  T57_1 fR fS ap np mp tp aq nq mq tq x0 x1 x2 x3 x4 x5:=by kernel_rfl
noncomputable abbrev J57:Rt57→zS:=fun r=> [yC (2+1) ((N57) r)++ [(0,(false,CB mp tp)),(1,(false,CB mq tq))]]
attribute [local irreducible] Int.subNatNat in
theorem a57 {r:Rt57} (h:zY ((q57 ap np mp tp aq nq mq tq)) ((p57 ap np mp tp aq nq mq tq)) r):zn Tryz.prog 101 [.loose ⟨0,1,ap,0⟩ np,.loose ⟨1,1,aq,0⟩ nq] [[(0,(false,CB mp tp)),(1,(false,CB mq tq))]] 2 ((V57) r) ((J57 mp tp mq tq) r) 400∧HB Tryz.prog 101:=by
 refine zf Tryz.envOk Tryz.mixed io ((I57 ap np mp tp aq nq mq tq)) ((V57)) (J57 mp tp mq tq) (fn:=zU Tryz.f101) (ts:= [0,1,6,7,8,9,12,13]) (n:=400) rfl (by decide) (by simp) (zW rfl) ?_ ?_ ?_ h
 · intro s; cases s<;>exact ⟨yo _ _,by simp [I57],zW rfl,Nat.le_of_ble_eq_true rfl⟩
 · intro fS fT x hS hR h
   refine Holds.eq (te57 cond fS fT ap np mp tp aq nq mq tq) ?_
   unfold Te57
   unfold p57 at h
   refine zA h (fun c0 h=>zA h (fun c1 h=>zA h (fun c2 h=>zA h (fun c3 h=>zA h (fun c4 h=> ?_) (fun c4 h=>zA h (fun c5 h=>zA h (fun c6 h=>zJ c2 (zJ c3 (zd c4 (zA h (fun c7 h=>zV hR _ h (fun n=>bif Nat.beq n 3 then 5 else bif Nat.beq n 4 then 9 else n) rfl rfl rfl (zk ⟨(zX (zD rfl) rfl rfl),(yN (zD rfl) rfl rfl rfl),trivial⟩) rfl (zL (zD rfl) rfl (Nat.le_of_eq rfl) (zN (fun _ _=>rfl) zM) (zL (zD rfl) rfl (Nat.le_of_eq rfl) (zN (fun _ _=>rfl) zM) (zB (zC rfl) rfl rfl (zB (zC rfl) rfl rfl zE))))) (fun c7 h=> ?_))))) (fun c6 h=> ?_)) (fun c5 h=> ?_))) (fun c3 h=> ?_)) (fun c2 h=> ?_)) (fun c1 h=>zA h (fun c2 h=>zA h (fun c3 h=> ?_) (fun c3 h=> ?_)) (fun c2 h=> ?_))) (fun c0 h=>zA h (fun c1 h=>zA h (fun c2 h=> ?_) (fun c2 h=> ?_)) (fun c1 h=> ?_))
   all_goals first
     |exact zF h
     |exact ze hS _ h (fun n=>bif Nat.beq n 2 then 2 else bif Nat.beq n 3 then 399 else n) rfl rfl rfl ⟨(zQ (zC rfl) rfl rfl rfl),⟨(zQ (zC rfl) rfl rfl rfl),⟨(zX (zD rfl) rfl zZ),⟨(vx rfl),⟨(zI rfl),⟨(zI rfl),⟨(zh _),⟨(zh _),trivial⟩⟩⟩⟩⟩⟩⟩⟩ rfl (zL (zD rfl) rfl (Nat.le_of_eq zZ) (zN (fun _ hj=>z4 (fun (t:Int)=>t) hj) zM) (zT (zD rfl) (za rfl) (zB (zC rfl) rfl rfl (zB (zC rfl) rfl rfl zE))))
 · intro fS fT x hS hR s h
   cases s with
   | h0 x0 x1 x2 x3 x4=>
    refine Holds.eq (t57_0 cond fS fT ap np mp tp aq nq mq tq x0 x1 x2 x3 x4) ?_
    unfold T57_0
    rw [q57] at h
    refine zA h (fun c0 h=>zA h (fun c1 h=>zA h (fun c2 h=>zA h (fun c3 h=>zJ rfl (zA h (fun c4 h=>zA h (fun c5 h=>zJ c3 (zA h (fun c6 h=>zA h (fun c7 h=>ze hS _ h (fun n=>bif Nat.beq n 2 then 2 else bif Nat.beq n 3 then 5 else n) rfl rfl rfl ⟨(zQ (zC rfl) rfl rfl rfl),⟨(zQ (zC rfl) rfl rfl rfl),⟨(zX (zD rfl) rfl rfl),⟨(yN (zD rfl) rfl rfl rfl),⟨(zI rfl),⟨(zI rfl),⟨(zh _),⟨(zh _),trivial⟩⟩⟩⟩⟩⟩⟩⟩ rfl (zL (zD rfl) rfl (Nat.le_of_eq rfl) (zN (fun _ _=>rfl) zM) (zL (zD rfl) rfl (Nat.le_of_eq rfl) (zN (fun _ _=>rfl) zM) (zB (zC rfl) rfl rfl (zB (zC rfl) rfl rfl zE))))) (fun c7 h=> ?_)) (fun c6 h=>zA h (fun c7 h=>zA h (fun c8 h=>zA h (fun c9 h=>zA h (fun c10 h=>zA h (fun c11 h=>zJ c7 (zA h (fun c12 h=>zA h (fun c13 h=>zA h (fun c14 h=>zA h (fun c15 h=>zA h (fun c16 h=>zA h (fun c17 h=>zA h (fun c18 h=>zA h (fun c19 h=>zA h (fun c20 h=>zJ c16 (zA h (fun c21 h=>zA h (fun c22 h=>zA h (fun c23 h=>zA h (fun c24 h=> ?_) (fun c24 h=>zA h (fun c25 h=>zA h (fun c26 h=>zA h (fun c27 h=> ?_) (fun c27 h=>zA h (fun c28 h=> ?_) (fun c28 h=> ?_))) (fun c26 h=> ?_)) (fun c25 h=> ?_))) (fun c23 h=> ?_)) (fun c22 h=> ?_)) (fun c21 h=> ?_))) (fun c20 h=> ?_)) (fun c19 h=> ?_)) (fun c18 h=> ?_)) (fun c17 h=> ?_)) (fun c16 h=> ?_)) (fun c15 h=> ?_)) (fun c14 h=>zA h (fun c15 h=>zA h (fun c16 h=> ?_) (fun c16 h=>zA h (fun c17 h=>zA h (fun c18 h=>zA h (fun c19 h=> ?_) (fun c19 h=>zA h (fun c20 h=> ?_) (fun c20 h=> ?_))) (fun c18 h=> ?_)) (fun c17 h=> ?_))) (fun c15 h=> ?_))) (fun c13 h=> ?_)) (fun c12 h=> ?_))) (fun c11 h=> ?_)) (fun c10 h=> ?_)) (fun c9 h=> ?_)) (fun c8 h=> ?_)) (fun c7 h=> ?_)))) (fun c5 h=> ?_)) (fun c4 h=> ?_))) (fun c3 h=> ?_)) (fun c2 h=> ?_)) (fun c1 h=> ?_)) (fun c0 h=>zA h (fun c1 h=>zA h (fun c2 h=>zV hR _ h (fun n=>bif Nat.beq n 3 then 2 else bif Nat.beq n 4 then 3 else n) rfl rfl rfl (zk ⟨(zX (zD rfl) rfl rfl),(zQ (zD rfl) rfl rfl rfl),trivial⟩) rfl (zL (zD rfl) rfl (Nat.le_of_eq rfl) (zN (fun _ _=>rfl) zM) (zL (zD rfl) rfl (Nat.le_of_eq rfl) (zN (fun _ _=>rfl) zM) (zB (zC rfl) rfl rfl (zB (zC rfl) rfl rfl zE))))) (fun c2 h=> ?_)) (fun c1 h=> ?_))
    all_goals first
      |exact zF h
      |exact ze hS _ h (fun n=>bif Nat.beq n 2 then 2 else bif Nat.beq n 3 then 5 else n) rfl rfl rfl ⟨(zQ (zC rfl) rfl rfl rfl),⟨(zQ (zC rfl) rfl rfl rfl),⟨(zX (zD rfl) rfl rfl),⟨(yN (zD rfl) rfl rfl rfl),⟨(zI rfl),⟨(zI rfl),⟨(zI rfl),⟨(zI rfl),trivial⟩⟩⟩⟩⟩⟩⟩⟩ rfl (zL (zD rfl) rfl (Nat.le_of_eq rfl) (zN (fun _ _=>rfl) zM) (zL (zD rfl) rfl (Nat.le_of_eq rfl) (zN (fun _ _=>rfl) zM) (zB (zC rfl) rfl rfl (zB (zC rfl) rfl rfl zE))))
   | h1 x0 x1 x2 x3 x4 x5=>
    refine Holds.eq (t57_1 cond fS fT ap np mp tp aq nq mq tq x0 x1 x2 x3 x4 x5) ?_
    unfold T57_1
    rw [q57] at h
    refine zA h (fun c0 h=>zA h (fun c1 h=>zA h (fun c2 h=>zd rfl (zA h (fun c3 h=>zA h (fun c4 h=>zA h (fun c5 h=>zA h (fun c6 h=> ?_) (fun c6 h=>zA h (fun c7 h=> ?_) (fun c7 h=> ?_))) (fun c5 h=> ?_)) (fun c4 h=> ?_)) (fun c3 h=> ?_))) (fun c2 h=> ?_)) (fun c1 h=> ?_)) (fun c0 h=>zA h (fun c1 h=>zA h (fun c2 h=>zA h (fun c3 h=>zA h (fun c4 h=>zA h (fun c5 h=>ze hS _ h (fun n=>bif Nat.beq n 2 then 2 else bif Nat.beq n 3 then 8 else n) rfl rfl rfl ⟨(zQ (zC rfl) rfl rfl rfl),⟨(zQ (zC rfl) rfl rfl rfl),⟨(zX (zD rfl) rfl zZ),⟨(yN (zD rfl) rfl rfl rfl),⟨(zI rfl),⟨(zI rfl),⟨(zh _),⟨(zh _),trivial⟩⟩⟩⟩⟩⟩⟩⟩ rfl (zL (zD rfl) rfl (Nat.le_of_eq zZ) (zN (fun _ hj=>z4 (fun (t:Int)=>t) hj) zM) (zL (zD rfl) rfl (Nat.le_of_eq rfl) (zN (fun _ _=>rfl) zM) (zB (zC rfl) rfl rfl (zB (zC rfl) rfl rfl zE))))) (fun c5 h=> ?_)) (fun c4 h=> ?_)) (fun c3 h=> ?_)) (fun c2 h=> ?_)) (fun c1 h=> ?_))
    all_goals first
      |exact zF h
      |exact ze hS _ h (fun n=>bif Nat.beq n 2 then 2 else bif Nat.beq n 3 then 3 else n) rfl rfl rfl ⟨(zQ (zC rfl) rfl rfl rfl),⟨(zQ (zC rfl) rfl rfl rfl),⟨(zX (zD rfl) rfl rfl),⟨(zQ (zD rfl) rfl rfl rfl),⟨(zI rfl),⟨(zI rfl),⟨(zI rfl),⟨(zI rfl),trivial⟩⟩⟩⟩⟩⟩⟩⟩ rfl (zL (zD rfl) rfl (Nat.le_of_eq rfl) (zN (fun _ _=>rfl) zM) (zL (zD rfl) rfl (Nat.le_of_eq rfl) (zN (fun _ _=>rfl) zM) (zB (zC rfl) rfl rfl (zB (zC rfl) rfl rfl zE))))
end
noncomputable def k57:Con:=⟨101,[.one (.list [.int .i64]),.one (.list [.int .i64])],w60 (fun ap np mp tp aq nq mq tq=>decide ((ap+np≤mp∧aq+nq≤mq)∧(np≤900∧nq≤900)∧S.fW np (FS tp ap)=true∧S.fW nq (FS tq aq)=true∧0<nq)),w60 (fun ap np mp tp aq nq mq tq=>(V57) (0,(S.f0 ((S.val np (FS tp ap)) % (S.val nq (FS tq aq)))).length,S.f0 ((S.val np (FS tp ap)) / (S.val nq (FS tq aq))),S.f0 ((S.val np (FS tp ap)) % (S.val nq (FS tq aq))))),w60 (fun ap np mp tp aq nq mq tq=>(N57) (0,(S.f0 ((S.val np (FS tp ap)) % (S.val nq (FS tq aq)))).length,S.f0 ((S.val np (FS tp ap)) / (S.val nq (FS tq aq))),S.f0 ((S.val np (FS tp ap)) % (S.val nq (FS tq aq))))),fun _ _=> .dead⟩
theorem s57i (ap np mp:Nat) (tp:Nat→Int) (aq nq mq:Nat) (tq:Nat→Int) (hp:(ap+np≤mp∧aq+nq≤mq)∧(np≤900∧nq≤900)∧S.fW np (fun j=>tp (j+ap))=true∧S.fW nq (fun j=>tq (j+aq))=true∧0<nq) (X:Int) (hX:0≤X∧X<1000000*(S.val nq (fun j=>tq (j+aq)))) (i:Int) (Q:List Int) (res:Rt57) (hC:Comes (q57 ap np mp tp aq nq mq tq) (.h1 (S.f0 X).length i (X / (S.val nq (fun j=>tq (j+aq)))) (X / (S.val nq (fun j=>tq (j+aq)))) Q (S.f0 X)) res): ∀ (n:Nat) (a c:Int),(c-a).toNat≤n→0≤a→a≤X / (S.val nq (fun j=>tq (j+aq)))→X / (S.val nq (fun j=>tq (j+aq)))≤c→c≤999999→Comes (q57 ap np mp tp aq nq mq tq) (.h1 (S.f0 X).length i a c Q (S.f0 X)) res:=by
 obtain ⟨⟨hp1,hp2⟩,⟨hp3,hp4⟩,g1,g2,hq0⟩:=hp
 have vp:=yV g2 hq0
 have vl:=z5 (zi g2) (Nat.le_refl nq)
 intro n
 induction n with
 |zero=>
  intro a c hn h0 ha hc h9
  obtain rfl:a=X / (S.val nq (fun j=>tq (j+aq))):=by omega
  obtain rfl:c=X / (S.val nq (fun j=>tq (j+aq))):=by omega
  exact hC
 | succ n ih=>
  intro a c hn h0 ha hc h9
  by_cases hac:a<c
  · have n1:Int.tdiv (a+c+1) 2=(a+c+1) / 2:=Int.tdiv_eq_ediv_of_nonneg (by omega)
    obtain ⟨m,hm⟩: ∃ m,m=(a+c+1) / 2:=⟨_,rfl⟩
    have i1:=ih m c (by omega) (by omega)
    have i2:=ih a (m-1) (by omega) (by omega)
    have hlit:(S.val 1 fun j=>S.lit [m] 0 j)=m:=uW rfl
    have hkD:(S.fX 1 fun j=>S.lit [m] 0 j)=true:=yL.mpr fun j hj=>by rw [px hj]; omega
    have c1:(aq+nq≤mq∧1≤1)∧(nq≤1000∧1≤1000)∧(S.fX nq fun j=>tq (j+aq))=true∧(S.fX 1 fun j=>S.lit [m] 0 j)=true:=⟨⟨hp2,Nat.le_refl _⟩,⟨by omega,by decide⟩,zi g2,hkD⟩
    have w0:0≤(S.val nq (fun j=>tq (j+aq)))*m:=Int.mul_nonneg (by omega) (by omega)
    have hv:=zq w0
    have hv2:=zq hX.1
    have l1:=zw (v:=(S.val nq (fun j=>tq (j+aq)))*m) (n:=nq+1) (by
     have h1:=(sL (a:=nq) (b:=1) ⟨by omega,vl⟩ (show 0≤m∧m<S.pw 1 from ⟨by omega,by show m<1000000; omega⟩)).2
     exact h1)
    have l2:=zw (v:=X) (n:=nq+1) (by have:S.pw (nq+1)=1000000*S.pw nq:=rfl; omega)
    have c2:0+(S.f0 ((S.val nq (fun j=>tq (j+aq)))*m)).length≤(S.f0 ((S.val nq (fun j=>tq (j+aq)))*m)).length∧(S.f0 ((S.val nq (fun j=>tq (j+aq)))*m)).length≤1000000∧0+(S.f0 X).length≤(S.f0 X).length∧(S.f0 X).length≤1000000∧(S.fW (S.f0 ((S.val nq (fun j=>tq (j+aq)))*m)).length fun j=>S.at' (S.f0 ((S.val nq (fun j=>tq (j+aq)))*m)) j)=true∧(S.fW (S.f0 X).length fun j=>S.at' (S.f0 X) j)=true:=⟨by omega,by omega,by omega,by omega,yE,yE⟩
    have hle:S.fv ((S.val nq (fun j=>tq (j+aq)))*m) X≤0↔m≤X / (S.val nq (fun j=>tq (j+aq))):=by
     rw [Int.le_ediv_iff_mul_le vp,Int.mul_comm m]
     unfold S.fv
     (repeat' split)<;>omega
    apply Comes.of
    show zY _ _ _
    rw [q57]
    simp only [c57_1_0,c57_1_1,n1,← hm,hlit,decide_eq_true c1,cond_true,decide_eq_true c2,hv,hv2]
    by_cases hd:m≤X / (S.val nq (fun j=>tq (j+aq)))
    · have i1:=i1 hd hc h9
      simp only [decide_eq_true (hle.mpr hd),cond_true]
      repeat' (first|with_reducible refine zP (fun h=> ?_) (fun h=> ?_)<;>(try simp only [SH] at h)|exact zK.mpr (by omega))
      all_goals first|(exfalso; omega)|exact i1
    · have i2:=i2 ha (by omega) (by omega)
      simp only [decide_eq_false (fun h=>hd (hle.mp h)),cond_false]
      repeat' (first|with_reducible refine zP (fun h=> ?_) (fun h=> ?_)<;>(try simp only [SH] at h)|exact zK.mpr (by omega))
      all_goals first|(exfalso; omega)|exact i2
  · obtain rfl:a=X / (S.val nq (fun j=>tq (j+aq))):=by omega
    obtain rfl:c=X / (S.val nq (fun j=>tq (j+aq))):=by omega
    exact hC
theorem s57' (ap np mp:Nat) (tp:Nat→Int) (aq nq mq:Nat) (tq:Nat→Int) (hp:(ap+np≤mp∧aq+nq≤mq)∧(np≤900∧nq≤900)∧S.fW np (fun j=>tp (j+ap))=true∧S.fW nq (fun j=>tq (j+aq))=true∧0<nq): ∀ (k:Nat) (R:Int) (Q:List Int),k≤np→R=S.fU (fun j=>tp (j+ap)) k (np-k) % (S.val nq (fun j=>tq (j+aq)))→Q.length=np→(∀ j,j<np→0≤S.at' Q j∧S.at' Q j<1000000)→(∀ j,j<k→S.at' Q j=0)→S.fU (S.at' Q) k (np-k)=S.fU (fun j=>tp (j+ap)) k (np-k) / (S.val nq (fun j=>tq (j+aq)))→Comes (q57 ap np mp tp aq nq mq tq) (.h0 0 (S.f0 R).length ((k:Int)-1) Q (S.f0 R)) (0,(S.f0 ((S.val np (fun j=>tp (j+ap))) % (S.val nq (fun j=>tq (j+aq))))).length,S.f0 ((S.val np (fun j=>tp (j+ap))) / (S.val nq (fun j=>tq (j+aq)))),S.f0 ((S.val np (fun j=>tp (j+ap))) % (S.val nq (fun j=>tq (j+aq))))):=by
 have hp':=hp
 obtain ⟨⟨hp1,hp2⟩,⟨hp3,hp4⟩,g1,g2,hq0⟩:=hp
 have vp:=yV g2 hq0
 have vl:=z5 (zi g2) (Nat.le_refl nq)
 have dP:=(zp.mp g1).1
 have dQ:=(zp.mp g2).1
 intro k
 induction k with
 | zero=>
  intro R Q hk hR hQ hd hz hv
  rw [Nat.sub_zero] at hR hv
  have e:S.trim (S.fb Q.length fun j=>S.at' Q j)=S.f0 ((S.val np (fun j=>tp (j+ap))) / (S.val nq (fun j=>tq (j+aq)))):=by
   rw [jx,uO hQ hd]
   exact congrArg S.f0 hv
  have hR:R=(S.val np (fun j=>tp (j+ap))) % (S.val nq (fun j=>tq (j+aq))):=hR
  rw [← hR]
  apply Comes.of
  show zY _ _ _
  rw [q57]
  rw [hQ] at e
  simp only [hQ,e]
  repeat' (first|with_reducible refine zP (fun h=> ?_) (fun h=> ?_)<;>(try simp only [SH] at h)|exact zK.mpr (by omega))
  all_goals first|(exfalso; omega)|exact zG.mpr rfl
 | succ k ih=>
  intro R Q hk hR hQ hd hz hv
  have hx:=dP k (by omega)
  have st:=pf (V:=(S.val nq (fun j=>tq (j+aq)))) (X:=S.fU (fun j=>tp (j+ap)) (k+1) (np-(k+1))) (x:=tp (k+ap)) vp hx (qi dP)
  have s1:=uX (t:=(fun j=>tp (j+ap))) (n:=np) (i:=k) (by omega)
  (try dsimp only at s1 hx)
  rw [← s1,← hR] at st
  have r0:0≤R:=by rw [hR]; exact Int.emod_nonneg _ (by omega)
  have r1:R<(S.val nq (fun j=>tq (j+aq))):=by rw [hR]; exact Int.emod_lt_of_pos _ vp
  obtain ⟨X,hX⟩: ∃ X,X=tp (k+ap)+1000000*R:=⟨_,rfl⟩
  rw [← hX] at st
  obtain ⟨st1,st2,st3,st4⟩:=st
  have x0:0≤X:=by omega
  have x1:X<1000000*(S.val nq (fun j=>tq (j+aq))):=by omega
  have eT:S.trim (S.fb (1+(S.f0 R).length) fun j=>bif Nat.blt j 1 then tp (k+ap) else S.at' (S.f0 R) (j-1+0))=S.f0 X:=by
   rw [ny hx fun y hy=>qC y hy,uV r0,hX]
  have l2:=zw (v:=X) (n:=nq+1) (by have:S.pw (nq+1)=1000000*S.pw nq:=rfl; omega)
  have lR:=zw (v:=R) (n:=nq) (by omega)
  have e1:(((k+1:Nat):Int)-1)=k:=by omega
  rw [e1]
  have sv:S.fU (S.at' Q) (k+1) (np-(k+1))=S.fU (fun j=>tp (j+ap)) (k+1) (np-(k+1)) / (S.val nq (fun j=>tq (j+aq))):=hv
  by_cases hl:(S.f0 X).length<nq
  · have xs:X<(S.val nq (fun j=>tq (j+aq))):=by
     refine Int.not_le.mp fun h=> ?_
     have:=kU (v:=X) (k:=nq-1) (Int.le_trans ?_ h)
     · omega
     · have h:=yP (t:=(fun j=>tq (j+aq))) (i:=0) (k:=nq-1)
       rw [show nq-1+1=nq by omega,Nat.zero_add] at h
       have h':(S.val nq (fun j=>tq (j+aq)))=S.fU (fun j=>tq (j+aq)) 0 (nq-1)+S.pw (nq-1)*tq (nq-1+aq):=h
       have n0:=yI (t:=(fun j=>tq (j+aq))) (k:=nq-1) (i:=0) fun j _ h=>(dQ j (by omega)).1
       have l2:1≤tq (nq-1+aq):=by
        have:=(zp.mp g2).2
        have h0:=dQ (nq-1) (by omega)
        (try dsimp only at h0)
        rcases this with h|h
        · omega
        · (try dsimp only at h); omega
       have:S.pw (nq-1)*1≤S.pw (nq-1)*tq (nq-1+aq):=Int.mul_le_mul_of_nonneg_left l2 (by have:=xH (k:=nq-1); omega)
       omega
    have d0:X / (S.val nq (fun j=>tq (j+aq)))=0:=Int.ediv_eq_zero_of_lt x0 xs
    have d1:X % (S.val nq (fun j=>tq (j+aq)))=X:=Int.emod_eq_of_lt x0 xs
    have ih:=ih X Q (by omega) (by rw [st2,d1]) hQ hd (fun j hj=>hz j (by omega)) (by
     rw [st1,d0,show np-k=(np-(k+1))+1 by omega]
     simp only [S.fU]
     rw [hz k (by omega),← sv])
    apply Comes.of
    show zY _ _ _
    rw [q57]
    simp only [c57_0_0,c57_0_1,c57_0_2,c57_0_3,c57_0_4,c57_0_5,Int.toNat_natCast,eT]
    generalize (S.f0 X)=G at*
    repeat' (first|with_reducible refine zP (fun h=> ?_) (fun h=> ?_)<;>(try simp only [SH] at h)|exact zK.mpr (by omega))
    all_goals first|(exfalso; omega)|exact ih
  · obtain ⟨d,hdd⟩: ∃ d,d=X / (S.val nq (fun j=>tq (j+aq))):=⟨_,rfl⟩
    have hqd:(S.val nq (fun j=>tq (j+aq)))*d≤X∧X % (S.val nq (fun j=>tq (j+aq)))=X-(S.val nq (fun j=>tq (j+aq)))*d:=by
     have h3:=Int.emod_add_mul_ediv X (S.val nq (fun j=>tq (j+aq)))
     have h4:=Int.emod_nonneg X (show (S.val nq (fun j=>tq (j+aq)))≠0 by omega)
     rw [← hdd] at h3
     omega
    rw [← hdd] at st1 st3 st4
    have ih:=ih (X % (S.val nq (fun j=>tq (j+aq)))) (S.fb np fun j=>bif Nat.beq j k then d else S.at' Q j) (by omega) st2.symm zZ (wm hQ hd ⟨st3,st4⟩) (fun j hj=>by rw [zy (by omega),if_neg (by omega)]; exact hz j (by omega)) (by
     rw [st1,show np-k=(np-(k+1))+1 by omega]
     simp only [S.fU]
     rw [zy (by omega),if_pos rfl,← sv,yB (u:=S.at' Q) fun j h1 h2=>by rw [zy (by omega),if_neg (by omega)]])
    have hlit:(S.val 1 fun j=>S.lit [d] 0 j)=d:=uW rfl
    have hkD:(S.fX 1 fun j=>S.lit [d] 0 j)=true:=yL.mpr fun j hj=>by rw [px hj]; omega
    have c1:(aq+nq≤mq∧1≤1)∧(nq≤1000∧1≤1000)∧(S.fX nq fun j=>tq (j+aq))=true∧(S.fX 1 fun j=>S.lit [d] 0 j)=true:=⟨⟨hp2,Nat.le_refl _⟩,⟨by omega,by decide⟩,zi g2,hkD⟩
    have w0:0≤(S.val nq (fun j=>tq (j+aq)))*d:=Int.mul_nonneg (by omega) st3
    have hv1:=zq w0
    have hv2:=zq x0
    have l1:=zw (v:=(S.val nq (fun j=>tq (j+aq)))*d) (n:=nq+1) (by have:S.pw (nq+1)=1000000*S.pw nq:=rfl; omega)
    have c2:(0+(S.f0 X).length≤(S.f0 X).length∧0+(S.f0 ((S.val nq (fun j=>tq (j+aq)))*d)).length≤(S.f0 ((S.val nq (fun j=>tq (j+aq)))*d)).length)∧((S.f0 X).length≤1000∧(S.f0 ((S.val nq (fun j=>tq (j+aq)))*d)).length≤1000)∧(S.fW (S.f0 X).length fun j=>S.at' (S.f0 X) j)=true∧(S.fW (S.f0 ((S.val nq (fun j=>tq (j+aq)))*d)).length fun j=>S.at' (S.f0 ((S.val nq (fun j=>tq (j+aq)))*d)) j)=true∧(S.val nq (fun j=>tq (j+aq)))*d≤X:=⟨⟨by omega,by omega⟩,⟨by omega,by omega⟩,yE,yE,hqd.1⟩
    have hE:Comes (q57 ap np mp tp aq nq mq tq) (.h1 (S.f0 X).length (k:Int) d d Q (S.f0 X)) (0,(S.f0 ((S.val np (fun j=>tp (j+ap))) % (S.val nq (fun j=>tq (j+aq))))).length,S.f0 ((S.val np (fun j=>tp (j+ap))) / (S.val nq (fun j=>tq (j+aq)))),S.f0 ((S.val np (fun j=>tp (j+ap))) % (S.val nq (fun j=>tq (j+aq))))):=by
     rw [hqd.2] at ih
     apply Comes.of
     show zY _ _ _
     rw [q57]
     simp only [c57_1_0,c57_1_1,hlit,decide_eq_true c1,cond_true,hv1,hv2,decide_eq_true c2,Int.toNat_natCast,hQ]
     generalize S.f0 (X-_)=G at*
     repeat' (first|with_reducible refine zP (fun h=> ?_) (fun h=> ?_)<;>(try simp only [SH] at h)|exact zK.mpr (by omega))
     all_goals first|(exfalso; omega)|exact ih
    have hI:=fun a c h0 h1 h2 h3=>s57i ap np mp tp aq nq mq tq hp' X ⟨x0,x1⟩ (k:Int) Q (0,(S.f0 ((S.val np (fun j=>tp (j+ap))) % (S.val nq (fun j=>tq (j+aq))))).length,S.f0 ((S.val np (fun j=>tp (j+ap))) / (S.val nq (fun j=>tq (j+aq)))),S.f0 ((S.val np (fun j=>tp (j+ap))) % (S.val nq (fun j=>tq (j+aq))))) (by rw [← hdd]; exact hE) (c-a).toNat a c (Nat.le_refl _) h0 h1 h2 h3
    rw [← hdd] at hI
    have gd: ∀ j,0≤S.at' (S.f0 X) j∧S.at' (S.f0 X) j<1000000:=fun j=>qB
    have xv:=uS (k:=nq+1) x0 (by have:S.pw (nq+1)=1000000*S.pw nq:=rfl; omega)
    have topp:1≤tq (nq-1+aq):=by
     have:=(zp.mp g2).2
     have h0:=dQ (nq-1) (by omega)
     (try dsimp only at h0)
     rcases this with h|h
     · omega
     · (try dsimp only at h); omega
    have e2:((nq:Int)-1).toNat=nq-1:=by omega
    have e3:((nq:Int)-2).toNat=nq-2:=by omega
    have tq1:=dQ (nq-1) (by omega)
    (try dsimp only at tq1)
    have g0:=gd (nq-2)
    have g1':=gd (nq-1)
    have g2':=gd nq
    have c3:0+(S.f0 X).length≤(S.f0 X).length∧0≤(nq:Int):=by omega
    have c4:0+(S.f0 X).length≤(S.f0 X).length∧0≤(nq:Int)-1:=by omega
    clear ih hE hv st1 st2 sv hv1 hv2 c1 c2 hlit hkD s1 l1 hd hz
    by_cases hn:nq=1
    · have hvq:(S.val nq (fun j=>tq (j+aq)))=tq (nq-1+aq):=by subst hn; exact uW rfl
      have xv:S.at' (S.f0 X) (nq-1)+1000000*S.at' (S.f0 X) nq=X:=by
       subst hn
       simp only [S.fU,Nat.zero_add,Nat.sub_self] at xv ⊢
       omega
      have gs:=iB (X:=X) (V:=(S.val nq (fun j=>tq (j+aq)))) (P:=1) (v:=tq (nq-1+aq)) (t:=S.at' (S.f0 X) nq*1000000+S.at' (S.f0 X) (nq-1)) (by decide) (by omega) (by rw [hvq]; omega) (by rw [hvq]; omega) (by omega) (by omega) (by omega)
      rw [← hdd] at gs
      have hI:=hI (Int.tdiv (S.at' (S.f0 X) nq*1000000+S.at' (S.f0 X) (nq-1)) (tq (nq-1+aq)+1)) (min (Int.tdiv (S.at' (S.f0 X) nq*1000000+S.at' (S.f0 X) (nq-1)+1) (tq (nq-1+aq))) 999999) gs.1 gs.2.1 (by omega) (by omega)
      apply Comes.of
      show zY _ _ _
      rw [q57]
      simp only [c57_0_0,c57_0_1,c57_0_2,c57_0_3,c57_0_4,c57_0_5,Int.toNat_natCast,eT,lw,e2,decide_eq_true c3,decide_eq_true c4,cond_true]
      generalize Int.tdiv (S.at' (S.f0 X) nq*1000000+S.at' (S.f0 X) (nq-1)) (tq (nq-1+aq)+1)=t1 at*
      generalize Int.tdiv (S.at' (S.f0 X) nq*1000000+S.at' (S.f0 X) (nq-1)+1) (tq (nq-1+aq))=t2 at*
      clear eT
      repeat' (first|with_reducible refine zP (fun h=> ?_) (fun h=> ?_)<;>(try simp only [SH] at h)|exact zK.mpr (by omega))
      all_goals first|(exfalso; omega)|exact hI
    · have hw:=xH (k:=nq-2)
      have tq2:=dQ (nq-2) (by omega)
      (try dsimp only at tq2)
      have xv:S.fU (fun j=>S.at' (S.f0 X) j) 0 (nq-2)+S.pw (nq-2)*((S.at' (S.f0 X) nq*1000000+S.at' (S.f0 X) (nq-1))*1000000+S.at' (S.f0 X) (nq-2))=X:=by
       rw [show nq+1=nq-2+3 by omega,ya,Nat.zero_add] at xv
       simp only [S.fU] at xv
       rw [show nq-2+1=nq-1 by omega,show nq-1+1=nq by omega] at xv
       refine Eq.trans ?_ xv
       congr 2
       omega
      have vv:S.fU (fun j=>tq (j+aq)) 0 (nq-2)+S.pw (nq-2)*(tq (nq-1+aq)*1000000+tq (nq-2+aq))=(S.val nq (fun j=>tq (j+aq))):=by
       have h:(S.val nq (fun j=>tq (j+aq)))=S.fU (fun j=>tq (j+aq)) 0 (nq-2+2):=by rw [show nq-2+2=nq by omega]; rfl
       rw [h,ya,Nat.zero_add]
       simp only [S.fU]
       rw [show nq-2+1=nq-1 by omega]
       congr 2
       omega
      have lv0:=yI (t:=(fun j=>tq (j+aq))) (k:=nq-2) (i:=0) fun j _ h=>(dQ j (by omega)).1
      have lv1:=yu (t:=(fun j=>tq (j+aq))) (k:=nq-2) (i:=0) fun j _ h=>dQ j (by omega)
      have lu0:=yI (t:=fun j=>S.at' (S.f0 X) j) (k:=nq-2) (i:=0) fun j _ h=>(gd j).1
      have lu1:=yu (t:=fun j=>S.at' (S.f0 X) j) (k:=nq-2) (i:=0) fun j _ h=>gd j
      obtain ⟨v,hvv⟩: ∃ v,v=tq (nq-1+aq)*1000000+tq (nq-2+aq):=⟨_,rfl⟩
      obtain ⟨t,htt⟩: ∃ t,t=(S.at' (S.f0 X) nq*1000000+S.at' (S.f0 X) (nq-1))*1000000+S.at' (S.f0 X) (nq-2):=⟨_,rfl⟩
      rw [← hvv,Int.mul_comm _ v] at vv
      rw [← htt,Int.mul_comm _ t] at xv
      have gs:=iB (X:=X) (V:=(S.val nq (fun j=>tq (j+aq)))) (P:=S.pw (nq-2)) (v:=v) (t:=t) hw (by omega) (by omega) (by rw [Int.add_mul]; omega) (by omega) (by rw [Int.add_mul]; omega) (by omega)
      rw [← hdd] at gs
      have hI:=hI (Int.tdiv t (v+1)) (min (Int.tdiv (t+1) v) 999999) gs.1 gs.2.1 (by omega) (by omega)
      have c5:0+(S.f0 X).length≤(S.f0 X).length∧0≤(nq:Int)-2:=by omega
      clear xv vv lv0 lv1 lu0 lu1 hw
      apply Comes.of
      show zY _ _ _
      rw [q57]
      simp only [c57_0_0,c57_0_1,c57_0_2,c57_0_3,c57_0_4,c57_0_5,Int.toNat_natCast,eT,lw,e2,e3,decide_eq_true c3,decide_eq_true c4,decide_eq_true c5,cond_true,← hvv,← htt]
      generalize Int.tdiv t (v+1)=t1 at*
      generalize Int.tdiv (t+1) v=t2 at*
      clear eT
      repeat' (first|with_reducible refine zP (fun h=> ?_) (fun h=> ?_)<;>(try simp only [SH] at h)|exact zK.mpr (by omega))
      all_goals first|(exfalso; omega)|exact hI
theorem s57 (ap np mp:Nat) (tp:Nat→Int) (aq nq mq:Nat) (tq:Nat→Int) (hp:(ap+np≤mp∧aq+nq≤mq)∧(np≤900∧nq≤900)∧S.fW np (fun j=>tp (j+ap))=true∧S.fW nq (fun j=>tq (j+aq))=true∧0<nq):zY ((q57 ap np mp tp aq nq mq tq)) ((p57 ap np mp tp aq nq mq tq)) ((0,(S.f0 ((S.val np (fun j=>tp (j+ap))) % (S.val nq (fun j=>tq (j+aq))))).length,S.f0 ((S.val np (fun j=>tp (j+ap))) / (S.val nq (fun j=>tq (j+aq)))),S.f0 ((S.val np (fun j=>tp (j+ap))) % (S.val nq (fun j=>tq (j+aq)))))):=by
 have hp':=hp
 obtain ⟨⟨hp1,hp2⟩,⟨hp3,hp4⟩,g1,g2,hq0⟩:=hp
 have vp:=yV g2 hq0
 have up:=yM (zi g1)
 have z: ∀ j,S.at' (S.fb np fun _=>(0:Int)) j=0:=fun j=>by
  by_cases h:j<np
  · exact y9 h
  · simp [S.at',List.getElem?_eq_none (show (S.fb np fun _=>(0:Int)).length≤j by rw [zZ]; omega)]
 have hm:=s57' ap np mp tp aq nq mq tq hp' np 0 (S.fb np fun _=>0) (Nat.le_refl _) (by rw [Nat.sub_self]; exact (Int.zero_emod _).symm) zZ (fun j _=>by rw [z]; omega) (fun j _=>z j) (by rw [Nat.sub_self]; exact (Int.zero_ediv _).symm)
 rw [yQ] at hm
 by_cases h3:np≤3∧nq≤3
 · have c1:ap+np≤mp∧np≤3∧S.fX np (fun j=>tp (j+ap))=true:=⟨hp1,h3.1,zi g1⟩
   have c2:aq+nq≤mq∧nq≤3∧S.fX nq (fun j=>tq (j+aq))=true:=⟨hp2,h3.2,zi g2⟩
   have ul:=z5 (zi g1) h3.1
   have vl:=z5 (zi g2) h3.2
   have w3:S.pw 3=1000000000000000000:=rfl
   rw [← Int.tdiv_eq_ediv_of_nonneg up,← Int.tmod_eq_emod_of_nonneg up]
   have d0:0≤Int.tdiv (S.val np (fun j=>tp (j+ap))) (S.val nq (fun j=>tq (j+aq)))∧Int.tdiv (S.val np (fun j=>tp (j+ap))) (S.val nq (fun j=>tq (j+aq)))≤(S.val np (fun j=>tp (j+ap))):=by rw [Int.tdiv_eq_ediv_of_nonneg up]; exact ⟨Int.ediv_nonneg up (by omega),Int.ediv_le_self _ up⟩
   have m0:0≤Int.tmod (S.val np (fun j=>tp (j+ap))) (S.val nq (fun j=>tq (j+aq)))∧Int.tmod (S.val np (fun j=>tp (j+ap))) (S.val nq (fun j=>tq (j+aq)))<(S.val nq (fun j=>tq (j+aq))):=by rw [Int.tmod_eq_emod_of_nonneg up]; exact ⟨Int.emod_nonneg _ (by omega),Int.emod_lt_of_pos _ vp⟩
   unfold p57
   simp only [decide_eq_true c1,decide_eq_true c2,cond_true]
   generalize Int.tdiv (S.val np (fun j=>tp (j+ap))) (S.val nq (fun j=>tq (j+aq)))=D at*
   generalize Int.tmod (S.val np (fun j=>tp (j+ap))) (S.val nq (fun j=>tq (j+aq)))=M at*
   generalize (S.val np (fun j=>tp (j+ap)))=U at*
   generalize (S.val nq (fun j=>tq (j+aq)))=V at*
   repeat' (first|with_reducible refine zP (fun h=> ?_) (fun h=> ?_)<;>(try simp only [SH] at h)|exact zK.mpr (by omega))
   all_goals first|(exfalso; omega)|exact zG.mpr rfl
 · unfold p57
   repeat' (first|with_reducible refine zP (fun h=> ?_) (fun h=> ?_)<;>(try simp only [SH] at h)|exact zK.mpr (by omega))
   all_goals first|(exfalso; omega)|exact hm
theorem k57_ok:k57.ok Tryz.prog:=by
 intro x hx
 obtain ⟨⟨ap,np,mp,tp,_⟩,⟨aq,nq,mq,tq,_⟩,_⟩:=x
 obtain ⟨h1,h2⟩:=a57 ap np mp tp aq nq mq tq (s57 ap np mp tp aq nq mq tq (zm hx rfl))
 exact ⟨⟨400,(by decide:2+1+2≤400),h1⟩,h2⟩
noncomputable def xG2 (fR:Bool→Prop→Prop→Prop):Ext:=y2 fR [k69,k65,k69v,k65v,k60,k61,k44,k73,k55,k45,k58,k56,k59,k46,k18,k19,k54,k57]
theorem oe:yT Tryz.prog (xG2 cond):=yH ⟨k69_ok,k65_ok,k69v_ok,k65v_ok,k60_ok,k61_ok,k44_ok,k73_ok,k55_ok,k45_ok,k58_ok,k56_ok,k59_ok,k46_ok,k18_ok,k19_ok,k54_ok,k57_ok,trivial⟩
namespace S
noncomputable def eS (v w:Int):Bool×Int×List Int×List Int:=if (f0 ((v / w).natAbs:Int)).length>80 then (false,3,[],[]) else (decide (v / w<0),0,f0 (v % w),f0 ((v / w).natAbs:Int))
noncomputable def fd (n1:Bool) (n:Nat) (t:Nat→Int) (n2:Bool) (m:Nat) (u:Nat→Int):Bool×Int×List Int×List Int:=if fV n1 n t=true∧fV n2 m u=true then (if m=0 then (false,13,[],[]) else eS (sv n1 (val n t)) (sv n2 (val m u))) else (false,1,[],[])
def dq (n1:Bool) (V W:Int):Int:=if n1=true∧V % W>0 then V / W+1 else V / W
def dr (n1:Bool) (V W:Int):Int:=if n1=true∧V % W>0 then W-V % W else V % W
end S
theorem nS {p q c m:Int} (h0:0≤m) (h1:m<q) (h:p=q*c+m):p / q=c∧p % q=m:=by
 have e:p / q=c:=by rw [h,Int.add_comm,Int.add_mul_ediv_left _ _ (by omega),Int.ediv_eq_zero_of_lt h0 h1,Int.zero_add]
 refine ⟨e,?_⟩
 rw [Int.emod_def,e]; omega
theorem iv {n1 n2:Bool} {V W:Int} (hV:0≤V) (hW:0<W):S.sv n1 V / S.sv n2 W=S.sv (n1 != n2) (S.dq n1 V W)∧S.sv n1 V % S.sv n2 W=S.dr n1 V W∧0≤S.dq n1 V W∧S.dq n1 V W≤V / W+1∧0≤S.dr n1 V W∧S.dr n1 V W<W:=by
 have h1:=Int.emod_nonneg V (show W≠0 by omega)
 have h2:=Int.emod_lt_of_pos V hW
 have h3:=Int.mul_ediv_add_emod V W
 have h4:=Int.ediv_nonneg hV (show 0≤W by omega)
 have key:S.sv n1 V / W=S.sv n1 (S.dq n1 V W)∧S.sv n1 V % W=S.dr n1 V W∧0≤S.dq n1 V W∧S.dq n1 V W≤V / W+1∧0≤S.dr n1 V W∧S.dr n1 V W<W:=by
  unfold S.dq S.dr S.sv
  cases n1
  · simp only [cond_false,Bool.false_eq_true,false_and,if_false]
    exact ⟨trivial,trivial,h4,by omega,h1,h2⟩
  · simp only [cond_true,true_and]
    by_cases hR:V % W>0
    · rw [if_pos hR,if_pos hR]
      obtain ⟨e1,e2⟩:=nS (p:= -V) (q:=W) (c:= -(V / W+1)) (m:=W-V % W) (by omega) (by omega) (by
       rw [Int.mul_neg,Int.mul_add]; omega)
      rw [e1,e2]
      exact ⟨rfl,rfl,by omega,by omega,by omega,by omega⟩
    · rw [if_neg hR,if_neg hR]
      obtain ⟨e1,e2⟩:=nS (p:= -V) (q:=W) (c:= -(V / W)) (m:=0) (by omega) (by omega) (by
       rw [Int.mul_neg]; omega)
      rw [e1,e2]
      exact ⟨rfl,by omega,by omega,by omega,by omega,by omega⟩
 obtain ⟨k1,k2,k3⟩:=key
 refine ⟨?_,?_,k3⟩
 · cases n2
   · show S.sv n1 V / W=_
     rw [k1]; cases n1<;>rfl
   · show S.sv n1 V / (-W)=_
     rw [Int.ediv_neg,k1]; cases n1<;>simp [S.sv]
 · cases n2
   · exact k2
   · show S.sv n1 V % (-W)=_
     rw [Int.emod_neg,k2]
theorem nA {n1 n2:Bool} {V W:Int} (hV:0≤V) (hW:0<W):S.eS (S.sv n1 V) (S.sv n2 W)=if (S.f0 (S.dq n1 V W)).length>80 then (false,3,[],[]) else (S.fy (n1 != n2) (S.dq n1 V W),0,S.f0 (S.dr n1 V W),S.f0 (S.dq n1 V W)):=by
 obtain ⟨h1,h2,h3,-⟩:=iv (n1:=n1) (n2:=n2) hV hW
 unfold S.eS
 rw [h1,h2]
 have e:=s8 (neg:=(n1 != n2)) h3
 unfold S.fi at e
 simp only [Prod.mk.injEq] at e
 rw [e.1,e.2]
 rfl
theorem nk {c:Bool} {q:Int} (hq:0≤q) (h:((S.f0 q).length:Int)=0):S.fy c q=false∧S.f0 q= []:=by
 have:q≤0:=yq.mp (by omega)
 refine ⟨?_,yS this⟩
 unfold S.fy
 rw [decide_eq_false (by omega),Bool.and_false]
theorem jA {c:Bool} {q:Int} (h: ¬ ((S.f0 q).length:Int)=0):S.fy c q=c:=by
 have: ¬ q≤0:=fun h2=>h (by have:=yq.mpr h2; omega)
 unfold S.fy
 rw [decide_eq_true (by omega),Bool.and_true]
theorem iJ {r:Int} (h:((S.f0 r).length:Int)=0):S.f0 r= []:=List.length_eq_zero_iff.mp (by omega)
section
variable {c:Bool} {q r:Int}
abbrev G9:Bool×Int×List Int×List Int→Bool×Int×List Int×List Int:=fun e=>(e.1,e.2.1,e.2.2.1,e.2.2.2)
abbrev G0:Bool×Int×List Int×List Int→Bool×Bool×Int×List Int×List Int:=fun e=>(e.1,false,e.2.1,e.2.2.1,e.2.2.2)
theorem mJ (hq:0≤q) (h:((S.f0 q).length:Int)=0) (h2:((S.f0 r).length:Int)=0):(S.fy c q,(0:Int),S.f0 r,S.f0 q)=(false,0,[],[]):=by rw [(nk hq h).1,(nk (c:=c) hq h).2,iJ h2]
theorem mX (hq:0≤q) (h:((S.f0 q).length:Int)=0):(S.fy c q,(0:Int),S.f0 r,S.f0 q)=(false,0,S.f0 r,[]):=by rw [(nk hq h).1,(nk (c:=c) hq h).2]
theorem mE (h: ¬ ((S.f0 q).length:Int)=0) (h2:((S.f0 r).length:Int)=0):(S.fy c q,(0:Int),S.f0 r,S.f0 q)=(c,0,[],S.f0 q):=by rw [jA h,iJ h2]
theorem md (h: ¬ ((S.f0 q).length:Int)=0):(S.fy c q,(0:Int),S.f0 r,S.f0 q)=(c,0,S.f0 r,S.f0 q):=by rw [jA h]
end
section
variable (fR:TT) (fS:KS) (fT:KR) (n1:Bool) (ap np mp:Nat) (tp:NI) (n2:Bool) (aq nq mq:Nat) (tq:NI)
noncomputable abbrev c29_e_0:=S.f0 ((S.val nq fun j=>tq (j+aq))-S.val (S.f0 ((S.val np fun j=>tp (j+ap)) % S.val nq fun j=>tq (j+aq))).length fun j=>S.at' (S.f0 ((S.val np fun j=>tp (j+ap)) % S.val nq fun j=>tq (j+aq))) j)
noncomputable abbrev c29_e_1:=([[(1,false,Blk.cols mq [Col.int .i64 tq]),(0,false,Blk.cols mp [Col.int .i64 tp]),(9,true,Blk.cols (S.f0 ((S.val np fun j=>tp (j+ap)) % S.val nq fun j=>tq (j+aq))).length [Col.int .i64 fun j=>S.at' (S.f0 ((S.val np fun j=>tp (j+ap)) % S.val nq fun j=>tq (j+aq))) j])]])
noncomputable abbrev c29_e_2:=S.f0 ((S.val (S.f0 ((S.val np fun j=>tp (j+ap)) / S.val nq fun j=>tq (j+aq))).length fun j=>S.at' (S.f0 ((S.val np fun j=>tp (j+ap)) / S.val nq fun j=>tq (j+aq))) j)+1)
noncomputable abbrev c29_e_3:=([[(1,false,Blk.cols mq [Col.int .i64 tq]),(0,false,Blk.cols mp [Col.int .i64 tp])]])
noncomputable abbrev c29_e_4:=([[(1,false,Blk.cols mq [Col.int .i64 tq]),(0,false,Blk.cols mp [Col.int .i64 tp]),(9,true,Blk.cols (S.f0 ((S.val np fun j=>tp (j+ap)) % S.val nq fun j=>tq (j+aq))).length [Col.int .i64 fun j=>S.at' (S.f0 ((S.val np fun j=>tp (j+ap)) % S.val nq fun j=>tq (j+aq))) j]),(10,true,Blk.cols (S.f0 ((S.val np fun j=>tp (j+ap)) / S.val nq fun j=>tq (j+aq))).length [Col.int .i64 fun j=>S.at' (S.f0 ((S.val np fun j=>tp (j+ap)) / S.val nq fun j=>tq (j+aq))) j])]])
noncomputable abbrev c29_e_5:=(PV.tup [PV.agg [PV.tf false,PV.nils],PV.agg [PV.tf false,PV.own 9 1 (S.f0 ((S.val np fun j=>tp (j+ap)) % S.val nq fun j=>tq (j+aq))).length],PV.int .i64 (0:Int)])
noncomputable abbrev c29_e_6:=(PV.tup [PV.agg [PV.tf false,PV.nils],PV.agg [PV.tf false,PV.nils],PV.int .i64 (0:Int)])
noncomputable abbrev c29_e_7:=(↑((S.f0 ((S.val np fun j=>tp (j+ap)) % S.val nq fun j=>tq (j+aq))).length):Int)==0
noncomputable abbrev c29_e_8:=([[(1,false,Blk.cols mq [Col.int .i64 tq]),(0,false,Blk.cols mp [Col.int .i64 tp]),(10,true,Blk.cols (S.f0 ((S.val np fun j=>tp (j+ap)) / S.val nq fun j=>tq (j+aq))).length [Col.int .i64 fun j=>S.at' (S.f0 ((S.val np fun j=>tp (j+ap)) / S.val nq fun j=>tq (j+aq))) j])]])
noncomputable abbrev c29_e_9:=([[(1,false,Blk.cols mq [Col.int .i64 tq]),(0,false,Blk.cols mp [Col.int .i64 tp]),(15,true,Blk.cols (c29_e_0 ap np tp aq nq tq).length [Col.int .i64 fun j=>S.at' (c29_e_0 ap np tp aq nq tq) j])]])
noncomputable abbrev c29_e_10:=(S.f0 ((S.val np fun j=>tp (j+ap)) / S.val nq fun j=>tq (j+aq))).length
noncomputable abbrev c29_e_11:=(PV.tup [PV.agg [PV.tf false,PV.nils],PV.agg [PV.tf false,PV.nils],PV.int .i64 (3:Int)])
noncomputable abbrev c29_e_12:=(PV.tup [PV.agg [PV.tf false,PV.nils],PV.agg [PV.tf false,PV.own 15 1 (c29_e_0 ap np tp aq nq tq).length],PV.int .i64 (0:Int)])
noncomputable abbrev c29_e_13:=S.f0 ((S.val np fun j=>tp (j+ap)) / S.val nq fun j=>tq (j+aq))
noncomputable abbrev c29_e_14:=([[(1,false,Blk.cols mq [Col.int .i64 tq]),(0,false,Blk.cols mp [Col.int .i64 tp]),(15,true,Blk.cols (c29_e_0 ap np tp aq nq tq).length [Col.int .i64 fun j=>S.at' (c29_e_0 ap np tp aq nq tq) j]),(13,true,Blk.cols (c29_e_2 ap np tp aq nq tq).length [Col.int .i64 fun j=>S.at' (c29_e_2 ap np tp aq nq tq) j])]])
noncomputable abbrev c29_e_15:=S.f0 ((S.val np fun j=>tp (j+ap)) % S.val nq fun j=>tq (j+aq))
noncomputable abbrev c29_e_16:=(S.val nq fun j=>tq (j+aq))-S.val (S.f0 ((S.val np fun j=>tp (j+ap)) % S.val nq fun j=>tq (j+aq))).length fun j=>S.at' (S.f0 ((S.val np fun j=>tp (j+ap)) % S.val nq fun j=>tq (j+aq))) j
noncomputable abbrev c29_e_17:=([[(1,false,Blk.cols mq [Col.int .i64 tq]),(0,false,Blk.cols mp [Col.int .i64 tp]),(13,true,Blk.cols (c29_e_2 ap np tp aq nq tq).length [Col.int .i64 fun j=>S.at' (c29_e_2 ap np tp aq nq tq) j])]])
abbrev St29:=Empty
abbrev Rt29:=Bool×Int×List Int×List Int
noncomputable def V29 (r:Rt29):PV:= .tup [.agg [.bool r.1,.own 4 1 r.2.2.2.length],.agg [.tf false,.own 3 1 r.2.2.1.length],.int .i64 r.2.1]
noncomputable def N29 (r:Rt29):List Blk:= [CI r.2.2.1,CI r.2.2.2]
noncomputable def I29:St29→Hd:=fun s=>s.elim
noncomputable def q29 (n1:Bool) (ap np mp:Nat) (tp:NI) (n2:Bool) (aq nq mq:Nat) (tq:NI):St29→Option (St29⊕Rt29):=fun s=>s.elim
noncomputable abbrev d29_0:Option (St29⊕Rt29):=(bif ((↑(c29_e_10 ap np tp aq nq tq):Int)==0) then (bif (c29_e_7 ap np tp aq nq tq) then (some (.inr (false,(0:Int),[],[]))) else (some (.inr (false,(0:Int),S.f0 ((S.val np fun j=>tp (j+ap)) % S.val nq fun j=>tq (j+aq)),[])))) else (bif (decide ((↑(c29_e_10 ap np tp aq nq tq):Int)>80)) then (some (.inr (false,(3:Int),[],[]))) else (bif (c29_e_7 ap np tp aq nq tq) then (some (.inr (false,(0:Int),[],S.f0 ((S.val np fun j=>tp (j+ap)) / S.val nq fun j=>tq (j+aq))))) else (some (.inr (false,(0:Int),S.f0 ((S.val np fun j=>tp (j+ap)) % S.val nq fun j=>tq (j+aq)),S.f0 ((S.val np fun j=>tp (j+ap)) / S.val nq fun j=>tq (j+aq))))))))
noncomputable abbrev d29_1:Option (St29⊕Rt29):=(bif ((↑(c29_e_10 ap np tp aq nq tq):Int)==0) then (bif (c29_e_7 ap np tp aq nq tq) then (some (.inr (false,(0:Int),[],[]))) else (some (.inr (false,(0:Int),S.f0 ((S.val np fun j=>tp (j+ap)) % S.val nq fun j=>tq (j+aq)),[])))) else (bif (decide ((↑(c29_e_10 ap np tp aq nq tq):Int)>80)) then (some (.inr (false,(3:Int),[],[]))) else (bif (c29_e_7 ap np tp aq nq tq) then (some (.inr (true,(0:Int),[],S.f0 ((S.val np fun j=>tp (j+ap)) / S.val nq fun j=>tq (j+aq))))) else (some (.inr (true,(0:Int),S.f0 ((S.val np fun j=>tp (j+ap)) % S.val nq fun j=>tq (j+aq)),S.f0 ((S.val np fun j=>tp (j+ap)) / S.val nq fun j=>tq (j+aq))))))))
noncomputable def p29 (n1:Bool) (ap np mp:Nat) (tp:NI) (n2:Bool) (aq nq mq:Nat) (tq:NI):Option (St29⊕Rt29):=bif (decide (ap+np≤mp∧np≤1000000)) then (bif (S.fV n1 np fun j=>tp (j+ap)) then (bif (decide (aq+nq≤mq∧nq≤1000000)) then (bif (S.fV n2 nq fun j=>tq (j+aq)) then (bif ((nq:Int)==0) then (some (.inr (false,(13:Int),[],[]))) else (bif (decide ((ap+np≤mp∧aq+nq≤mq)∧(np≤900∧nq≤900)∧(S.fW np fun j=>tp (j+ap))=true∧(S.fW nq fun j=>tq (j+aq))=true∧0<nq)) then (bif n1 then (bif (decide ((↑((S.f0 ((S.val np fun j=>tp (j+ap)) % S.val nq fun j=>tq (j+aq))).length):Int)>0)) then (bif (decide ((0+(c29_e_13 ap np tp aq nq tq).length≤(S.f0 ((S.val np fun j=>tp (j+ap)) / S.val nq fun j=>tq (j+aq))).length∧1≤1)∧((c29_e_13 ap np tp aq nq tq).length≤1000∧1≤1000)∧(S.fW (c29_e_13 ap np tp aq nq tq).length fun j=>S.at' (c29_e_13 ap np tp aq nq tq) j)=true∧true=true)) then (bif (decide ((aq+nq≤mq∧0+(c29_e_15 ap np tp aq nq tq).length≤(S.f0 ((S.val np fun j=>tp (j+ap)) % S.val nq fun j=>tq (j+aq))).length)∧(nq≤1000∧(c29_e_15 ap np tp aq nq tq).length≤1000)∧(S.fW nq fun j=>tq (j+aq))=true∧(S.fW (c29_e_15 ap np tp aq nq tq).length fun j=>S.at' (c29_e_15 ap np tp aq nq tq) j)=true∧(S.val (c29_e_15 ap np tp aq nq tq).length fun j=>S.at' (c29_e_15 ap np tp aq nq tq) j)≤S.val nq fun j=>tq (j+aq))) then (bif n2 then (bif ((↑((c29_e_2 ap np tp aq nq tq).length):Int)==0) then (bif ((↑((c29_e_0 ap np tp aq nq tq).length):Int)==0) then (some (.inr (false,(0:Int),[],[]))) else (some (.inr (false,(0:Int),S.f0 (c29_e_16 ap np tp aq nq tq),[])))) else (bif (decide ((↑((c29_e_2 ap np tp aq nq tq).length):Int)>80)) then (some (.inr (false,(3:Int),[],[]))) else (bif ((↑((c29_e_0 ap np tp aq nq tq).length):Int)==0) then (some (.inr (false,(0:Int),[],S.f0 ((S.val (c29_e_10 ap np tp aq nq tq) fun j=>S.at' (S.f0 ((S.val np fun j=>tp (j+ap)) / S.val nq fun j=>tq (j+aq))) j)+1)))) else (some (.inr (false,(0:Int),S.f0 (c29_e_16 ap np tp aq nq tq),S.f0 ((S.val (c29_e_10 ap np tp aq nq tq) fun j=>S.at' (S.f0 ((S.val np fun j=>tp (j+ap)) / S.val nq fun j=>tq (j+aq))) j)+1))))))) else (bif ((↑((c29_e_2 ap np tp aq nq tq).length):Int)==0) then (bif ((↑((c29_e_0 ap np tp aq nq tq).length):Int)==0) then (some (.inr (false,(0:Int),[],[]))) else (some (.inr (false,(0:Int),S.f0 (c29_e_16 ap np tp aq nq tq),[])))) else (bif (decide ((↑((c29_e_2 ap np tp aq nq tq).length):Int)>80)) then (some (.inr (false,(3:Int),[],[]))) else (bif ((↑((c29_e_0 ap np tp aq nq tq).length):Int)==0) then (some (.inr (true,(0:Int),[],S.f0 ((S.val (c29_e_10 ap np tp aq nq tq) fun j=>S.at' (S.f0 ((S.val np fun j=>tp (j+ap)) / S.val nq fun j=>tq (j+aq))) j)+1)))) else (some (.inr (true,(0:Int),S.f0 (c29_e_16 ap np tp aq nq tq),S.f0 ((S.val (c29_e_10 ap np tp aq nq tq) fun j=>S.at' (S.f0 ((S.val np fun j=>tp (j+ap)) / S.val nq fun j=>tq (j+aq))) j)+1)))))))) else none) else none) else (bif n2 then (d29_0 ap np tp aq nq tq) else (d29_1 ap np tp aq nq tq))) else (bif n2 then (d29_1 ap np tp aq nq tq) else (d29_0 ap np tp aq nq tq))) else none)) else (some (.inr (false,(1:Int),[],[])))) else none) else (some (.inr (false,(1:Int),[],[])))) else none
noncomputable abbrev g29_2:Prop:=(fR ((↑(c29_e_10 ap np tp aq nq tq):Int)==0) (fR false (fR true (fT c29_e_11 (c29_e_3 mp tp mq tq) 15) (fR (c29_e_7 ap np tp aq nq tq) (fT c29_e_6 (c29_e_3 mp tp mq tq) 16) (fT (c29_e_5 ap np tp aq nq tq) (c29_e_1 ap np mp tp aq nq mq tq) 16))) (fR false (fT c29_e_6 (c29_e_3 mp tp mq tq) 15) (fR (c29_e_7 ap np tp aq nq tq) (fT c29_e_6 (c29_e_3 mp tp mq tq) 16) (fT (c29_e_5 ap np tp aq nq tq) (c29_e_1 ap np mp tp aq nq mq tq) 16)))) (fR (decide ((↑(c29_e_10 ap np tp aq nq tq):Int)>80)) (fR true (fT c29_e_11 (c29_e_3 mp tp mq tq) 15) (fR (c29_e_7 ap np tp aq nq tq) (fT c29_e_6 (c29_e_3 mp tp mq tq) 16) (fT (c29_e_5 ap np tp aq nq tq) (c29_e_1 ap np mp tp aq nq mq tq) 16))) (fR false (fT c29_e_6 (c29_e_3 mp tp mq tq) 15) (fR (c29_e_7 ap np tp aq nq tq) (fT (PV.tup [PV.agg [PV.tf false,PV.own 10 1 (c29_e_13 ap np tp aq nq tq).length],PV.agg [PV.tf false,PV.nils],PV.int .i64 (0:Int)]) (c29_e_8 ap np mp tp aq nq mq tq) 16) (fT (PV.tup [PV.agg [PV.tf false,PV.own 10 1 (c29_e_13 ap np tp aq nq tq).length],PV.agg [PV.tf false,PV.own 9 1 (c29_e_15 ap np tp aq nq tq).length],PV.int .i64 (0:Int)]) (c29_e_4 ap np mp tp aq nq mq tq) 16)))))
noncomputable abbrev g29_3:Prop:=(fR ((↑(c29_e_10 ap np tp aq nq tq):Int)==0) (fR false (fR true (fT c29_e_11 (c29_e_3 mp tp mq tq) 15) (fR (c29_e_7 ap np tp aq nq tq) (fT c29_e_6 (c29_e_3 mp tp mq tq) 16) (fT (c29_e_5 ap np tp aq nq tq) (c29_e_1 ap np mp tp aq nq mq tq) 16))) (fR false (fT c29_e_6 (c29_e_3 mp tp mq tq) 15) (fR (c29_e_7 ap np tp aq nq tq) (fT c29_e_6 (c29_e_3 mp tp mq tq) 16) (fT (c29_e_5 ap np tp aq nq tq) (c29_e_1 ap np mp tp aq nq mq tq) 16)))) (fR (decide ((↑(c29_e_10 ap np tp aq nq tq):Int)>80)) (fR true (fT c29_e_11 (c29_e_3 mp tp mq tq) 15) (fR (c29_e_7 ap np tp aq nq tq) (fT c29_e_6 (c29_e_3 mp tp mq tq) 16) (fT (c29_e_5 ap np tp aq nq tq) (c29_e_1 ap np mp tp aq nq mq tq) 16))) (fR false (fT c29_e_6 (c29_e_3 mp tp mq tq) 15) (fR (c29_e_7 ap np tp aq nq tq) (fT (PV.tup [PV.agg [PV.tf true,PV.own 10 1 (c29_e_13 ap np tp aq nq tq).length],PV.agg [PV.tf false,PV.nils],PV.int .i64 (0:Int)]) (c29_e_8 ap np mp tp aq nq mq tq) 16) (fT (PV.tup [PV.agg [PV.tf true,PV.own 10 1 (c29_e_13 ap np tp aq nq tq).length],PV.agg [PV.tf false,PV.own 9 1 (c29_e_15 ap np tp aq nq tq).length],PV.int .i64 (0:Int)]) (c29_e_4 ap np mp tp aq nq mq tq) 16)))))
noncomputable abbrev g29_0:Prop:=(fR n1 (fR n2 (g29_2 fR fT ap np mp tp aq nq mq tq) (g29_3 fR fT ap np mp tp aq nq mq tq)) (fR n2 (g29_3 fR fT ap np mp tp aq nq mq tq) (g29_2 fR fT ap np mp tp aq nq mq tq)))
noncomputable abbrev g29_1:Prop:=(fR false (fR true (fT c29_e_11 (c29_e_3 mp tp mq tq) 20) (fR ((↑((c29_e_0 ap np tp aq nq tq).length):Int)==0) (fT c29_e_6 (c29_e_3 mp tp mq tq) 21) (fT (c29_e_12 ap np tp aq nq tq) (c29_e_9 ap np mp tp aq nq mq tq) 21))) (fR false (fT c29_e_6 (c29_e_3 mp tp mq tq) 20) (fR ((↑((c29_e_0 ap np tp aq nq tq).length):Int)==0) (fT c29_e_6 (c29_e_3 mp tp mq tq) 21) (fT (c29_e_12 ap np tp aq nq tq) (c29_e_9 ap np mp tp aq nq mq tq) 21))))
noncomputable abbrev g29_4:Prop:=(fR ((↑((c29_e_2 ap np tp aq nq tq).length):Int)==0) (g29_1 fR fT ap np mp tp aq nq mq tq) (fR (decide ((↑((c29_e_2 ap np tp aq nq tq).length):Int)>80)) (fR true (fT c29_e_11 (c29_e_3 mp tp mq tq) 20) (fR ((↑((c29_e_0 ap np tp aq nq tq).length):Int)==0) (fT c29_e_6 (c29_e_3 mp tp mq tq) 21) (fT (c29_e_12 ap np tp aq nq tq) (c29_e_9 ap np mp tp aq nq mq tq) 21))) (fR false (fT c29_e_6 (c29_e_3 mp tp mq tq) 20) (fR ((↑((c29_e_0 ap np tp aq nq tq).length):Int)==0) (fT (PV.tup [PV.agg [PV.tf false,PV.own 13 1 (c29_e_2 ap np tp aq nq tq).length],PV.agg [PV.tf false,PV.nils],PV.int .i64 (0:Int)]) (c29_e_17 ap np mp tp aq nq mq tq) 21) (fT (PV.tup [PV.agg [PV.tf false,PV.own 13 1 (c29_e_2 ap np tp aq nq tq).length],PV.agg [PV.tf false,PV.own 15 1 (c29_e_0 ap np tp aq nq tq).length],PV.int .i64 (0:Int)]) (c29_e_14 ap np mp tp aq nq mq tq) 21)))))
noncomputable abbrev g29_5:Prop:=(fR ((↑((c29_e_2 ap np tp aq nq tq).length):Int)==0) (g29_1 fR fT ap np mp tp aq nq mq tq) (fR (decide ((↑((c29_e_2 ap np tp aq nq tq).length):Int)>80)) (fR true (fT c29_e_11 (c29_e_3 mp tp mq tq) 20) (fR ((↑((c29_e_0 ap np tp aq nq tq).length):Int)==0) (fT c29_e_6 (c29_e_3 mp tp mq tq) 21) (fT (c29_e_12 ap np tp aq nq tq) (c29_e_9 ap np mp tp aq nq mq tq) 21))) (fR false (fT c29_e_6 (c29_e_3 mp tp mq tq) 20) (fR ((↑((c29_e_0 ap np tp aq nq tq).length):Int)==0) (fT (PV.tup [PV.agg [PV.tf true,PV.own 13 1 (c29_e_2 ap np tp aq nq tq).length],PV.agg [PV.tf false,PV.nils],PV.int .i64 (0:Int)]) (c29_e_17 ap np mp tp aq nq mq tq) 21) (fT (PV.tup [PV.agg [PV.tf true,PV.own 13 1 (c29_e_2 ap np tp aq nq tq).length],PV.agg [PV.tf false,PV.own 15 1 (c29_e_0 ap np tp aq nq tq).length],PV.int .i64 (0:Int)]) (c29_e_14 ap np mp tp aq nq mq tq) 21)))))
def Te29:Prop:=fR (decide (ap+np≤mp∧np≤1000000)) (fR (S.fV n1 np (FS tp ap)) (fR (decide (aq+nq≤mq∧nq≤1000000)) (fR (S.fV n2 nq (FS tq aq)) (fR ((nq:Int)==0) (fT (.tup [.agg [.tf false,.nils],.agg [.tf false,.nils],.int .i64 13]) (c29_e_3 mp tp mq tq) 8) (fR (decide ((ap+np≤mp∧aq+nq≤mq)∧(np≤900∧nq≤900)∧(S.fW np (FS tp ap))=true∧(S.fW nq (FS tq aq))=true∧0<nq)) (fR n1 (fR (decide ((↑((S.f0 ((S.val np (FS tp ap)) % S.val nq (FS tq aq))).length):Int)>0)) (fR (decide ((0+(c29_e_13 ap np tp aq nq tq).length≤(S.f0 ((S.val np (FS tp ap)) / S.val nq (FS tq aq))).length∧1≤1)∧((c29_e_13 ap np tp aq nq tq).length≤1000∧1≤1000)∧(S.fW (c29_e_13 ap np tp aq nq tq).length fun j=>S.at' (c29_e_13 ap np tp aq nq tq) j)=true∧true=true)) (fR (decide ((aq+nq≤mq∧0+(c29_e_15 ap np tp aq nq tq).length≤(S.f0 ((S.val np (FS tp ap)) % S.val nq (FS tq aq))).length)∧(nq≤1000∧(c29_e_15 ap np tp aq nq tq).length≤1000)∧(S.fW nq (FS tq aq))=true∧(S.fW (c29_e_15 ap np tp aq nq tq).length fun j=>S.at' (c29_e_15 ap np tp aq nq tq) j)=true∧(S.val (c29_e_15 ap np tp aq nq tq).length fun j=>S.at' (c29_e_15 ap np tp aq nq tq) j)≤S.val nq (FS tq aq))) (fR n1 (fR n2 (g29_4 fR fT ap np mp tp aq nq mq tq) (g29_5 fR fT ap np mp tp aq nq mq tq)) (fR n2 (g29_5 fR fT ap np mp tp aq nq mq tq) (g29_4 fR fT ap np mp tp aq nq mq tq))) False) False) (g29_0 fR fT n1 ap np mp tp n2 aq nq mq tq)) (g29_0 fR fT n1 ap np mp tp n2 aq nq mq tq)) False)) (fT (.tup [.agg [.tf false,.nils],.agg [.tf false,.nils],.int .i64 1]) (c29_e_3 mp tp mq tq) 8)) False) (fT (.tup [.agg [.tf false,.nils],.agg [.tf false,.nils],.int .i64 1]) (c29_e_3 mp tp mq tq) 7)) False
theorem te29:run fR Tryz.env true (xG2 fR) true 400 ⟨85,[.cd (zU Tryz.f85).body],z8 0 [.agg [.bool n1,.loose ⟨0,1,ap,0⟩ np],.agg [.bool n2,.loose ⟨1,1,aq,0⟩ nq]],[[],[(0,(false,CB mp tp)),(1,(false,CB mq tq))]],2⟩ (zr 2 [] fS fT)=
 Te29 fR fT n1 ap np mp tp n2 aq nq mq tq:=by kernel_rfl
noncomputable abbrev J29:Rt29→zS:=fun r=> [yC (2+1) ((N29) r)++ [(0,(false,CB mp tp)),(1,(false,CB mq tq))]]
attribute [local irreducible] Int.subNatNat in
theorem a29 {r:Rt29} (h:zY ((q29 n1 ap np mp tp n2 aq nq mq tq)) ((p29 n1 ap np mp tp n2 aq nq mq tq)) r):zn Tryz.prog 85 [.agg [.bool n1,.loose ⟨0,1,ap,0⟩ np],.agg [.bool n2,.loose ⟨1,1,aq,0⟩ nq]] [[(0,(false,CB mp tp)),(1,(false,CB mq tq))]] 2 ((V29) r) ((J29 mp tp mq tq) r) 400∧HB Tryz.prog 85:=by
 refine zf Tryz.envOk Tryz.mixed oe ((I29)) ((V29)) (J29 mp tp mq tq) (fn:=zU Tryz.f85) (ts:= []) (n:=400) rfl (by decide) (by simp) (zW rfl) ?_ ?_ ?_ h
 · intro s; exact s.elim
 · intro fS fT x hS hR h
   refine Holds.eq (te29 cond fS fT n1 ap np mp tp n2 aq nq mq tq) ?_
   unfold Te29
   unfold p29 at h
   refine zA h (fun c0 h=>zA h (fun c1 h=>zA h (fun c2 h=>zA h (fun c3 h=>zA h (fun c4 h=> ?_) (fun c4 h=>zA h (fun c5 h=>zA h (fun c6 h=>zA h (fun c7 h=>zA h (fun c8 h=>zA h (fun c9 h=>zJ c6 (zA h (fun c10 h=>zA h (fun c11 h=>zd rfl (zd rfl (zA h (fun c12 h=> ?_) (fun c12 h=> ?_)))) (fun c11 h=>zA h (fun c12 h=>zJ rfl (zV hR _ h (fun n=>bif Nat.beq n 3 then 399 else bif Nat.beq n 4 then 398 else n) rfl rfl rfl (zk ⟨(zc ⟨(zR rfl),(zO rfl),trivial⟩),(zc ⟨(yw rfl),(zO rfl),trivial⟩),(zI rfl),trivial⟩) rfl (zT (zD rfl) (za rfl) (zT (zD rfl) (za rfl) (zB (zC rfl) rfl rfl (zB (zC rfl) rfl rfl zE)))))) (fun c12 h=>zd rfl (zA h (fun c13 h=> ?_) (fun c13 h=> ?_))))) (fun c10 h=>zA h (fun c11 h=>zd rfl (zd rfl (zA h (fun c12 h=> ?_) (fun c12 h=> ?_)))) (fun c11 h=>zA h (fun c12 h=>zJ rfl (zV hR _ h (fun n=>bif Nat.beq n 3 then 399 else bif Nat.beq n 4 then 398 else n) rfl rfl rfl (zk ⟨(zc ⟨(zR rfl),(zO rfl),trivial⟩),(zc ⟨(yw rfl),(zO rfl),trivial⟩),(zI rfl),trivial⟩) rfl (zT (zD rfl) (za rfl) (zT (zD rfl) (za rfl) (zB (zC rfl) rfl rfl (zB (zC rfl) rfl rfl zE)))))) (fun c12 h=>zd rfl (zA h (fun c13 h=> ?_) (fun c13 h=> ?_))))))) (fun c9 h=> ?_)) (fun c8 h=> ?_)) (fun c7 h=>zJ c6 (zA h (fun c8 h=>zA h (fun c9 h=>zd rfl (zd rfl (zA h (fun c10 h=> ?_) (fun c10 h=> ?_)))) (fun c9 h=>zA h (fun c10 h=>zJ rfl (zV hR _ h (fun n=>bif Nat.beq n 3 then 399 else bif Nat.beq n 4 then 398 else n) rfl rfl rfl (zk ⟨(zc ⟨(zR rfl),(zO rfl),trivial⟩),(zc ⟨(yw rfl),(zO rfl),trivial⟩),(zI rfl),trivial⟩) rfl (zT (zD rfl) (za rfl) (zT (zD rfl) (za rfl) (zB (zC rfl) rfl rfl (zB (zC rfl) rfl rfl zE)))))) (fun c10 h=>zd rfl (zA h (fun c11 h=> ?_) (fun c11 h=> ?_))))) (fun c8 h=>zA h (fun c9 h=>zd rfl (zd rfl (zA h (fun c10 h=> ?_) (fun c10 h=> ?_)))) (fun c9 h=>zA h (fun c10 h=>zJ rfl (zV hR _ h (fun n=>bif Nat.beq n 3 then 399 else bif Nat.beq n 4 then 398 else n) rfl rfl rfl (zk ⟨(zc ⟨(zR rfl),(zO rfl),trivial⟩),(zc ⟨(yw rfl),(zO rfl),trivial⟩),(zI rfl),trivial⟩) rfl (zT (zD rfl) (za rfl) (zT (zD rfl) (za rfl) (zB (zC rfl) rfl rfl (zB (zC rfl) rfl rfl zE)))))) (fun c10 h=>zd rfl (zA h (fun c11 h=> ?_) (fun c11 h=> ?_)))))))) (fun c6 h=>zd c6 (zA h (fun c7 h=>zA h (fun c8 h=>zd rfl (zd rfl (zA h (fun c9 h=> ?_) (fun c9 h=> ?_)))) (fun c8 h=>zA h (fun c9 h=>zJ rfl (zV hR _ h (fun n=>bif Nat.beq n 3 then 399 else bif Nat.beq n 4 then 398 else n) rfl rfl rfl (zk ⟨(zc ⟨(zR rfl),(zO rfl),trivial⟩),(zc ⟨(yw rfl),(zO rfl),trivial⟩),(zI rfl),trivial⟩) rfl (zT (zD rfl) (za rfl) (zT (zD rfl) (za rfl) (zB (zC rfl) rfl rfl (zB (zC rfl) rfl rfl zE)))))) (fun c9 h=>zd rfl (zA h (fun c10 h=> ?_) (fun c10 h=> ?_))))) (fun c7 h=>zA h (fun c8 h=>zd rfl (zd rfl (zA h (fun c9 h=> ?_) (fun c9 h=> ?_)))) (fun c8 h=>zA h (fun c9 h=>zJ rfl (zV hR _ h (fun n=>bif Nat.beq n 3 then 399 else bif Nat.beq n 4 then 398 else n) rfl rfl rfl (zk ⟨(zc ⟨(zR rfl),(zO rfl),trivial⟩),(zc ⟨(yw rfl),(zO rfl),trivial⟩),(zI rfl),trivial⟩) rfl (zT (zD rfl) (za rfl) (zT (zD rfl) (za rfl) (zB (zC rfl) rfl rfl (zB (zC rfl) rfl rfl zE)))))) (fun c9 h=>zd rfl (zA h (fun c10 h=> ?_) (fun c10 h=> ?_)))))))) (fun c5 h=> ?_))) (fun c3 h=> ?_)) (fun c2 h=> ?_)) (fun c1 h=> ?_)) (fun c0 h=> ?_)
   all_goals first
     |exact zV hR _ h (fun n=>bif Nat.beq n 3 then 399 else bif Nat.beq n 4 then 398 else n) rfl rfl rfl (zk ⟨(zc ⟨(zR rfl),(zO rfl),trivial⟩),(zc ⟨(yw rfl),(zO rfl),trivial⟩),(zI rfl),trivial⟩) rfl (zT (zD rfl) (za rfl) (zT (zD rfl) (za rfl) (zB (zC rfl) rfl rfl (zB (zC rfl) rfl rfl zE))))
     |exact zF h
     |exact zV hR _ h (fun n=>bif Nat.beq n 3 then 9 else bif Nat.beq n 4 then 399 else n) rfl rfl rfl (zk ⟨(zc ⟨(zR rfl),(zO rfl),trivial⟩),(zc ⟨(yw rfl),(zX (zD rfl) rfl rfl),trivial⟩),(zI rfl),trivial⟩) rfl (zL (zD rfl) rfl (Nat.le_of_eq rfl) (zN (fun _ _=>rfl) zM) (zT (zD rfl) (za rfl) (zB (zC rfl) rfl rfl (zB (zC rfl) rfl rfl zE))))
     |exact zV hR _ h (fun n=>bif Nat.beq n 3 then 399 else bif Nat.beq n 4 then 10 else n) rfl rfl rfl (zk ⟨(zc ⟨(zR rfl),(zX (zD rfl) rfl rfl),trivial⟩),(zc ⟨(yw rfl),(zO rfl),trivial⟩),(zI rfl),trivial⟩) rfl (zT (zD rfl) (za rfl) (zL (zD rfl) rfl (Nat.le_of_eq rfl) (zN (fun _ _=>rfl) zM) (zB (zC rfl) rfl rfl (zB (zC rfl) rfl rfl zE))))
     |exact zV hR _ h (fun n=>bif Nat.beq n 3 then 9 else bif Nat.beq n 4 then 10 else n) rfl rfl rfl (zk ⟨(zc ⟨(zR rfl),(zX (zD rfl) rfl rfl),trivial⟩),(zc ⟨(yw rfl),(zX (zD rfl) rfl rfl),trivial⟩),(zI rfl),trivial⟩) rfl (zL (zD rfl) rfl (Nat.le_of_eq rfl) (zN (fun _ _=>rfl) zM) (zL (zD rfl) rfl (Nat.le_of_eq rfl) (zN (fun _ _=>rfl) zM) (zB (zC rfl) rfl rfl (zB (zC rfl) rfl rfl zE))))
     |exact zV hR _ h (fun n=>bif Nat.beq n 3 then 15 else bif Nat.beq n 4 then 399 else n) rfl rfl rfl (zk ⟨(zc ⟨(zR rfl),(zO rfl),trivial⟩),(zc ⟨(yw rfl),(zX (zD rfl) rfl rfl),trivial⟩),(zI rfl),trivial⟩) rfl (zL (zD rfl) rfl (Nat.le_of_eq rfl) (zN (fun _ _=>rfl) zM) (zT (zD rfl) (za rfl) (zB (zC rfl) rfl rfl (zB (zC rfl) rfl rfl zE))))
     |exact zV hR _ h (fun n=>bif Nat.beq n 3 then 399 else bif Nat.beq n 4 then 13 else n) rfl rfl rfl (zk ⟨(zc ⟨(zR rfl),(zX (zD rfl) rfl rfl),trivial⟩),(zc ⟨(yw rfl),(zO rfl),trivial⟩),(zI rfl),trivial⟩) rfl (zT (zD rfl) (za rfl) (zL (zD rfl) rfl (Nat.le_of_eq rfl) (zN (fun _ _=>rfl) zM) (zB (zC rfl) rfl rfl (zB (zC rfl) rfl rfl zE))))
     |exact zV hR _ h (fun n=>bif Nat.beq n 3 then 15 else bif Nat.beq n 4 then 13 else n) rfl rfl rfl (zk ⟨(zc ⟨(zR rfl),(zX (zD rfl) rfl rfl),trivial⟩),(zc ⟨(yw rfl),(zX (zD rfl) rfl rfl),trivial⟩),(zI rfl),trivial⟩) rfl (zL (zD rfl) rfl (Nat.le_of_eq rfl) (zN (fun _ _=>rfl) zM) (zL (zD rfl) rfl (Nat.le_of_eq rfl) (zN (fun _ _=>rfl) zM) (zB (zC rfl) rfl rfl (zB (zC rfl) rfl rfl zE))))
 · intro fS fT x hS hR s h; exact s.elim
end
noncomputable def k29:Con:=⟨85,[.agg [.plain (.bool),.list [.int .i64]],.agg [.plain (.bool),.list [.int .i64]]],w48 (fun n1 ap np mp tp n2 aq nq mq tq=>decide ((ap+np≤mp∧np≤1000000)∧aq+nq≤mq∧nq≤1000000)),w48 (fun n1 ap np mp tp n2 aq nq mq tq=>(V29) (S.fd n1 np (FS tp ap) n2 nq (FS tq aq))),w48 (fun n1 ap np mp tp n2 aq nq mq tq=>(N29) (S.fd n1 np (FS tp ap) n2 nq (FS tq aq))),fun _ _=> .dead⟩
theorem s29 (n1 : Bool) (ap np mp:Nat) (tp:Nat→Int) (n2:Bool) (aq nq mq:Nat) (tq:Nat→Int) (hp:(ap+np≤mp∧np≤1000000)∧aq+nq≤mq∧nq≤1000000):zY ((q29 n1 ap np mp tp n2 aq nq mq tq)) ((p29 n1 ap np mp tp n2 aq nq mq tq)) (((S.fd n1 np (fun j=>tp (j+ap)) n2 nq (fun j=>tq (j+aq))).1,(S.fd n1 np (fun j=>tp (j+ap)) n2 nq (fun j=>tq (j+aq))).2.1,(S.fd n1 np (fun j=>tp (j+ap)) n2 nq (fun j=>tq (j+aq))).2.2.1,(S.fd n1 np (fun j=>tp (j+ap)) n2 nq (fun j=>tq (j+aq))).2.2.2)):=by
 obtain ⟨⟨hp1,hp2⟩,hp3,hp4⟩:=hp
 have d1:ap+np≤mp∧np≤1000000:=⟨hp1,hp2⟩
 have d2:aq+nq≤mq∧nq≤1000000:=⟨hp3,hp4⟩
 unfold S.fd
 by_cases g1:S.fV n1 np (fun j=>tp (j+ap))=true
 · obtain ⟨l1, k1⟩ :=z9 g1
   by_cases g2:S.fV n2 nq (fun j=>tq (j+aq))=true
   · obtain ⟨l2, k2⟩:=z9 g2
     rw [if_pos ⟨g1,g2⟩]
     by_cases h0:nq=0
     · rw [if_pos h0]
       unfold p29
       simp only [g1,g2,decide_eq_true d1,decide_eq_true d2,cond_true]
       exact zH (by rw [h0]; rfl) (zG.mpr rfl)
     · rw [if_neg h0]
       have up:=yM (zi k1)
       have vp:=yV k2 (by omega)
       have ul:=z5 (zi k1) (Nat.le_refl np)
       have vl:=z5 (zi k2) (Nat.le_refl nq)
       rw [nA up vp]
       have hq:(ap+np≤mp∧aq+nq≤mq)∧(np≤900∧nq≤900)∧S.fW np (fun j=>tp (j+ap))=true∧S.fW nq (fun j=>tq (j+aq))=true∧0<nq:=⟨⟨hp1,hp3⟩,⟨by omega,by omega⟩,k1,k2,by omega⟩
       have e0:((nq:Int)==0)=false:=by rw [beq_eq_false_iff_ne]; omega
       have m0:=Int.emod_nonneg (S.val np (fun j=>tp (j+ap))) (show (S.val nq (fun j=>tq (j+aq)))≠0 by omega)
       have m1:=Int.emod_lt_of_pos (S.val np (fun j=>tp (j+ap))) vp
       have q0:=Int.ediv_nonneg up (show 0≤(S.val nq (fun j=>tq (j+aq))) by omega)
       have q1:=Int.ediv_le_self (S.val nq (fun j=>tq (j+aq))) up
       have hw:=uj (k:=np) (m:=80) l1
       obtain ⟨Q,hQ⟩: ∃ Q,(S.val np (fun j=>tp (j+ap))) / (S.val nq (fun j=>tq (j+aq)))=Q:=⟨_,rfl⟩
       obtain ⟨R,hR⟩: ∃ R,(S.val np (fun j=>tp (j+ap))) % (S.val nq (fun j=>tq (j+aq)))=R:=⟨_,rfl⟩
       rw [hQ] at q0 q1
       rw [hR] at m0 m1
       have lq:=zw (v:=Q) (n:=80) (by omega)
       have lq1:=zw (v:=Q+1) (n:=81) (by have:S.pw 81=1000000*S.pw 80:=rfl; have:=xH (k:=80); omega)
       have lr:=zw (v:=R) (n:=nq) (by omega)
       have lr1:=zw (v:=(S.val nq (fun j=>tq (j+aq)))-R) (n:=nq+1) (by have:S.pw (nq+1)=1000000*S.pw nq:=rfl; omega)
       have vQ:=zq q0
       have vR:=zq m0
       have vQ1:=zq (v:=Q+1) (by omega)
       have vR1:=zq (v:=(S.val nq (fun j=>tq (j+aq)))-R) (by omega)
       have a1:(0+(S.f0 Q).length≤(S.f0 Q).length∧1≤1)∧((S.f0 Q).length≤1000∧1≤1000)∧(S.fW (S.f0 Q).length fun j=>S.at' (S.f0 Q) j)=true∧true=true:=⟨⟨by omega,by omega⟩,⟨by omega,by omega⟩,yE,rfl⟩
       have a2:(aq+nq≤mq∧0+(S.f0 R).length≤(S.f0 R).length)∧(nq≤1000∧(S.f0 R).length≤1000)∧S.fW nq (fun j=>tq (j+aq))=true∧(S.fW (S.f0 R).length fun j=>S.at' (S.f0 R) j)=true∧R≤(S.val nq (fun j=>tq (j+aq))):=⟨⟨hp3,by omega⟩,⟨by omega,by omega⟩,k2,yE,by omega⟩
       have b1:0+(S.f0 Q).length≤(S.f0 Q).length∧(S.f0 Q).length≤1000000∧(S.fX (S.f0 Q).length fun j=>S.at' (S.f0 Q) j)=true:=⟨by omega,by omega,zi yE⟩
       have b2:0+(S.f0 R).length≤(S.f0 R).length∧(S.f0 R).length≤1000000∧(S.fX (S.f0 R).length fun j=>S.at' (S.f0 R) j)=true:=⟨by omega,by omega,zi yE⟩
       have b3:0+(S.f0 (Q+1)).length≤(S.f0 (Q+1)).length∧(S.f0 (Q+1)).length≤1000000∧(S.fX (S.f0 (Q+1)).length fun j=>S.at' (S.f0 (Q+1)) j)=true:=⟨by omega,by omega,zi yE⟩
       have b4:0+(S.f0 ((S.val nq (fun j=>tq (j+aq)))-R)).length≤(S.f0 ((S.val nq (fun j=>tq (j+aq)))-R)).length∧(S.f0 ((S.val nq (fun j=>tq (j+aq)))-R)).length≤1000000∧(S.fX (S.f0 ((S.val nq (fun j=>tq (j+aq)))-R)).length fun j=>S.at' (S.f0 ((S.val nq (fun j=>tq (j+aq)))-R)) j)=true:=⟨by omega,by omega,zi yE⟩
       unfold p29
       simp only [-eq_self,g1,g2,decide_eq_true d1,decide_eq_true d2,cond_true,cond_false,e0,decide_eq_true hq,c29_e_0,c29_e_1,c29_e_2,c29_e_3,c29_e_4,c29_e_5,c29_e_6,c29_e_7,c29_e_8,c29_e_9,c29_e_10,c29_e_11,c29_e_12,c29_e_13,c29_e_14,c29_e_15,c29_e_16,c29_e_17,d29_0,d29_1,S.eY,hQ,hR,vQ,vR,decide_eq_true a1,decide_eq_true a2,vQ1,vR1,decide_eq_true b1,decide_eq_true b2,decide_eq_true b3,decide_eq_true b4]
       have hR0:((S.f0 R).length:Int)>0↔R>0:=by
        have:= @yq R
        omega
       have key: ∀ (c:Bool) (q r:Int),0≤q→(S.dq n1 (S.val np (fun j=>tp (j+ap))) (S.val nq (fun j=>tq (j+aq)))=q)→S.dr n1 (S.val np (fun j=>tp (j+ap))) (S.val nq (fun j=>tq (j+aq)))=r→(n1 != n2)=c→((if (S.f0 (S.dq n1 (S.val np (fun j=>tp (j+ap))) (S.val nq (fun j=>tq (j+aq))))).length>80 then ((false,3,[],[]):Bool×Int×List Int×List Int) else (S.fy (n1 != n2) (S.dq n1 (S.val np (fun j=>tp (j+ap))) (S.val nq (fun j=>tq (j+aq)))),0,S.f0 (S.dr n1 (S.val np (fun j=>tp (j+ap))) (S.val nq (fun j=>tq (j+aq)))),S.f0 (S.dq n1 (S.val np (fun j=>tp (j+ap))) (S.val nq (fun j=>tq (j+aq)))))))=if (S.f0 q).length>80 then (false,3,[],[]) else (S.fy c q,0,S.f0 r,S.f0 q):=fun c q r h0 h1 h2 h3=>by rw [h1,h2,h3]
       clear hq a1 a2 b1 b2 b3 b4 vQ vR vQ1 vR1 up vp ul vl k1 k2 g1 g2 hw
       cases n1
       · have e1 :S.dq false (S.val np (fun j=>tp (j+ap))) (S.val nq (fun j=>tq (j+aq)))=Q∧S.dr false (S.val np (fun j=>tp (j+ap))) (S.val nq (fun j=>tq (j+aq)))=R:=by
          unfold S.dq S.dr
          simp only [Bool.false_eq_true,false_and,if_false]
          exact ⟨hQ,hR⟩
         cases n2<;>
         (rw [key _ (Q) (R) (by omega) e1.1 e1.2 rfl]
          simp only [cond_true,cond_false]
          repeat' first
            |with_reducible refine zP (fun h=> ?_) (fun h=> ?_)<;>(try simp only [SH] at h)
          all_goals first
            |(exfalso; omega)
            |(rw [if_pos (by omega)]; exact zG.mpr rfl)
            | (rw [if_neg (by omega)]
               refine zG.mpr ?_
               first
                 |rfl
                 |exact congrArg G9 (mJ (q:=Q) (r:=R) (by omega) (by assumption) (by assumption)).symm
                 |exact congrArg G9 (mX (q:=Q) (r:=R) (by omega) (by assumption)).symm
                 |exact congrArg G9 (mE (q:=Q) (r:=R) (by assumption) (by assumption)).symm
                 |exact congrArg G9 (md (q:=Q) (r:=R) (by assumption)).symm))
       · by_cases hr:R>0
         · have e1 :S.dq true (S.val np (fun j=>tp (j+ap))) (S.val nq (fun j=>tq (j+aq)))=Q+1∧S.dr true (S.val np (fun j=>tp (j+ap))) (S.val nq (fun j=>tq (j+aq)))=(S.val nq (fun j=>tq (j+aq)))-R:=by
            unfold S.dq S.dr
            rw [hR,if_pos ⟨rfl,hr⟩,if_pos ⟨rfl,hr⟩]
            exact ⟨by rw [hQ],rfl⟩
           cases n2<;>
           (rw [key _ (Q+1) ((S.val nq (fun j=>tq (j+aq)))-R) (by omega) e1.1 e1.2 rfl]
            simp only [cond_true,cond_false,decide_eq_true (hR0.mpr hr)]
            repeat' first
              |with_reducible refine zP (fun h=> ?_) (fun h=> ?_)<;>(try simp only [SH] at h)
            all_goals first
              |(exfalso; omega)
              |(rw [if_pos (by omega)]; exact zG.mpr rfl)
              | (rw [if_neg (by omega)]
                 refine zG.mpr ?_
                 first
                   |rfl
                   |exact congrArg G9 (mJ (q:=Q+1) (r:=(S.val nq (fun j=>tq (j+aq)))-R) (by omega) (by assumption) (by assumption)).symm
                   |exact congrArg G9 (mX (q:=Q+1) (r:=(S.val nq (fun j=>tq (j+aq)))-R) (by omega) (by assumption)).symm
                   |exact congrArg G9 (mE (q:=Q+1) (r:=(S.val nq (fun j=>tq (j+aq)))-R) (by assumption) (by assumption)).symm
                   |exact congrArg G9 (md (q:=Q+1) (r:=(S.val nq (fun j=>tq (j+aq)))-R) (by assumption)).symm))
         · have e1 :S.dq true (S.val np (fun j=>tp (j+ap))) (S.val nq (fun j=>tq (j+aq)))=Q∧S.dr true (S.val np (fun j=>tp (j+ap))) (S.val nq (fun j=>tq (j+aq)))=R:=by
            unfold S.dq S.dr
            rw [hR,if_neg (fun h=>hr h.2),if_neg (fun h=>hr h.2)]
            exact ⟨hQ,rfl⟩
           cases n2<;>
           (rw [key _ (Q) (R) (by omega) e1.1 e1.2 rfl]
            simp only [cond_true,cond_false,decide_eq_false (fun h=>hr (hR0.mp h))]
            repeat' first
              |with_reducible refine zP (fun h=> ?_) (fun h=> ?_)<;>(try simp only [SH] at h)
            all_goals first
              |(exfalso; omega)
              |(rw [if_pos (by omega)]; exact zG.mpr rfl)
              | (rw [if_neg (by omega)]
                 refine zG.mpr ?_
                 first
                   |rfl
                   |exact congrArg G9 (mJ (q:=Q) (r:=R) (by omega) (by assumption) (by assumption)).symm
                   |exact congrArg G9 (mX (q:=Q) (r:=R) (by omega) (by assumption)).symm
                   |exact congrArg G9 (mE (q:=Q) (r:=R) (by assumption) (by assumption)).symm
                   |exact congrArg G9 (md (q:=Q) (r:=R) (by assumption)).symm))
   · rw [if_neg (fun h=>g2 h.2)]
     have g2:=Bool.not_eq_true _ ▸ g2
     unfold p29
     simp only [cond_true,cond_false,g1,g2,decide_eq_true d1,decide_eq_true d2]
     exact zG.mpr rfl
 · rw [if_neg (fun h=>g1 h.1)]
   have g1:=Bool.not_eq_true _ ▸ g1
   unfold p29
   simp only [cond_true,cond_false,g1,decide_eq_true d1]
   exact zG.mpr rfl
theorem k29_ok:k29.ok Tryz.prog:=by
 intro x hx
 obtain ⟨⟨n1,⟨ap,np,mp,tp,_⟩,_⟩,⟨n2,⟨aq,nq,mq,tq,_⟩,_⟩,_⟩:=x
 obtain ⟨h1,h2⟩:=a29 n1 ap np mp tp n2 aq nq mq tq (s29 n1 ap np mp tp n2 aq nq mq tq (zm hx rfl))
 exact ⟨⟨400,(by decide:2+1+2≤400),h1⟩,h2⟩
section
variable (fR:TT) (fS:KS) (fT:KR) (n1:Bool) (ap np mp:Nat) (tp:NI) (n2:Bool) (aq nq mq:Nat) (tq:NI)
noncomputable abbrev c30_e_0:=S.val (S.f0 ((S.val np fun j=>tp (j+ap)) / S.val nq fun j=>tq (j+aq))).length fun j=>S.at' (S.f0 ((S.val np fun j=>tp (j+ap)) / S.val nq fun j=>tq (j+aq))) j
noncomputable abbrev c30_e_1:=S.f0 ((S.val np fun j=>tp (j+ap)) % S.val nq fun j=>tq (j+aq))
noncomputable abbrev c30_e_2:=decide (0+(S.f0 ((S.val np fun j=>tp (j+ap)) % S.val nq fun j=>tq (j+aq))).length≤(S.f0 ((S.val np fun j=>tp (j+ap)) % S.val nq fun j=>tq (j+aq))).length∧(S.f0 ((S.val np fun j=>tp (j+ap)) % S.val nq fun j=>tq (j+aq))).length≤1000000∧(S.fX (S.f0 ((S.val np fun j=>tp (j+ap)) % S.val nq fun j=>tq (j+aq))).length fun j=>S.at' (S.f0 ((S.val np fun j=>tp (j+ap)) % S.val nq fun j=>tq (j+aq))) j)=true)
noncomputable abbrev c30_e_3:=S.f0 (S.val (S.f0 ((S.val nq fun j=>tq (j+aq))-S.val (S.f0 ((S.val np fun j=>tp (j+ap)) % S.val nq fun j=>tq (j+aq))).length fun j=>S.at' (S.f0 ((S.val np fun j=>tp (j+ap)) % S.val nq fun j=>tq (j+aq))) j)).length fun j=>S.at' (S.f0 ((S.val nq fun j=>tq (j+aq))-S.val (S.f0 ((S.val np fun j=>tp (j+ap)) % S.val nq fun j=>tq (j+aq))).length fun j=>S.at' (S.f0 ((S.val np fun j=>tp (j+ap)) % S.val nq fun j=>tq (j+aq))) j)) j)
noncomputable abbrev c30_e_4:=decide (0+(S.f0 ((S.val nq fun j=>tq (j+aq))-S.val (c30_e_1 ap np tp aq nq tq).length fun j=>S.at' (c30_e_1 ap np tp aq nq tq) j)).length≤(S.f0 ((S.val nq fun j=>tq (j+aq))-S.val (c30_e_1 ap np tp aq nq tq).length fun j=>S.at' (c30_e_1 ap np tp aq nq tq) j)).length∧(S.f0 ((S.val nq fun j=>tq (j+aq))-S.val (c30_e_1 ap np tp aq nq tq).length fun j=>S.at' (c30_e_1 ap np tp aq nq tq) j)).length≤1000000∧(S.fX (S.f0 ((S.val nq fun j=>tq (j+aq))-S.val (c30_e_1 ap np tp aq nq tq).length fun j=>S.at' (c30_e_1 ap np tp aq nq tq) j)).length fun j=>S.at' (S.f0 ((S.val nq fun j=>tq (j+aq))-S.val (c30_e_1 ap np tp aq nq tq).length fun j=>S.at' (c30_e_1 ap np tp aq nq tq) j)) j)=true)
noncomputable abbrev c30_e_5:=S.val (Prod.fst (S.eY ((S.val (S.f0 ((S.val np fun j=>tp (j+ap)) / S.val nq fun j=>tq (j+aq))).length fun j=>S.at' (S.f0 ((S.val np fun j=>tp (j+ap)) / S.val nq fun j=>tq (j+aq))) j)+1))) fun j=>S.at' (Prod.snd (S.eY ((S.val (S.f0 ((S.val np fun j=>tp (j+ap)) / S.val nq fun j=>tq (j+aq))).length fun j=>S.at' (S.f0 ((S.val np fun j=>tp (j+ap)) / S.val nq fun j=>tq (j+aq))) j)+1))) j
noncomputable abbrev c30_e_6:=S.val (S.f0 ((S.val nq fun j=>tq (j+aq))-S.val (S.f0 ((S.val np fun j=>tp (j+ap)) % S.val nq fun j=>tq (j+aq))).length fun j=>S.at' (c30_e_1 ap np tp aq nq tq) j)).length fun j=>S.at' (S.f0 ((S.val nq fun j=>tq (j+aq))-S.val (S.f0 ((S.val np fun j=>tp (j+ap)) % S.val nq fun j=>tq (j+aq))).length fun j=>S.at' (c30_e_1 ap np tp aq nq tq) j)) j
noncomputable abbrev c30_e_7:=decide (0+(S.f0 ((S.val np fun j=>tp (j+ap)) / S.val nq fun j=>tq (j+aq))).length≤(S.f0 ((S.val np fun j=>tp (j+ap)) / S.val nq fun j=>tq (j+aq))).length∧(S.f0 ((S.val np fun j=>tp (j+ap)) / S.val nq fun j=>tq (j+aq))).length≤1000000∧(S.fX (S.f0 ((S.val np fun j=>tp (j+ap)) / S.val nq fun j=>tq (j+aq))).length fun j=>S.at' (S.f0 ((S.val np fun j=>tp (j+ap)) / S.val nq fun j=>tq (j+aq))) j)=true)
noncomputable abbrev c30_e_8:=S.val (c30_e_1 ap np tp aq nq tq).length fun j=>S.at' (c30_e_1 ap np tp aq nq tq) j
noncomputable abbrev c30_e_9:=S.f0 (S.val (Prod.fst (S.eY ((S.val (S.f0 ((S.val np fun j=>tp (j+ap)) / S.val nq fun j=>tq (j+aq))).length fun j=>S.at' (S.f0 ((S.val np fun j=>tp (j+ap)) / S.val nq fun j=>tq (j+aq))) j)+1))) fun j=>S.at' (Prod.snd (S.eY ((S.val (S.f0 ((S.val np fun j=>tp (j+ap)) / S.val nq fun j=>tq (j+aq))).length fun j=>S.at' (S.f0 ((S.val np fun j=>tp (j+ap)) / S.val nq fun j=>tq (j+aq))) j)+1))) j)
noncomputable abbrev c30_e_10:=([[(1,false,Blk.cols mq [Col.int .i64 tq]),(0,false,Blk.cols mp [Col.int .i64 tp]),(17,true,Blk.cols (S.f0 (c30_e_8 ap np tp aq nq tq)).length [Col.int .i64 fun j=>S.at' (S.f0 (c30_e_8 ap np tp aq nq tq)) j]),(12,true,Blk.cols (S.f0 (c30_e_0 ap np tp aq nq tq)).length [Col.int .i64 fun j=>S.at' (S.f0 (c30_e_0 ap np tp aq nq tq)) j])]])
noncomputable abbrev c30_e_11:=decide (0+Prod.fst (S.eY ((c30_e_0 ap np tp aq nq tq)+1))≤(Prod.snd (S.eY ((c30_e_0 ap np tp aq nq tq)+1))).length∧Prod.fst (S.eY ((c30_e_0 ap np tp aq nq tq)+1))≤1000000∧(S.fX (Prod.fst (S.eY ((c30_e_0 ap np tp aq nq tq)+1))) fun j=>S.at' (Prod.snd (S.eY ((c30_e_0 ap np tp aq nq tq)+1))) j)=true)
noncomputable abbrev c30_e_12:=([[(1,false,Blk.cols mq [Col.int .i64 tq]),(0,false,Blk.cols mp [Col.int .i64 tp])]])
noncomputable abbrev c30_e_13:=([[(1,false,Blk.cols mq [Col.int .i64 tq]),(0,false,Blk.cols mp [Col.int .i64 tp]),(17,true,Blk.cols (S.f0 (c30_e_8 ap np tp aq nq tq)).length [Col.int .i64 fun j=>S.at' (S.f0 (c30_e_8 ap np tp aq nq tq)) j])]])
noncomputable abbrev c30_e_14:=S.val (S.f0 ((S.val np fun j=>tp (j+ap)) / S.val nq fun j=>tq (j+aq))).length fun j=>S.at' (S.f0 ((S.val np fun j=>tp (j+ap)) / S.val nq fun j=>tq (j+aq))) j
noncomputable abbrev c30_e_15:=S.val (S.f0 ((S.val np fun j=>tp (j+ap)) % S.val nq fun j=>tq (j+aq))).length fun j=>S.at' (S.f0 ((S.val np fun j=>tp (j+ap)) % S.val nq fun j=>tq (j+aq))) j
noncomputable abbrev c30_e_16:=(PV.tup [PV.agg [PV.tf false,PV.nils],PV.agg [PV.bool (S.fy false (c30_e_8 ap np tp aq nq tq)),PV.own 17 1 (S.f0 (c30_e_8 ap np tp aq nq tq)).length],PV.int .i64 (0:Int)])
noncomputable abbrev c30_e_17:=([[(1,false,Blk.cols mq [Col.int .i64 tq]),(0,false,Blk.cols mp [Col.int .i64 tp]),(22,true,Blk.cols (S.f0 (c30_e_6 ap np tp aq nq tq)).length [Col.int .i64 fun j=>S.at' (c30_e_3 ap np tp aq nq tq) j]),(17,true,Blk.cols (S.f0 (c30_e_5 ap np tp aq nq tq)).length [Col.int .i64 fun j=>S.at' (c30_e_9 ap np tp aq nq tq) j])]])
noncomputable abbrev c30_e_18:=S.val (S.f0 ((S.val nq fun j=>tq (j+aq))-S.val (c30_e_1 ap np tp aq nq tq).length fun j=>S.at' (c30_e_1 ap np tp aq nq tq) j)).length fun j=>S.at' (S.f0 ((S.val nq fun j=>tq (j+aq))-S.val (c30_e_1 ap np tp aq nq tq).length fun j=>S.at' (c30_e_1 ap np tp aq nq tq) j)) j
noncomputable abbrev c30_e_19:=(PV.tup [PV.agg [PV.bool (S.fy false (c30_e_0 ap np tp aq nq tq)),PV.own 12 1 (S.f0 (c30_e_0 ap np tp aq nq tq)).length],PV.agg [PV.bool (S.fy false (c30_e_8 ap np tp aq nq tq)),PV.own 17 1 (S.f0 (c30_e_8 ap np tp aq nq tq)).length],PV.int .i64 (0:Int)])
noncomputable abbrev c30_e_20:=(PV.tup [PV.agg [PV.bool (S.fy true (c30_e_0 ap np tp aq nq tq)),PV.own 12 1 (S.f0 (c30_e_0 ap np tp aq nq tq)).length],PV.agg [PV.bool (S.fy false (c30_e_8 ap np tp aq nq tq)),PV.own 17 1 (S.f0 (c30_e_8 ap np tp aq nq tq)).length],PV.int .i64 (0:Int)])
noncomputable abbrev c30_e_21:=(PV.tup [PV.agg [PV.tf false,PV.nils],PV.agg [PV.tf false,PV.nils],PV.int .i64 (3:Int)])
noncomputable abbrev c30_e_22:=(PV.tup [PV.agg [PV.tf false,PV.nils],PV.agg [PV.tf false,PV.nils],PV.int .i64 (0:Int)])
noncomputable abbrev c30_e_23:=([[(1,false,Blk.cols mq [Col.int .i64 tq]),(0,false,Blk.cols mp [Col.int .i64 tp]),(22,true,Blk.cols (S.f0 (c30_e_6 ap np tp aq nq tq)).length [Col.int .i64 fun j=>S.at' (c30_e_3 ap np tp aq nq tq) j])]])
abbrev St30:=Empty
abbrev Rt30:=Bool×Bool×Int×List Int×List Int
noncomputable def V30 (r:Rt30):PV:= .tup [.agg [.bool r.1,.own 4 1 r.2.2.2.2.length],.agg [.bool r.2.1,.own 3 1 r.2.2.2.1.length],.int .i64 r.2.2.1]
noncomputable def N30 (r:Rt30):List Blk:= [CI r.2.2.2.1,CI r.2.2.2.2]
noncomputable def I30:St30→Hd:=fun s=>s.elim
noncomputable def q30 (n1:Bool) (ap np mp:Nat) (tp:NI) (n2:Bool) (aq nq mq:Nat) (tq:NI):St30→Option (St30⊕Rt30):=fun s=>s.elim
noncomputable def p30 (n1:Bool) (ap np mp:Nat) (tp:NI) (n2:Bool) (aq nq mq:Nat) (tq:NI):Option (St30⊕Rt30):=bif (decide (ap+np≤mp∧np≤1000000)) then (bif (S.fV n1 np fun j=>tp (j+ap)) then (bif (decide (aq+nq≤mq∧nq≤1000000)) then (bif (S.fV n2 nq fun j=>tq (j+aq)) then (bif ((nq:Int)==0) then (some (.inr (false,false,(13:Int),[],[]))) else (bif (decide ((ap+np≤mp∧aq+nq≤mq)∧(np≤900∧nq≤900)∧(S.fW np fun j=>tp (j+ap))=true∧(S.fW nq fun j=>tq (j+aq))=true∧0<nq)) then (bif n1 then (bif (decide ((↑((S.f0 ((S.val np fun j=>tp (j+ap)) % S.val nq fun j=>tq (j+aq))).length):Int)>0)) then (bif (decide ((0+(S.f0 ((S.val np fun j=>tp (j+ap)) / S.val nq fun j=>tq (j+aq))).length≤(S.f0 ((S.val np fun j=>tp (j+ap)) / S.val nq fun j=>tq (j+aq))).length∧1≤1)∧((S.f0 ((S.val np fun j=>tp (j+ap)) / S.val nq fun j=>tq (j+aq))).length≤1000∧1≤1000)∧(S.fW (S.f0 ((S.val np fun j=>tp (j+ap)) / S.val nq fun j=>tq (j+aq))).length fun j=>S.at' (S.f0 ((S.val np fun j=>tp (j+ap)) / S.val nq fun j=>tq (j+aq))) j)=true∧true=true)) then (bif (decide ((aq+nq≤mq∧0+(c30_e_1 ap np tp aq nq tq).length≤(S.f0 ((S.val np fun j=>tp (j+ap)) % S.val nq fun j=>tq (j+aq))).length)∧(nq≤1000∧(c30_e_1 ap np tp aq nq tq).length≤1000)∧(S.fW nq fun j=>tq (j+aq))=true∧(S.fW (c30_e_1 ap np tp aq nq tq).length fun j=>S.at' (c30_e_1 ap np tp aq nq tq) j)=true∧(c30_e_8 ap np tp aq nq tq)≤S.val nq fun j=>tq (j+aq))) then (bif n2 then (bif (c30_e_11 ap np tp aq nq tq) then (bif (decide ((↑((S.f0 (c30_e_5 ap np tp aq nq tq)).length):Int)>80)) then (some (.inr (false,false,(3:Int),[],[]))) else (bif (c30_e_4 ap np tp aq nq tq) then (some (.inr (S.fy false (S.val (Prod.fst (S.eY ((c30_e_0 ap np tp aq nq tq)+1))) fun j=>S.at' (Prod.snd (S.eY ((c30_e_0 ap np tp aq nq tq)+1))) j),S.fy false (c30_e_18 ap np tp aq nq tq),(0:Int),S.f0 (c30_e_18 ap np tp aq nq tq),S.f0 (S.val (Prod.fst (S.eY ((c30_e_0 ap np tp aq nq tq)+1))) fun j=>S.at' (Prod.snd (S.eY ((c30_e_0 ap np tp aq nq tq)+1))) j)))) else none)) else none) else (bif (c30_e_11 ap np tp aq nq tq) then (bif (decide ((↑((S.f0 (c30_e_5 ap np tp aq nq tq)).length):Int)>80)) then (some (.inr (false,false,(3:Int),[],[]))) else (bif (c30_e_4 ap np tp aq nq tq) then (some (.inr (S.fy true (S.val (Prod.fst (S.eY ((c30_e_0 ap np tp aq nq tq)+1))) fun j=>S.at' (Prod.snd (S.eY ((c30_e_0 ap np tp aq nq tq)+1))) j),S.fy false (c30_e_18 ap np tp aq nq tq),(0:Int),S.f0 (c30_e_18 ap np tp aq nq tq),S.f0 (S.val (Prod.fst (S.eY ((c30_e_0 ap np tp aq nq tq)+1))) fun j=>S.at' (Prod.snd (S.eY ((c30_e_0 ap np tp aq nq tq)+1))) j)))) else none)) else none)) else none) else none) else (bif n2 then (bif (c30_e_7 ap np tp aq nq tq) then (bif (decide ((↑((S.f0 (c30_e_0 ap np tp aq nq tq)).length):Int)>80)) then (some (.inr (false,false,(3:Int),[],[]))) else (bif (c30_e_2 ap np tp aq nq tq) then (some (.inr (S.fy false (c30_e_14 ap np tp aq nq tq),S.fy false (c30_e_15 ap np tp aq nq tq),(0:Int),S.f0 (c30_e_15 ap np tp aq nq tq),S.f0 (c30_e_14 ap np tp aq nq tq)))) else none)) else none) else (bif (c30_e_7 ap np tp aq nq tq) then (bif (decide ((↑((S.f0 (c30_e_0 ap np tp aq nq tq)).length):Int)>80)) then (some (.inr (false,false,(3:Int),[],[]))) else (bif (c30_e_2 ap np tp aq nq tq) then (some (.inr (S.fy true (c30_e_14 ap np tp aq nq tq),S.fy false (c30_e_15 ap np tp aq nq tq),(0:Int),S.f0 (c30_e_15 ap np tp aq nq tq),S.f0 (c30_e_14 ap np tp aq nq tq)))) else none)) else none))) else (bif n2 then (bif (c30_e_7 ap np tp aq nq tq) then (bif (decide ((↑((S.f0 (c30_e_0 ap np tp aq nq tq)).length):Int)>80)) then (some (.inr (false,false,(3:Int),[],[]))) else (bif (c30_e_2 ap np tp aq nq tq) then (some (.inr (S.fy true (c30_e_14 ap np tp aq nq tq),S.fy false (c30_e_15 ap np tp aq nq tq),(0:Int),S.f0 (c30_e_15 ap np tp aq nq tq),S.f0 (c30_e_14 ap np tp aq nq tq)))) else none)) else none) else (bif (c30_e_7 ap np tp aq nq tq) then (bif (decide ((↑((S.f0 (c30_e_0 ap np tp aq nq tq)).length):Int)>80)) then (some (.inr (false,false,(3:Int),[],[]))) else (bif (c30_e_2 ap np tp aq nq tq) then (some (.inr (S.fy false (c30_e_14 ap np tp aq nq tq),S.fy false (c30_e_15 ap np tp aq nq tq),(0:Int),S.f0 (c30_e_15 ap np tp aq nq tq),S.f0 (c30_e_14 ap np tp aq nq tq)))) else none)) else none))) else none)) else (some (.inr (false,false,(1:Int),[],[])))) else none) else (some (.inr (false,false,(1:Int),[],[])))) else none
noncomputable abbrev g30_4:Prop:=(fR (c30_e_7 ap np tp aq nq tq) (fR (decide ((↑((S.f0 (c30_e_0 ap np tp aq nq tq)).length):Int)>80)) (fR true (fT c30_e_21 (c30_e_12 mp tp mq tq) 16) (fR (c30_e_2 ap np tp aq nq tq) (fT (c30_e_16 ap np tp aq nq tq) (c30_e_13 ap np mp tp aq nq mq tq) 18) False)) (fR false (fT c30_e_22 (c30_e_12 mp tp mq tq) 16) (fR (c30_e_2 ap np tp aq nq tq) (fT (c30_e_19 ap np tp aq nq tq) (c30_e_10 ap np mp tp aq nq mq tq) 18) False))) False)
noncomputable abbrev g30_3:Prop:=(fR (c30_e_7 ap np tp aq nq tq) (fR (decide ((↑((S.f0 (c30_e_0 ap np tp aq nq tq)).length):Int)>80)) (fR true (fT c30_e_21 (c30_e_12 mp tp mq tq) 16) (fR (c30_e_2 ap np tp aq nq tq) (fT (c30_e_16 ap np tp aq nq tq) (c30_e_13 ap np mp tp aq nq mq tq) 18) False)) (fR false (fT c30_e_22 (c30_e_12 mp tp mq tq) 16) (fR (c30_e_2 ap np tp aq nq tq) (fT (c30_e_20 ap np tp aq nq tq) (c30_e_10 ap np mp tp aq nq mq tq) 18) False))) False)
noncomputable abbrev g30_0:Prop:=(fR n1 (fR n2 (g30_4 fR fT ap np mp tp aq nq mq tq) (g30_3 fR fT ap np mp tp aq nq mq tq)) (fR n2 (g30_3 fR fT ap np mp tp aq nq mq tq) (g30_4 fR fT ap np mp tp aq nq mq tq)))
noncomputable abbrev g30_1:Prop:=(fR (c30_e_11 ap np tp aq nq tq) (fR (decide ((↑((S.f0 (c30_e_5 ap np tp aq nq tq)).length):Int)>80)) (fR true (fT c30_e_21 (c30_e_12 mp tp mq tq) 21) (fR (c30_e_4 ap np tp aq nq tq) (fT (PV.tup [PV.agg [PV.tf false,PV.nils],PV.agg [PV.bool (S.fy false (c30_e_6 ap np tp aq nq tq)),PV.own 22 1 (c30_e_3 ap np tp aq nq tq).length],PV.int .i64 (0:Int)]) (c30_e_23 ap np mp tp aq nq mq tq) 23) False)) (fR false (fT c30_e_22 (c30_e_12 mp tp mq tq) 21) (fR (c30_e_4 ap np tp aq nq tq) (fT (PV.tup [PV.agg [PV.bool (S.fy false (c30_e_5 ap np tp aq nq tq)),PV.own 17 1 (c30_e_9 ap np tp aq nq tq).length],PV.agg [PV.bool (S.fy false (c30_e_6 ap np tp aq nq tq)),PV.own 22 1 (c30_e_3 ap np tp aq nq tq).length],PV.int .i64 (0:Int)]) (c30_e_17 ap np mp tp aq nq mq tq) 23) False))) False)
noncomputable abbrev g30_2:Prop:=(fR (c30_e_11 ap np tp aq nq tq) (fR (decide ((↑((S.f0 (c30_e_5 ap np tp aq nq tq)).length):Int)>80)) (fR true (fT c30_e_21 (c30_e_12 mp tp mq tq) 21) (fR (c30_e_4 ap np tp aq nq tq) (fT (PV.tup [PV.agg [PV.tf false,PV.nils],PV.agg [PV.bool (S.fy false (c30_e_6 ap np tp aq nq tq)),PV.own 22 1 (c30_e_3 ap np tp aq nq tq).length],PV.int .i64 (0:Int)]) (c30_e_23 ap np mp tp aq nq mq tq) 23) False)) (fR false (fT c30_e_22 (c30_e_12 mp tp mq tq) 21) (fR (c30_e_4 ap np tp aq nq tq) (fT (PV.tup [PV.agg [PV.bool (S.fy true (c30_e_5 ap np tp aq nq tq)),PV.own 17 1 (c30_e_9 ap np tp aq nq tq).length],PV.agg [PV.bool (S.fy false (c30_e_6 ap np tp aq nq tq)),PV.own 22 1 (c30_e_3 ap np tp aq nq tq).length],PV.int .i64 (0:Int)]) (c30_e_17 ap np mp tp aq nq mq tq) 23) False))) False)
def Te30:Prop:=fR (decide (ap+np≤mp∧np≤1000000)) (fR (S.fV n1 np (FS tp ap)) (fR (decide (aq+nq≤mq∧nq≤1000000)) (fR (S.fV n2 nq (FS tq aq)) (fR ((nq:Int)==0) (fT (.tup [.agg [.tf false,.nils],.agg [.tf false,.nils],.int .i64 13]) (c30_e_12 mp tp mq tq) 8) (fR (decide ((ap+np≤mp∧aq+nq≤mq)∧(np≤900∧nq≤900)∧(S.fW np (FS tp ap))=true∧(S.fW nq (FS tq aq))=true∧0<nq)) (fR n1 (fR (decide ((↑((S.f0 ((S.val np (FS tp ap)) % S.val nq (FS tq aq))).length):Int)>0)) (fR (decide ((0+(S.f0 ((S.val np (FS tp ap)) / S.val nq (FS tq aq))).length≤(S.f0 ((S.val np (FS tp ap)) / S.val nq (FS tq aq))).length∧1≤1)∧((S.f0 ((S.val np (FS tp ap)) / S.val nq (FS tq aq))).length≤1000∧1≤1000)∧(S.fW (S.f0 ((S.val np (FS tp ap)) / S.val nq (FS tq aq))).length fun j=>S.at' (S.f0 ((S.val np (FS tp ap)) / S.val nq (FS tq aq))) j)=true∧true=true)) (fR (decide ((aq+nq≤mq∧0+(c30_e_1 ap np tp aq nq tq).length≤(S.f0 ((S.val np (FS tp ap)) % S.val nq (FS tq aq))).length)∧(nq≤1000∧(c30_e_1 ap np tp aq nq tq).length≤1000)∧(S.fW nq (FS tq aq))=true∧(S.fW (c30_e_1 ap np tp aq nq tq).length fun j=>S.at' (c30_e_1 ap np tp aq nq tq) j)=true∧(c30_e_8 ap np tp aq nq tq)≤S.val nq (FS tq aq))) (fR n1 (fR n2 (g30_1 fR fT ap np mp tp aq nq mq tq) (g30_2 fR fT ap np mp tp aq nq mq tq)) (fR n2 (g30_2 fR fT ap np mp tp aq nq mq tq) (g30_1 fR fT ap np mp tp aq nq mq tq))) False) False) (g30_0 fR fT n1 ap np mp tp n2 aq nq mq tq)) (g30_0 fR fT n1 ap np mp tp n2 aq nq mq tq)) False)) (fT (.tup [.agg [.tf false,.nils],.agg [.tf false,.nils],.int .i64 1]) (c30_e_12 mp tp mq tq) 8)) False) (fT (.tup [.agg [.tf false,.nils],.agg [.tf false,.nils],.int .i64 1]) (c30_e_12 mp tp mq tq) 7)) False
theorem te30:run fR Tryz.env true (xG2 fR) true 400 ⟨86,[.cd (zU Tryz.f86).body],z8 0 [.agg [.bool n1,.loose ⟨0,1,ap,0⟩ np],.agg [.bool n2,.loose ⟨1,1,aq,0⟩ nq]],[[],[(0,(false,CB mp tp)),(1,(false,CB mq tq))]],2⟩ (zr 2 [] fS fT)=
 Te30 fR fT n1 ap np mp tp n2 aq nq mq tq:=by kernel_rfl
noncomputable abbrev J30:Rt30→zS:=fun r=> [yC (2+1) ((N30) r)++ [(0,(false,CB mp tp)),(1,(false,CB mq tq))]]
attribute [local irreducible] Int.subNatNat in
theorem a30 {r:Rt30} (h:zY ((q30 n1 ap np mp tp n2 aq nq mq tq)) ((p30 n1 ap np mp tp n2 aq nq mq tq)) r):zn Tryz.prog 86 [.agg [.bool n1,.loose ⟨0,1,ap,0⟩ np],.agg [.bool n2,.loose ⟨1,1,aq,0⟩ nq]] [[(0,(false,CB mp tp)),(1,(false,CB mq tq))]] 2 ((V30) r) ((J30 mp tp mq tq) r) 400∧HB Tryz.prog 86:=by
 refine zf Tryz.envOk Tryz.mixed oe ((I30)) ((V30)) (J30 mp tp mq tq) (fn:=zU Tryz.f86) (ts:= []) (n:=400) rfl (by decide) (by simp) (zW rfl) ?_ ?_ ?_ h
 · intro s; exact s.elim
 · intro fS fT x hS hR h
   refine Holds.eq (te30 cond fS fT n1 ap np mp tp n2 aq nq mq tq) ?_
   unfold Te30
   unfold p30 at h
   refine zA h (fun c0 h=>zA h (fun c1 h=>zA h (fun c2 h=>zA h (fun c3 h=>zA h (fun c4 h=> ?_) (fun c4 h=>zA h (fun c5 h=>zA h (fun c6 h=>zA h (fun c7 h=>zA h (fun c8 h=>zA h (fun c9 h=>zJ c6 (zA h (fun c10 h=>zA h (fun c11 h=>zA h (fun c12 h=>zJ rfl (zV hR _ h (fun n=>bif Nat.beq n 3 then 399 else bif Nat.beq n 4 then 398 else n) rfl rfl rfl (zk ⟨(zc ⟨(zR rfl),(zO rfl),trivial⟩),(zc ⟨(zR rfl),(zO rfl),trivial⟩),(zI rfl),trivial⟩) rfl (zT (zD rfl) (za rfl) (zT (zD rfl) (za rfl) (zB (zC rfl) rfl rfl (zB (zC rfl) rfl rfl zE)))))) (fun c12 h=>zd rfl (zA h (fun c13 h=> ?_) (fun c13 h=> ?_)))) (fun c11 h=> ?_)) (fun c10 h=>zA h (fun c11 h=>zA h (fun c12 h=>zJ rfl (zV hR _ h (fun n=>bif Nat.beq n 3 then 399 else bif Nat.beq n 4 then 398 else n) rfl rfl rfl (zk ⟨(zc ⟨(zR rfl),(zO rfl),trivial⟩),(zc ⟨(zR rfl),(zO rfl),trivial⟩),(zI rfl),trivial⟩) rfl (zT (zD rfl) (za rfl) (zT (zD rfl) (za rfl) (zB (zC rfl) rfl rfl (zB (zC rfl) rfl rfl zE)))))) (fun c12 h=>zd rfl (zA h (fun c13 h=> ?_) (fun c13 h=> ?_)))) (fun c11 h=> ?_)))) (fun c9 h=> ?_)) (fun c8 h=> ?_)) (fun c7 h=>zJ c6 (zA h (fun c8 h=>zA h (fun c9 h=>zA h (fun c10 h=>zJ rfl (zV hR _ h (fun n=>bif Nat.beq n 3 then 399 else bif Nat.beq n 4 then 398 else n) rfl rfl rfl (zk ⟨(zc ⟨(zR rfl),(zO rfl),trivial⟩),(zc ⟨(zR rfl),(zO rfl),trivial⟩),(zI rfl),trivial⟩) rfl (zT (zD rfl) (za rfl) (zT (zD rfl) (za rfl) (zB (zC rfl) rfl rfl (zB (zC rfl) rfl rfl zE)))))) (fun c10 h=>zd rfl (zA h (fun c11 h=> ?_) (fun c11 h=> ?_)))) (fun c9 h=> ?_)) (fun c8 h=>zA h (fun c9 h=>zA h (fun c10 h=>zJ rfl (zV hR _ h (fun n=>bif Nat.beq n 3 then 399 else bif Nat.beq n 4 then 398 else n) rfl rfl rfl (zk ⟨(zc ⟨(zR rfl),(zO rfl),trivial⟩),(zc ⟨(zR rfl),(zO rfl),trivial⟩),(zI rfl),trivial⟩) rfl (zT (zD rfl) (za rfl) (zT (zD rfl) (za rfl) (zB (zC rfl) rfl rfl (zB (zC rfl) rfl rfl zE)))))) (fun c10 h=>zd rfl (zA h (fun c11 h=> ?_) (fun c11 h=> ?_)))) (fun c9 h=> ?_))))) (fun c6 h=>zd c6 (zA h (fun c7 h=>zA h (fun c8 h=>zA h (fun c9 h=>zJ rfl (zV hR _ h (fun n=>bif Nat.beq n 3 then 399 else bif Nat.beq n 4 then 398 else n) rfl rfl rfl (zk ⟨(zc ⟨(zR rfl),(zO rfl),trivial⟩),(zc ⟨(zR rfl),(zO rfl),trivial⟩),(zI rfl),trivial⟩) rfl (zT (zD rfl) (za rfl) (zT (zD rfl) (za rfl) (zB (zC rfl) rfl rfl (zB (zC rfl) rfl rfl zE)))))) (fun c9 h=>zd rfl (zA h (fun c10 h=> ?_) (fun c10 h=> ?_)))) (fun c8 h=> ?_)) (fun c7 h=>zA h (fun c8 h=>zA h (fun c9 h=>zJ rfl (zV hR _ h (fun n=>bif Nat.beq n 3 then 399 else bif Nat.beq n 4 then 398 else n) rfl rfl rfl (zk ⟨(zc ⟨(zR rfl),(zO rfl),trivial⟩),(zc ⟨(zR rfl),(zO rfl),trivial⟩),(zI rfl),trivial⟩) rfl (zT (zD rfl) (za rfl) (zT (zD rfl) (za rfl) (zB (zC rfl) rfl rfl (zB (zC rfl) rfl rfl zE)))))) (fun c9 h=>zd rfl (zA h (fun c10 h=> ?_) (fun c10 h=> ?_)))) (fun c8 h=> ?_))))) (fun c5 h=> ?_))) (fun c3 h=> ?_)) (fun c2 h=> ?_)) (fun c1 h=> ?_)) (fun c0 h=> ?_)
   all_goals first
     |exact zF h
     |exact zV hR _ h (fun n=>bif Nat.beq n 3 then 17 else bif Nat.beq n 4 then 12 else n) rfl rfl rfl (zk ⟨(zc ⟨(zj rfl),(zX (zD rfl) rfl rfl),trivial⟩),(zc ⟨(zj rfl),(zX (zD rfl) rfl rfl),trivial⟩),(zI rfl),trivial⟩) rfl (zL (zD rfl) rfl (Nat.le_of_eq rfl) (zN (fun _ _=>rfl) zM) (zL (zD rfl) rfl (Nat.le_of_eq rfl) (zN (fun _ _=>rfl) zM) (zB (zC rfl) rfl rfl (zB (zC rfl) rfl rfl zE))))
     |exact zV hR _ h (fun n=>bif Nat.beq n 3 then 399 else bif Nat.beq n 4 then 398 else n) rfl rfl rfl (zk ⟨(zc ⟨(zR rfl),(zO rfl),trivial⟩),(zc ⟨(zR rfl),(zO rfl),trivial⟩),(zI rfl),trivial⟩) rfl (zT (zD rfl) (za rfl) (zT (zD rfl) (za rfl) (zB (zC rfl) rfl rfl (zB (zC rfl) rfl rfl zE))))
     |exact zV hR _ h (fun n=>bif Nat.beq n 3 then 22 else bif Nat.beq n 4 then 17 else n) rfl rfl rfl (zk ⟨(zc ⟨(zj rfl),(zX (zD rfl) rfl rfl),trivial⟩),(zc ⟨(zj rfl),(zX (zD rfl) rfl rfl),trivial⟩),(zI rfl),trivial⟩) rfl (zL (zD rfl) rfl (Nat.le_of_eq rfl) (zN (fun _ _=>rfl) zM) (zL (zD rfl) rfl (Nat.le_of_eq rfl) (zN (fun _ _=>rfl) zM) (zB (zC rfl) rfl rfl (zB (zC rfl) rfl rfl zE))))
 · intro fS fT x hS hR s h; exact s.elim
end
noncomputable def k30:Con:=⟨86,[.agg [.plain (.bool),.list [.int .i64]],.agg [.plain (.bool),.list [.int .i64]]],w48 (fun n1 ap np mp tp n2 aq nq mq tq=>decide ((ap+np≤mp∧np≤1000000)∧aq+nq≤mq∧nq≤1000000)),w48 (fun n1 ap np mp tp n2 aq nq mq tq=>(V30) ((S.fd n1 np (FS tp ap) n2 nq (FS tq aq)).1,false,(S.fd n1 np (FS tp ap) n2 nq (FS tq aq)).2.1,(S.fd n1 np (FS tp ap) n2 nq (FS tq aq)).2.2.1,(S.fd n1 np (FS tp ap) n2 nq (FS tq aq)).2.2.2)),w48 (fun n1 ap np mp tp n2 aq nq mq tq=>(N30) ((S.fd n1 np (FS tp ap) n2 nq (FS tq aq)).1,false,(S.fd n1 np (FS tp ap) n2 nq (FS tq aq)).2.1,(S.fd n1 np (FS tp ap) n2 nq (FS tq aq)).2.2.1,(S.fd n1 np (FS tp ap) n2 nq (FS tq aq)).2.2.2)),fun _ _=> .dead⟩
theorem s30 (n1 : Bool) (ap np mp:Nat) (tp:Nat→Int) (n2:Bool) (aq nq mq:Nat) (tq:Nat→Int) (hp:(ap+np≤mp∧np≤1000000)∧aq+nq≤mq∧nq≤1000000):zY ((q30 n1 ap np mp tp n2 aq nq mq tq)) ((p30 n1 ap np mp tp n2 aq nq mq tq)) (((S.fd n1 np (fun j=>tp (j+ap)) n2 nq (fun j=>tq (j+aq))).1,false,(S.fd n1 np (fun j=>tp (j+ap)) n2 nq (fun j=>tq (j+aq))).2.1,(S.fd n1 np (fun j=>tp (j+ap)) n2 nq (fun j=>tq (j+aq))).2.2.1,(S.fd n1 np (fun j=>tp (j+ap)) n2 nq (fun j=>tq (j+aq))).2.2.2)):=by
 obtain ⟨⟨hp1,hp2⟩,hp3,hp4⟩:=hp
 have d1:ap+np≤mp∧np≤1000000:=⟨hp1,hp2⟩
 have d2:aq+nq≤mq∧nq≤1000000:=⟨hp3,hp4⟩
 unfold S.fd
 by_cases g1:S.fV n1 np (fun j=>tp (j+ap))=true
 · obtain ⟨l1, k1⟩ :=z9 g1
   by_cases g2:S.fV n2 nq (fun j=>tq (j+aq))=true
   · obtain ⟨l2, k2⟩:=z9 g2
     rw [if_pos ⟨g1,g2⟩]
     by_cases h0:nq=0
     · rw [if_pos h0]
       unfold p30
       simp only [g1,g2,decide_eq_true d1,decide_eq_true d2,cond_true]
       exact zH (by rw [h0]; rfl) (zG.mpr rfl)
     · rw [if_neg h0]
       have up:=yM (zi k1)
       have vp:=yV k2 (by omega)
       have ul:=z5 (zi k1) (Nat.le_refl np)
       have vl:=z5 (zi k2) (Nat.le_refl nq)
       rw [nA up vp]
       have hq:(ap+np≤mp∧aq+nq≤mq)∧(np≤900∧nq≤900)∧S.fW np (fun j=>tp (j+ap))=true∧S.fW nq (fun j=>tq (j+aq))=true∧0<nq:=⟨⟨hp1,hp3⟩,⟨by omega,by omega⟩,k1,k2,by omega⟩
       have e0:((nq:Int)==0)=false:=by rw [beq_eq_false_iff_ne]; omega
       have m0:=Int.emod_nonneg (S.val np (fun j=>tp (j+ap))) (show (S.val nq (fun j=>tq (j+aq)))≠0 by omega)
       have m1:=Int.emod_lt_of_pos (S.val np (fun j=>tp (j+ap))) vp
       have q0:=Int.ediv_nonneg up (show 0≤(S.val nq (fun j=>tq (j+aq))) by omega)
       have q1:=Int.ediv_le_self (S.val nq (fun j=>tq (j+aq))) up
       have hw:=uj (k:=np) (m:=80) l1
       obtain ⟨Q,hQ⟩: ∃ Q,(S.val np (fun j=>tp (j+ap))) / (S.val nq (fun j=>tq (j+aq)))=Q:=⟨_,rfl⟩
       obtain ⟨R,hR⟩: ∃ R,(S.val np (fun j=>tp (j+ap))) % (S.val nq (fun j=>tq (j+aq)))=R:=⟨_,rfl⟩
       rw [hQ] at q0 q1
       rw [hR] at m0 m1
       have lq:=zw (v:=Q) (n:=80) (by omega)
       have lq1:=zw (v:=Q+1) (n:=81) (by have:S.pw 81=1000000*S.pw 80:=rfl; have:=xH (k:=80); omega)
       have lr:=zw (v:=R) (n:=nq) (by omega)
       have lr1:=zw (v:=(S.val nq (fun j=>tq (j+aq)))-R) (n:=nq+1) (by have:S.pw (nq+1)=1000000*S.pw nq:=rfl; omega)
       have vQ:=zq q0
       have vR:=zq m0
       have vQ1:=zq (v:=Q+1) (by omega)
       have vR1:=zq (v:=(S.val nq (fun j=>tq (j+aq)))-R) (by omega)
       have a1:(0+(S.f0 Q).length≤(S.f0 Q).length∧1≤1)∧((S.f0 Q).length≤1000∧1≤1000)∧(S.fW (S.f0 Q).length fun j=>S.at' (S.f0 Q) j)=true∧true=true:=⟨⟨by omega,by omega⟩,⟨by omega,by omega⟩,yE,rfl⟩
       have a2:(aq+nq≤mq∧0+(S.f0 R).length≤(S.f0 R).length)∧(nq≤1000∧(S.f0 R).length≤1000)∧S.fW nq (fun j=>tq (j+aq))=true∧(S.fW (S.f0 R).length fun j=>S.at' (S.f0 R) j)=true∧R≤(S.val nq (fun j=>tq (j+aq))):=⟨⟨hp3,by omega⟩,⟨by omega,by omega⟩,k2,yE,by omega⟩
       have b1:0+(S.f0 Q).length≤(S.f0 Q).length∧(S.f0 Q).length≤1000000∧(S.fX (S.f0 Q).length fun j=>S.at' (S.f0 Q) j)=true:=⟨by omega,by omega,zi yE⟩
       have b2:0+(S.f0 R).length≤(S.f0 R).length∧(S.f0 R).length≤1000000∧(S.fX (S.f0 R).length fun j=>S.at' (S.f0 R) j)=true:=⟨by omega,by omega,zi yE⟩
       have b3:0+(S.f0 (Q+1)).length≤(S.f0 (Q+1)).length∧(S.f0 (Q+1)).length≤1000000∧(S.fX (S.f0 (Q+1)).length fun j=>S.at' (S.f0 (Q+1)) j)=true:=⟨by omega,by omega,zi yE⟩
       have b4:0+(S.f0 ((S.val nq (fun j=>tq (j+aq)))-R)).length≤(S.f0 ((S.val nq (fun j=>tq (j+aq)))-R)).length∧(S.f0 ((S.val nq (fun j=>tq (j+aq)))-R)).length≤1000000∧(S.fX (S.f0 ((S.val nq (fun j=>tq (j+aq)))-R)).length fun j=>S.at' (S.f0 ((S.val nq (fun j=>tq (j+aq)))-R)) j)=true:=⟨by omega,by omega,zi yE⟩
       unfold p30
       simp only [-eq_self,g1,g2,decide_eq_true d1,decide_eq_true d2,cond_true,cond_false,e0,decide_eq_true hq,c30_e_0,c30_e_1,c30_e_2,c30_e_3,c30_e_4,c30_e_5,c30_e_6,c30_e_7,c30_e_8,c30_e_9,c30_e_10,c30_e_11,c30_e_12,c30_e_13,c30_e_14,c30_e_15,c30_e_16,c30_e_17,c30_e_18,c30_e_19,c30_e_20,c30_e_21,c30_e_22,c30_e_23,S.eY,hQ,hR,vQ,vR,decide_eq_true a1,decide_eq_true a2,vQ1,vR1,decide_eq_true b1,decide_eq_true b2,decide_eq_true b3,decide_eq_true b4]
       have hR0:((S.f0 R).length:Int)>0↔R>0:=by
        have:= @yq R
        omega
       have key: ∀ (c:Bool) (q r:Int),0≤q→(S.dq n1 (S.val np (fun j=>tp (j+ap))) (S.val nq (fun j=>tq (j+aq)))=q)→S.dr n1 (S.val np (fun j=>tp (j+ap))) (S.val nq (fun j=>tq (j+aq)))=r→(n1 != n2)=c→((if (S.f0 (S.dq n1 (S.val np (fun j=>tp (j+ap))) (S.val nq (fun j=>tq (j+aq))))).length>80 then ((false,3,[],[]):Bool×Int×List Int×List Int) else (S.fy (n1 != n2) (S.dq n1 (S.val np (fun j=>tp (j+ap))) (S.val nq (fun j=>tq (j+aq)))),0,S.f0 (S.dr n1 (S.val np (fun j=>tp (j+ap))) (S.val nq (fun j=>tq (j+aq)))),S.f0 (S.dq n1 (S.val np (fun j=>tp (j+ap))) (S.val nq (fun j=>tq (j+aq)))))))=if (S.f0 q).length>80 then (false,3,[],[]) else (S.fy c q,0,S.f0 r,S.f0 q):=fun c q r h0 h1 h2 h3=>by rw [h1,h2,h3]
       clear hq a1 a2 b1 b2 b3 b4 vQ vR vQ1 vR1 up vp ul vl k1 k2 g1 g2 hw
       cases n1
       · have e1 :S.dq false (S.val np (fun j=>tp (j+ap))) (S.val nq (fun j=>tq (j+aq)))=Q∧S.dr false (S.val np (fun j=>tp (j+ap))) (S.val nq (fun j=>tq (j+aq)))=R:=by
          unfold S.dq S.dr
          simp only [Bool.false_eq_true,false_and,if_false]
          exact ⟨hQ,hR⟩
         cases n2<;>
         (rw [key _ (Q) (R) (by omega) e1.1 e1.2 rfl]
          simp only [cond_true,cond_false]
          repeat' first
            |with_reducible refine zP (fun h=> ?_) (fun h=> ?_)<;>(try simp only [SH] at h)
          all_goals first
            |(exfalso; omega)
            |(rw [if_pos (by omega)]; exact zG.mpr rfl)
            | (rw [if_neg (by omega)]
               refine zG.mpr ?_
               first
                 |rfl
                 |exact congrArg G0 (mJ (q:=Q) (r:=R) (by omega) (by assumption) (by assumption)).symm
                 |exact congrArg G0 (mX (q:=Q) (r:=R) (by omega) (by assumption)).symm
                 |exact congrArg G0 (mE (q:=Q) (r:=R) (by assumption) (by assumption)).symm
                 |exact congrArg G0 (md (q:=Q) (r:=R) (by assumption)).symm))
       · by_cases hr:R>0
         · have e1 :S.dq true (S.val np (fun j=>tp (j+ap))) (S.val nq (fun j=>tq (j+aq)))=Q+1∧S.dr true (S.val np (fun j=>tp (j+ap))) (S.val nq (fun j=>tq (j+aq)))=(S.val nq (fun j=>tq (j+aq)))-R:=by
            unfold S.dq S.dr
            rw [hR,if_pos ⟨rfl,hr⟩,if_pos ⟨rfl,hr⟩]
            exact ⟨by rw [hQ],rfl⟩
           cases n2<;>
           (rw [key _ (Q+1) ((S.val nq (fun j=>tq (j+aq)))-R) (by omega) e1.1 e1.2 rfl]
            simp only [cond_true,cond_false,decide_eq_true (hR0.mpr hr)]
            repeat' first
              |with_reducible refine zP (fun h=> ?_) (fun h=> ?_)<;>(try simp only [SH] at h)
            all_goals first
              |(exfalso; omega)
              |(rw [if_pos (by omega)]; exact zG.mpr rfl)
              | (rw [if_neg (by omega)]
                 refine zG.mpr ?_
                 first
                   |rfl
                   |exact congrArg G0 (mJ (q:=Q+1) (r:=(S.val nq (fun j=>tq (j+aq)))-R) (by omega) (by assumption) (by assumption)).symm
                   |exact congrArg G0 (mX (q:=Q+1) (r:=(S.val nq (fun j=>tq (j+aq)))-R) (by omega) (by assumption)).symm
                   |exact congrArg G0 (mE (q:=Q+1) (r:=(S.val nq (fun j=>tq (j+aq)))-R) (by assumption) (by assumption)).symm
                   |exact congrArg G0 (md (q:=Q+1) (r:=(S.val nq (fun j=>tq (j+aq)))-R) (by assumption)).symm))
         · have e1 :S.dq true (S.val np (fun j=>tp (j+ap))) (S.val nq (fun j=>tq (j+aq)))=Q∧S.dr true (S.val np (fun j=>tp (j+ap))) (S.val nq (fun j=>tq (j+aq)))=R:=by
            unfold S.dq S.dr
            rw [hR,if_neg (fun h=>hr h.2),if_neg (fun h=>hr h.2)]
            exact ⟨hQ,rfl⟩
           cases n2<;>
           (rw [key _ (Q) (R) (by omega) e1.1 e1.2 rfl]
            simp only [cond_true,cond_false,decide_eq_false (fun h=>hr (hR0.mp h))]
            repeat' first
              |with_reducible refine zP (fun h=> ?_) (fun h=> ?_)<;>(try simp only [SH] at h)
            all_goals first
              |(exfalso; omega)
              |(rw [if_pos (by omega)]; exact zG.mpr rfl)
              | (rw [if_neg (by omega)]
                 refine zG.mpr ?_
                 first
                   |rfl
                   |exact congrArg G0 (mJ (q:=Q) (r:=R) (by omega) (by assumption) (by assumption)).symm
                   |exact congrArg G0 (mX (q:=Q) (r:=R) (by omega) (by assumption)).symm
                   |exact congrArg G0 (mE (q:=Q) (r:=R) (by assumption) (by assumption)).symm
                   |exact congrArg G0 (md (q:=Q) (r:=R) (by assumption)).symm))
   · rw [if_neg (fun h=>g2 h.2)]
     have g2:=Bool.not_eq_true _ ▸ g2
     unfold p30
     simp only [cond_true,cond_false,g1,g2,decide_eq_true d1,decide_eq_true d2]
     exact zG.mpr rfl
 · rw [if_neg (fun h=>g1 h.1)]
   have g1:=Bool.not_eq_true _ ▸ g1
   unfold p30
   simp only [cond_true,cond_false,g1,decide_eq_true d1]
   exact zG.mpr rfl
theorem k30_ok:k30.ok Tryz.prog:=by
 intro x hx
 obtain ⟨⟨n1,⟨ap,np,mp,tp,_⟩,_⟩,⟨n2,⟨aq,nq,mq,tq,_⟩,_⟩,_⟩:=x
 obtain ⟨h1,h2⟩:=a30 n1 ap np mp tp n2 aq nq mq tq (s30 n1 ap np mp tp n2 aq nq mq tq (zm hx rfl))
 exact ⟨⟨400,(by decide:2+1+2≤400),h1⟩,h2⟩
namespace S
def eV :Nat→Int→Int→Int→Int→Int→Int→Int×Int×Int×Int
  |0,_,_,p,q,r,s=>(p,q,r,s)
  | k + 1,x,y,p,q,r,s=>
   if y+r≠0∧y+s≠0 then
    if Int.tdiv (x+p) (y+r)=Int.tdiv (x+q) (y+s) then
     eV k y (x-Int.tdiv (x+p) (y+r)*y) r s (p-Int.tdiv (x+p) (y+r)*r) (q-Int.tdiv (x+p) (y+r)*s)
    else (p,q,r,s)
   else (p,q,r,s)
def eU (x y:Int):Int×Int×Int×Int:=eV (y.toNat+1) x y 1 0 0 1
end S
structure mA (x0 y0 x y p q r s:Int):Prop where
 hx:x=p*x0+q*y0
 hy:y=r*x0+s*y0
 sg:(0≤p∧q≤0∧r≤0∧0≤s∧p*s-q*r=1)∨(p≤0∧0≤q∧0≤r∧s≤0∧p*s-q*r= -1)
 yr:0≤y+r
 ys:0≤y+s
 xp:0≤x+p
 xq:0≤x+q
 b:(p.natAbs≤1000000000∧q.natAbs≤1000000000)∧r.natAbs≤1000000000∧s.natAbs≤1000000000
 yx:0≤y∧y≤x∧x≤x0∧y≤y0
 st:(p=1∧q=0∧r=0∧s=1∧x=x0∧y=y0)∨((x+p≤x0∧x+q≤x0)∧y+r<y0∧y+s<y0∧(y+r≤x+p∧y+r≤x+q)∧y+s≤x+p∧y+s≤x+q)
theorem p8 {x0 y0:Int} (h:0≤y0∧y0≤x0):mA x0 y0 x0 y0 1 0 0 1 where
 hx:=by omega
 hy:=by omega
 sg:=by omega
 yr:=by omega
 ys:=by omega
 xp:=by omega
 xq:=by omega
 b:=by decide
 yx:=by omega
 st:=by omega
theorem qW {r x y:Int} (h0:0≤r) (h1:r≤x) (h2:r*x≤y) (hy:y<1000000000000000000):r≤1000000000:=by
 refine Int.not_lt.mp fun h=> ?_
 have h3:1000000001*1000000001≤r*x:=Int.mul_le_mul (by omega) (by omega) (by decide) (by omega)
 omega
theorem rv {x y p r c:Int} (hy:0<y+r) (hx:0≤x+p) (hc:c=Int.tdiv (x+p) (y+r)):0≤c∧0≤(x-c*y)+(p-c*r)∧(x-c*y)+(p-c*r)<y+r:=by
 subst hc
 rw [Int.tdiv_eq_ediv_of_nonneg hx]
 have h1:=Int.ediv_nonneg hx (by omega:0≤y+r)
 have h2:=Int.emod_nonneg (x+p) (show y+r≠0 by omega)
 have h3:=Int.emod_lt_of_pos (x+p) hy
 have h4:=Int.mul_ediv_add_emod (x+p) (y+r)
 generalize (x+p) / (y+r)=c at*
 rw [Int.add_mul,Int.mul_comm y,Int.mul_comm r] at h4
 omega
theorem jB {x0 y0 x y p q r s c:Int} (h:mA x0 y0 x y p q r s) (hx0:x0<1000000000000000000) (hy0:y0≤x0) (hr:y+r≠0) (hs:y+s≠0) (hc:c=Int.tdiv (x+p) (y+r)) (hd:c=Int.tdiv (x+q) (y+s)):mA x0 y0 y (x-c*y) r s (p-c*r) (q-c*s):=by
 obtain ⟨hx,hy,sg,yr,ys,xp,xq,b,yx,st⟩:=h
 obtain ⟨c0,c1,c2⟩:=rv (by omega) xp hc
 obtain ⟨-,d1,d2⟩:=rv (by omega) xq hd
 have ex:x-c*y=(p-c*r)*x0+(q-c*s)*y0:=by
  rw [Int.sub_mul,Int.sub_mul,Int.mul_assoc,Int.mul_assoc,hx,hy,Int.mul_add]; omega
 have ed:r*(q-c*s)-s*(p-c*r)= -(p*s-q*r):=by grind
 have i1:(q-c*s)*y-s*(x-c*y)= -(p*s-q*r)*x0:=by rw [hx,hy]; grind
 have i2:r*(x-c*y)-(p-c*r)*y= -(p*s-q*r)*y0:=by rw [hx,hy]; grind
 have hin:y+r≤x0∧y+s≤x0:=by
  rcases st with ⟨rfl,rfl,rfl,rfl,rfl,rfl⟩|st
  · have h1:1≤c:=by
     refine Int.not_lt.mp fun h=> ?_
     obtain rfl:c=0:=by omega
     omega
    have h2:1*y≤c*y:=Int.mul_le_mul_of_nonneg_right h1 (by omega)
    omega
  · omega
 have hcr: ∀ z:Int,z≤0→c*z≤0:=fun z hz=>by
  have:=Int.mul_le_mul_of_nonneg_left hz c0
  omega
 have hcs: ∀ z:Int,0≤z→0≤c*z:=fun z hz=>Int.mul_nonneg c0 hz
 rcases sg with ⟨p0,q0,r0,s0,dt⟩|⟨p0,q0,r0,s0,dt⟩
 · have e1:=hcr r r0
   have e2:=hcs s s0
   generalize hR:p-c*r=R at*
   generalize hS:q-c*s=T at*
   generalize hY:x-c*y=Y at*
   have R0:0≤R:=by omega
   have S0:T≤0:=by omega
   have Y0:0≤Y:=by omega
   rw [dt] at i1 i2
   have m1:0≤s*Y:=Int.mul_nonneg s0 Y0
   have m2:r*Y≤0:=by have:=Int.mul_le_mul_of_nonneg_right r0 Y0; omega
   have n1:(-T)*y= -(T*y):=Int.neg_mul _ _
   refine ⟨hy,ex,.inr ⟨r0,s0,R0,S0,by rw [ed,dt]⟩,by omega,by omega,by omega,by omega,⟨⟨b.2.1,b.2.2⟩,?_,?_⟩,by omega,.inr (by omega)⟩
   · have:=qW (r:=R) (x:=y) (y:=y0) R0 (by omega) (by omega) (by omega)
     omega
   · have:=qW (r:= -T) (x:=y) (y:=x0) (by omega) (by omega) (by omega) hx0
     omega
 · have e1:=hcs r r0
   have e2:=hcr s s0
   generalize hR:p-c*r=R at*
   generalize hS:q-c*s=T at*
   generalize hY:x-c*y=Y at*
   have R0:R≤0:=by omega
   have S0:0≤T:=by omega
   have Y0:0≤Y:=by omega
   rw [dt] at i1 i2
   have m1:s*Y≤0:=by have:=Int.mul_le_mul_of_nonneg_right s0 Y0; omega
   have m2:0≤r*Y:=Int.mul_nonneg r0 Y0
   have n1:(-R)*y= -(R*y):=Int.neg_mul _ _
   refine ⟨hy,ex,.inl ⟨r0,s0,R0,S0,by rw [ed,dt]; rfl⟩,by omega,by omega,by omega,by omega,⟨⟨b.2.1,b.2.2⟩,?_,?_⟩,by omega,.inr (by omega)⟩
   · have:=qW (r:= -R) (x:=y) (y:=y0) (by omega) (by omega) (by omega) (by omega)
     omega
   · have:=qW (r:=T) (x:=y) (y:=x0) S0 (by omega) (by omega) hx0
     omega
theorem pu {x0 y0:Int} (hx0:x0<1000000000000000000) (hy0:y0≤x0): ∀ {k:Nat} {x y p q r s:Int},mA x0 y0 x y p q r s→ ∃ x' y',mA x0 y0 x' y' (S.eV k x y p q r s).1 (S.eV k x y p q r s).2.1 (S.eV k x y p q r s).2.2.1 (S.eV k x y p q r s).2.2.2
  |0,x,y,_,_,_,_,h=>⟨x,y,h⟩
  | k + 1,x,y,p,q,r,s,h=>by
   simp only [S.eV]
   split
   · rename_i h1
     split
     · rename_i h2
       exact pu hx0 hy0 (jB h hx0 hy0 h1.1 h1.2 rfl h2)
     · exact ⟨x,y,h⟩
   · exact ⟨x,y,h⟩
theorem nY {A B p q r s:Int} (h:p*s-q*r=1∨p*s-q*r= -1):Int.gcd (p*A+q*B) (r*A+s*B)=Int.gcd A B:=by
 have e1:s*(p*A+q*B)-q*(r*A+s*B)=(p*s-q*r)*A:=by grind
 have e2:p*(r*A+s*B)-r*(p*A+q*B)=(p*s-q*r)*B:=by grind
 apply Nat.dvd_antisymm
 · have g1:((Int.gcd (p*A+q*B) (r*A+s*B):Nat):Int) ∣ p*A+q*B:=Int.gcd_dvd_left ..
   have g2:((Int.gcd (p*A+q*B) (r*A+s*B):Nat):Int) ∣ r*A+s*B:=Int.gcd_dvd_right ..
   have h1:=Int.dvd_sub (Int.dvd_mul_of_dvd_right g1 (b:=s)) (Int.dvd_mul_of_dvd_right g2 (b:=q))
   have h2:=Int.dvd_sub (Int.dvd_mul_of_dvd_right g2 (b:=p)) (Int.dvd_mul_of_dvd_right g1 (b:=r))
   rw [e1] at h1
   rw [e2] at h2
   rcases h with h|h<;>rw [h] at h1 h2
   · rw [Int.one_mul] at h1 h2
     exact Int.dvd_gcd h1 h2
   · rw [Int.neg_one_mul,Int.dvd_neg] at h1 h2
     exact Int.dvd_gcd h1 h2
 · have g1:((Int.gcd A B:Nat):Int) ∣ A:=Int.gcd_dvd_left ..
   have g2:((Int.gcd A B:Nat):Int) ∣ B:=Int.gcd_dvd_right ..
   exact Int.dvd_gcd (Int.dvd_add (Int.dvd_mul_of_dvd_right g1) (Int.dvd_mul_of_dvd_right g2)) (Int.dvd_add (Int.dvd_mul_of_dvd_right g1) (Int.dvd_mul_of_dvd_right g2))
theorem iE {P x y a b r s:Int} (hP:0<P) (ha:0≤a∧a<P) (hb:0≤b∧b<P) (hs:(r≤0∧0≤s)∨(0≤r∧s≤0)):(P*(r*x+s*y+r)≤r*(P*x+a)+s*(P*y+b)∨P*(r*x+s*y+s)≤r*(P*x+a)+s*(P*y+b))∧(r*(P*x+a)+s*(P*y+b)≤P*(r*x+s*y+r)∨r*(P*x+a)+s*(P*y+b)≤P*(r*x+s*y+s)):=by
 have e:r*(P*x+a)+s*(P*y+b)=P*(r*x+s*y)+r*a+s*b:=by grind
 rw [e,Int.mul_add P _ r,Int.mul_add P _ s,Int.mul_comm P r,Int.mul_comm P s]
 generalize P*(r*x+s*y)=w
 rcases hs with ⟨h1,h2⟩|⟨h1,h2⟩
 · have a1:r*P≤r*a:=Int.mul_le_mul_of_nonpos_left h1 (by omega)
   have a2:0≤s*b:=Int.mul_nonneg h2 hb.1
   have a3:s*b≤s*P:=Int.mul_le_mul_of_nonneg_left (by omega) h2
   have a4:r*a≤0:=by have:=Int.mul_le_mul_of_nonneg_right h1 ha.1; omega
   exact ⟨.inl (by omega),.inr (by omega)⟩
 · have a1:s*P≤s*b:=Int.mul_le_mul_of_nonpos_left h2 (by omega)
   have a2:0≤r*a:=Int.mul_nonneg h1 ha.1
   have a3:r*a≤r*P:=Int.mul_le_mul_of_nonneg_left (by omega) h1
   have a4:s*b≤0:=by have:=Int.mul_le_mul_of_nonneg_right h2 hb.1; omega
   exact ⟨.inr (by omega),.inl (by omega)⟩
theorem jf {A B P x y:Int} (hP:0<P) (hA:P*x≤A∧A<P*x+P) (hB:P*y≤B∧B<P*y+P) (h0:0≤y∧y≤x∧x<1000000000000000000) {p q r s:Int} (h:S.eU x y=(p,q,r,s)) (hq:q≠0):
    (0≤r*A+s*B∧r*A+s*B<B∧r*A+s*B≤p*A+q*B∧p*A+q*B≤A)∧Int.gcd (p*A+q*B) (r*A+s*B)=Int.gcd A B:=by
  obtain ⟨x',y',hi⟩:=pu h0.2.2 h0.2.1 (k:=y.toNat+1) (p8 ⟨h0.1,h0.2.1⟩)
  unfold S.eU at h
  rw [h] at hi
  obtain ⟨hx,hy,sg,yr,ys,xp,xq,b,yx,st⟩:=hi
  dsimp only at hx hy sg yr ys xp xq b yx st
  have sg1:(r≤0∧0≤s)∨(0≤r∧s≤0):=by omega
  have sg2:(p≤0∧0≤q)∨(0≤p∧q≤0):=by omega
  have b1:=iE (x:=x) (y:=y) hP (a:=A-P*x) (b:=B-P*y) (by omega) (by omega) sg1
  have b2:=iE (x:=x) (y:=y) hP (a:=A-P*x) (b:=B-P*y) (by omega) (by omega) sg2
  rw [show P*x+(A-P*x)=A by omega,show P*y+(B-P*y)=B by omega] at b1 b2
  rw [← hy] at b1
  rw [← hx] at b2
  refine ⟨?_,nY (by rcases sg with h|h; exact .inl h.2.2.2.2; exact .inr h.2.2.2.2)⟩
  have mono: ∀ {u v:Int},u≤v→P*u≤P*v:=fun h=>Int.mul_le_mul_of_nonneg_left h (by omega)
  rcases st with st|⟨⟨t1,t2⟩,s1,s2,⟨s3,s4⟩,s5,s6⟩
  · exact absurd st.2.1 hq
  have m0:=mono yr
  have m1:=mono ys
  have m2:=mono (Int.le_sub_one_of_lt s1)
  have m3:=mono (Int.le_sub_one_of_lt s2)
  have m4:=mono s3
  have m5:=mono s4
  have m6:=mono s5
  have m7:=mono s6
  have m8:P*(y-1)=P*y-P:=by rw [Int.mul_sub,Int.mul_one]
  have m9:=mono t1
  have m10:=mono t2
  rw [Int.mul_zero] at m0 m1
  rw [m8] at m2 m3
  clear hx hy sg yr ys xp xq b yx h m8 mono sg1 sg2 t1 t2 s1 s2 s3 s4 s5 s6 h0 hq
  generalize r*A+s*B=Z at*
  generalize p*A+q*B=Y at*
  generalize P*(y'+r)=c1 at*
  generalize P*(y'+s)=c2 at*
  generalize P*(x'+p)=c3 at*
  generalize P*(x'+q)=c4 at*
  generalize P*x=c5 at*
  generalize P*y=c6 at*
  obtain ⟨b3,b4⟩:=b1
  obtain ⟨b5,b6⟩:=b2
  refine ⟨?_,?_,?_,?_⟩
  · clear b4 b5 b6; omega
  · clear b3 b5 b6; omega
  · clear b3 b6; omega
  · clear b3 b4 b5; omega
theorem gH {x y:Int} (h0:0≤y∧y≤x∧x<1000000000000000000) {p q r s:Int} (h:S.eU x y=(p,q,r,s)):(-1000000000≤p∧p≤1000000000)∧(-1000000000≤q∧q≤1000000000)∧(-1000000000≤r∧r≤1000000000)∧ -1000000000≤s∧s≤1000000000:=by
 obtain ⟨x',y',hi⟩:=pu h0.2.2 h0.2.1 (k:=y.toNat+1) (p8 ⟨h0.1,h0.2.1⟩)
 unfold S.eU at h
 rw [h] at hi
 have b:=hi.b
 dsimp only at b
 omega
section
variable (fR:TT) (fS:KS) (fT:KR) (ap np mp:Nat) (tp:NI) (aq nq mq:Nat) (tq:NI)
inductive St75 where
 |h0 (x0:Int) (x1:Int) (x2:Int) (x3:Int) (x4:Int) (x5:Int)
abbrev Rt75:=Int×Int×Int×Int
noncomputable def V75 (r:Rt75):PV:= .tup [.int .i64 r.1,.int .i64 r.2.1,.int .i64 r.2.2.1,.int .i64 r.2.2.2]
noncomputable def N75 (r:Rt75):List Blk:= []
noncomputable def I75:St75→Hd
  | .h0 x0 x1 x2 x3 x4 x5=>⟨hd Tryz.f145 0,[.int .i64 x0,.int .i64 x1,.int .i64 x2,
 .int .i64 x3,.int .i64 x4,.int .i64 x5],[[],[(0,(false,CB mp tp)),(1,(false,CB mq tq))]],2⟩
noncomputable def q75 (ap np mp:Nat) (tp:NI) (aq nq mq:Nat) (tq:NI):St75→Option (St75⊕Rt75)| .h0 x0 x1 x2 x3 x4 x5=>bif (lim .i64 (x5+x2)) then (bif (x5+x2 != 0) then (bif (lim .i64 (x5+x3)) then (bif (x5+x3 != 0) then (bif (lim .i64 (x4+x0)) then (bif (decide (x5+x2=0)) then none else (bif (lim .i64 (Int.tdiv (x4+x0) (x5+x2))) then (bif (lim .i64 (x4+x1)) then (bif (decide (x5+x3=0)) then none else (bif (lim .i64 (Int.tdiv (x4+x1) (x5+x3))) then (bif (Int.tdiv (x4+x0) (x5+x2) != Int.tdiv (x4+x1) (x5+x3)) then (some (.inr (x0,x1,x2,x3))) else (bif (lim .i64 (Int.tdiv (x4+x0) (x5+x2)*x2)) then (bif (lim .i64 (x0-Int.tdiv (x4+x0) (x5+x2)*x2)) then (bif (lim .i64 (Int.tdiv (x4+x0) (x5+x2)*x3)) then (bif (lim .i64 (x1-Int.tdiv (x4+x0) (x5+x2)*x3)) then (bif (lim .i64 (Int.tdiv (x4+x0) (x5+x2)*x5)) then (bif (lim .i64 (x4-Int.tdiv (x4+x0) (x5+x2)*x5)) then (some (.inl (.h0 x2 x3 (x0-Int.tdiv (x4+x0) (x5+x2)*x2) (x1-Int.tdiv (x4+x0) (x5+x2)*x3) x5 (x4-Int.tdiv (x4+x0) (x5+x2)*x5)))) else none) else none) else none) else none) else none) else none)) else none)) else none) else none)) else none) else (some (.inr (x0,x1,x2,x3)))) else none) else (some (.inr (x0,x1,x2,x3)))) else none
noncomputable def p75 (ap np mp:Nat) (tp:NI) (aq nq mq:Nat) (tq:NI):Option (St75⊕Rt75):=bif (lim .i64 ((np:Int)-3)) then (bif (decide (ap+np≤mp∧np≤1000∧(S.fX np fun j=>tp (j+ap))=true∧(0:Int)≤(np:Int)-3∧(np:Int)-3≤1000)) then (bif (decide (aq+nq≤mq∧nq≤1000∧(S.fX nq fun j=>tq (j+aq))=true∧(0:Int)≤(np:Int)-3∧(np:Int)-3≤1000)) then (some (.inl (.h0 ((1:Int)) ((0:Int)) ((0:Int)) ((1:Int)) (S.fU (fun j=>tp (j+ap)) ((np:Int)-3).toNat (Min.min np (((np:Int)-3).toNat+3)-((np:Int)-3).toNat)) (S.fU (fun j=>tq (j+aq)) ((np:Int)-3).toNat (Min.min nq (((np:Int)-3).toNat+3)-((np:Int)-3).toNat))))) else none) else none) else none
def Te75:Prop:=fR (lim .i64 ((np:Int)-3)) (fR (decide (ap+np≤mp∧np≤1000∧(S.fX np (FS tp ap))=true∧(0:Int)≤(np:Int)-3∧(np:Int)-3≤1000)) (fR (decide (aq+nq≤mq∧nq≤1000∧(S.fX nq (FS tq aq))=true∧(0:Int)≤(np:Int)-3∧(np:Int)-3≤1000)) (fS (hd Tryz.f145 0) ([.int .i64 1,.int .i64 0,.int .i64 0,.int .i64 1,.int .i64 (S.fU (FS tp ap) ((np:Int)-3).toNat (Min.min np (((np:Int)-3).toNat+3)-((np:Int)-3).toNat)),.int .i64 (S.fU (FS tq aq) ((np:Int)-3).toNat (Min.min nq (((np:Int)-3).toNat+3)-((np:Int)-3).toNat))]) ([[(1,false,CB mq tq),(0,false,CB mp tp)]]) 4) False) False) False
theorem te75:run fR Tryz.env true (xF3 fR) true 400 ⟨145,[.cd (zU Tryz.f145).body],z8 0 [.loose ⟨0,1,ap,0⟩ np,.loose ⟨1,1,aq,0⟩ nq],[[],[(0,(false,CB mp tp)),(1,(false,CB mq tq))]],2⟩ (zr 2 [4,5,6,7,9,10] fS fT)=
 Te75 fR fS ap np mp tp aq nq mq tq:=by kernel_rfl
noncomputable abbrev u75_0_0:=([[(1,false,Blk.cols mq [Col.int IntKind.i64 tq]),(0,false,Blk.cols mp [Col.int IntKind.i64 tp])]])
def T75_0 (x0 x1 x2 x3 x4 x5:Int):Prop:=fR (lim .i64 (x5+x2)) (fR (x5+x2 != 0) (fR (lim .i64 (x5+x3)) (fR (x5+x3 != 0) (fR (lim .i64 (x4+x0)) (fR (lim .i64 (x5+x2)) (fR (decide (x5+x2=0)) False (fR (lim .i64 (Int.tdiv (x4+x0) (x5+x2))) (fR (lim .i64 (x4+x1)) (fR (lim .i64 (x5+x3)) (fR (decide (x5+x3=0)) False (fR (lim .i64 (Int.tdiv (x4+x1) (x5+x3))) (fR (Int.tdiv (x4+x0) (x5+x2) != Int.tdiv (x4+x1) (x5+x3)) (fT (.tup [.int .i64 x0,.int .i64 x1,.int .i64 x2,.int .i64 x3]) (u75_0_0 mp tp mq tq) 2) (fR (lim .i64 (Int.tdiv (x4+x0) (x5+x2)*x2)) (fR (lim .i64 (x0-Int.tdiv (x4+x0) (x5+x2)*x2)) (fR (lim .i64 (Int.tdiv (x4+x0) (x5+x2)*x3)) (fR (lim .i64 (x1-Int.tdiv (x4+x0) (x5+x2)*x3)) (fR (lim .i64 (Int.tdiv (x4+x0) (x5+x2)*x5)) (fR (lim .i64 (x4-Int.tdiv (x4+x0) (x5+x2)*x5)) (fS (hd Tryz.f145 0) ([.int .i64 x2,.int .i64 x3,.int .i64 (x0-Int.tdiv (x4+x0) (x5+x2)*x2),.int .i64 (x1-Int.tdiv (x4+x0) (x5+x2)*x3),.int .i64 x5,.int .i64 (x4-Int.tdiv (x4+x0) (x5+x2)*x5)]) (u75_0_0 mp tp mq tq) 2) False) False) False) False) False) False)) False)) False) False) False)) False) False) (fT (.tup [.int .i64 x0,.int .i64 x1,.int .i64 x2,.int .i64 x3]) (u75_0_0 mp tp mq tq) 2)) False) (fT (.tup [.int .i64 x0,.int .i64 x1,.int .i64 x2,.int .i64 x3]) (u75_0_0 mp tp mq tq) 2)) False
theorem t75_0 (x0 x1 x2 x3 x4 x5:Int):run fR Tryz.env true (xF3 fR) true 400 ⟨145,hd Tryz.f145 0,yd [4,5,6,7,9,10] [.int .i64 x0,.int .i64 x1,.int .i64 x2,
 .int .i64 x3,.int .i64 x4,.int .i64 x5],[[],[(0,(false,CB mp tp)),(1,(false,CB mq tq))]],2⟩ (zr 2 [4,5,6,7,9,10] fS fT)=
  T75_0 fR fS fT mp tp mq tq x0 x1 x2 x3 x4 x5:=by kernel_rfl
noncomputable abbrev J75:Rt75→zS:=fun r=> [yC (2+1) ((N75) r)++ [(0,(false,CB mp tp)),(1,(false,CB mq tq))]]
attribute [local irreducible] Int.subNatNat in
theorem a75 {r:Rt75} (h:zY ((q75 ap np mp tp aq nq mq tq)) ((p75 ap np mp tp aq nq mq tq)) r):zn Tryz.prog 145 [.loose ⟨0,1,ap,0⟩ np,.loose ⟨1,1,aq,0⟩ nq] [[(0,(false,CB mp tp)),(1,(false,CB mq tq))]] 2 ((V75) r) ((J75 mp tp mq tq) r) 400∧HB Tryz.prog 145:=by
 refine zf Tryz.envOk Tryz.mixed kg ((I75 mp tp mq tq)) ((V75)) (J75 mp tp mq tq) (fn:=zU Tryz.f145) (ts:= [4,5,6,7,9,10]) (n:=400) rfl (by decide) (by simp) (zW rfl) ?_ ?_ ?_ h
 · intro s; cases s<;>exact ⟨yo _ _,by simp [I75],zW rfl,Nat.le_of_ble_eq_true rfl⟩
 · intro fS fT x hS hR h
   refine Holds.eq (te75 cond fS fT ap np mp tp aq nq mq tq) ?_
   unfold Te75
   unfold p75 at h
   exact zA h (fun c0 h=>zA h (fun c1 h=>zA h (fun c2 h=>ze hS _ h (fun n=>n) rfl rfl rfl ⟨(zI rfl),⟨(zI rfl),⟨(zI rfl),⟨(zI rfl),⟨(zI rfl),⟨(zI rfl),trivial⟩⟩⟩⟩⟩⟩ rfl (zB (zC rfl) rfl rfl (zB (zC rfl) rfl rfl zE))) (fun c2 h=>zF h)) (fun c1 h=>zF h)) (fun c0 h=>zF h)
 · intro fS fT x hS hR s h
   cases s with
   | h0 x0 x1 x2 x3 x4 x5=>
    refine Holds.eq (t75_0 cond fS fT mp tp mq tq x0 x1 x2 x3 x4 x5) ?_
    unfold T75_0
    rw [q75] at h
    refine zA h (fun c0 h=>zA h (fun c1 h=>zA h (fun c2 h=>zA h (fun c3 h=>zA h (fun c4 h=>zJ c0 (zA h (fun c5 h=> ?_) (fun c5 h=>zA h (fun c6 h=>zA h (fun c7 h=>zJ c2 (zA h (fun c8 h=> ?_) (fun c8 h=>zA h (fun c9 h=>zA h (fun c10 h=> ?_) (fun c10 h=>zA h (fun c11 h=>zA h (fun c12 h=>zA h (fun c13 h=>zA h (fun c14 h=>zA h (fun c15 h=>zA h (fun c16 h=>ze hS _ h (fun n=>n) rfl rfl rfl ⟨(zI rfl),⟨(zI rfl),⟨(zI rfl),⟨(zI rfl),⟨(zI rfl),⟨(zI rfl),trivial⟩⟩⟩⟩⟩⟩ rfl (zB (zC rfl) rfl rfl (zB (zC rfl) rfl rfl zE))) (fun c16 h=> ?_)) (fun c15 h=> ?_)) (fun c14 h=> ?_)) (fun c13 h=> ?_)) (fun c12 h=> ?_)) (fun c11 h=> ?_))) (fun c9 h=> ?_)))) (fun c7 h=> ?_)) (fun c6 h=> ?_)))) (fun c4 h=> ?_)) (fun c3 h=> ?_)) (fun c2 h=> ?_)) (fun c1 h=> ?_)) (fun c0 h=> ?_)
    all_goals first
      |exact zF h
      |exact zV hR _ h (fun n=>n) rfl rfl rfl (zk ⟨(zI rfl),(zI rfl),(zI rfl),(zI rfl),trivial⟩) rfl (zB (zC rfl) rfl rfl (zB (zC rfl) rfl rfl zE))
end
noncomputable def k75:Con:=⟨145,[.one (.list [.int .i64]),.one (.list [.int .i64])],w60 (fun ap np mp tp aq nq mq tq=>decide ((ap+np≤mp∧aq+nq≤mq)∧(3<np∧np≤900∧nq≤np)∧S.fX np (FS tp ap)=true∧S.fX nq (FS tq aq)=true∧(S.val nq (FS tq aq))≤(S.val np (FS tp ap)))),w60 (fun ap np mp tp aq nq mq tq=>(V75) ((S.eU (S.fU (FS tp ap) (np-3) 3) (S.fU (FS tq aq) (np-3) (nq-(np-3)))))),w60 (fun ap np mp tp aq nq mq tq=>(N75) ((S.eU (S.fU (FS tp ap) (np-3) 3) (S.fU (FS tq aq) (np-3) (nq-(np-3)))))),fun _ _=> .dead⟩
theorem s75' (ap np mp:Nat) (tp:Nat→Int) (aq nq mq:Nat) (tq:Nat→Int) {x0 y0:Int} (hx0:x0<1000000000000000000) (hy0:y0≤x0): ∀ (k:Nat) (x y p q r s:Int),mA x0 y0 x y p q r s→y.toNat<k→Comes (q75 ap np mp tp aq nq mq tq) (.h0 p q r s x y) (S.eV k x y p q r s):=by
 intro k
 induction k with
 |zero=>intro x y p q r s _ h; omega
 | succ k ih=>
  intro x y p q r s h hk
  have hb:=h.b
  have hyx:=h.yx
  have hyr:=h.yr
  have hys:=h.ys
  have hxp:=h.xp
  have hxq:=h.xq
  have bb:(-1000000000≤p∧p≤1000000000)∧(-1000000000≤q∧q≤1000000000)∧(-1000000000≤r∧r≤1000000000)∧ -1000000000≤s∧s≤1000000000:=by omega
  simp only [S.eV]
  apply Comes.of
  by_cases h1:y+r≠0∧y+s≠0
  · rw [if_pos h1]
    have c1:Int.tdiv (x+p) (y+r)≤x+p∧0≤Int.tdiv (x+p) (y+r):=by
     rw [Int.tdiv_eq_ediv_of_nonneg hxp]
     exact ⟨Int.ediv_le_self _ hxp,Int.ediv_nonneg hxp hyr⟩
    have c2:Int.tdiv (x+q) (y+s)≤x+q∧0≤Int.tdiv (x+q) (y+s):=by
     rw [Int.tdiv_eq_ediv_of_nonneg hxq]
     exact ⟨Int.ediv_le_self _ hxq,Int.ediv_nonneg hxq hys⟩
    by_cases h2:Int.tdiv (x+p) (y+r)=Int.tdiv (x+q) (y+s)
    · rw [if_pos h2]
      have hn:=jB h hx0 hy0 h1.1 h1.2 rfl h2
      have hl:x-Int.tdiv (x+p) (y+r)*y<y:=by
       have c:=rv (x:=x) (y:=y) (p:=p) (r:=r) (by omega) hxp rfl
       have d:=rv (x:=x) (y:=y) (p:=q) (r:=s) (by omega) hxq h2
       have sg:=h.sg
       have sg':=hn.sg
       omega
      have nb:=hn.b
      have nyx:=hn.yx
      have hm:=ih _ _ _ _ _ _ hn (by omega)
      clear hn ih h hb
      rw [q75]
      repeat' first
        |with_reducible exact hm
        |(with_reducible refine zH ?_ ?_; focus (first|exact bne_iff_ne.mpr h1.1|exact bne_iff_ne.mpr h1.2|(rw [y3]; apply decide_eq_true; omega)))
        |(with_reducible refine zb ?_ ?_; focus (first|exact decide_eq_false h1.1|exact decide_eq_false h1.2|(rw [h2]; exact bne_self_eq_false _)))
      exact hm
    · rw [if_neg h2]
      clear ih h hb
      rw [q75]
      repeat' first
        |with_reducible exact zG.mpr rfl
        |(with_reducible refine zH ?_ ?_; focus (first|exact bne_iff_ne.mpr h1.1|exact bne_iff_ne.mpr h1.2|exact bne_iff_ne.mpr h2|(rw [y3]; apply decide_eq_true; omega)))
        |(with_reducible refine zb ?_ ?_; focus (first|exact decide_eq_false h1.1|exact decide_eq_false h1.2))
  · rw [if_neg h1]
    clear ih h hb
    rw [q75]
    by_cases h3:y+r=0
    · refine zH (by rw [y3]; apply decide_eq_true; omega) (zb (by rw [h3]; rfl) (zG.mpr rfl))
    · have h4:y+s=0:=by omega
      refine zH (by rw [y3]; apply decide_eq_true; omega) (zH (bne_iff_ne.mpr h3) (zH (by rw [y3]; apply decide_eq_true; omega) (zb (by rw [h4]; rfl) (zG.mpr rfl))))
theorem nH {n m:Nat} {t u:Nat→Int} (hn:3<n) (hm:m≤n) (ht:S.fX n t=true) (hu:S.fX m u=true) (hv:S.val m u≤S.val n t):(S.pw (n-3)*S.fU t (n-3) 3≤S.val n t∧S.val n t<S.pw (n-3)*S.fU t (n-3) 3+S.pw (n-3))∧(S.pw (n-3)*S.fU u (n-3) (m-(n-3))≤S.val m u∧S.val m u<S.pw (n-3)*S.fU u (n-3) (m-(n-3))+S.pw (n-3))∧0≤S.fU u (n-3) (m-(n-3))∧S.fU u (n-3) (m-(n-3))≤S.fU t (n-3) 3∧S.fU t (n-3) 3<1000000000000000000:=by
 have dt:=yL.mp ht
 have du:=yL.mp hu
 have pp:=xH (k:=n-3)
 have e1:S.val n t=S.fU t 0 (n-3)+S.pw (n-3)*S.fU t (n-3) 3:=by
  have h:=ya (t:=t) (a:=n-3) (b:=3) (i:=0)
  rw [show n-3+3=n by omega,Nat.zero_add] at h
  exact h
 have l1:=yu (t:=t) (k:=n-3) (i:=0) fun j _ h=>dt j (by omega)
 have n1:=yI (t:=t) (k:=n-3) (i:=0) fun j _ h=>(dt j (by omega)).1
 have l3:=yu (t:=t) (k:=3) (i:=n-3) fun j _ h=>dt j (by omega)
 have p3:S.pw 3=1000000000000000000:=rfl
 have nu:=yI (t:=u) (k:=m-(n-3)) (i:=n-3) fun j _ h=>(du j (by omega)).1
 have key:S.pw (n-3)*S.fU u (n-3) (m-(n-3))≤S.val m u∧S.val m u<S.pw (n-3)*S.fU u (n-3) (m-(n-3))+S.pw (n-3):=by
  by_cases h:n-3≤m
  · have e2:S.val m u=S.fU u 0 (n-3)+S.pw (n-3)*S.fU u (n-3) (m-(n-3)):=by
     have h:=ya (t:=u) (a:=n-3) (b:=m-(n-3)) (i:=0)
     rw [show n-3+(m-(n-3))=m by omega,Nat.zero_add] at h
     exact h
    have l2:=yu (t:=u) (k:=n-3) (i:=0) fun j _ h=>du j (by omega)
    have n2:=yI (t:=u) (k:=n-3) (i:=0) fun j _ h=>(du j (by omega)).1
    omega
  · have e3:m-(n-3)=0:=by omega
    rw [e3]
    have v0:=yM hu
    have v1:=z5 hu (show m≤n-3 by omega)
    simp only [S.fU]
    omega
 refine ⟨⟨by omega,by omega⟩,key,nu,?_,by omega⟩
 refine Int.not_lt.mp fun h=> ?_
 have:S.pw (n-3)*(S.fU t (n-3) 3+1)≤S.pw (n-3)*S.fU u (n-3) (m-(n-3)):=Int.mul_le_mul_of_nonneg_left (by omega) (by omega)
 rw [Int.mul_add] at this
 omega
theorem s75 (ap np mp:Nat) (tp:Nat→Int) (aq nq mq:Nat) (tq:Nat→Int) (hp:(ap+np≤mp∧aq+nq≤mq)∧(3<np∧np≤900∧nq≤np)∧S.fX np (fun j=>tp (j+ap))=true∧S.fX nq (fun j=>tq (j+aq))=true∧(S.val nq (fun j=>tq (j+aq)))≤(S.val np (fun j=>tp (j+ap)))):zY ((q75 ap np mp tp aq nq mq tq)) ((p75 ap np mp tp aq nq mq tq)) (((S.eU (S.fU (fun j=>tp (j+ap)) (np-3) 3) (S.fU (fun j=>tq (j+aq)) (np-3) (nq-(np-3)))).1,(S.eU (S.fU (fun j=>tp (j+ap)) (np-3) 3) (S.fU (fun j=>tq (j+aq)) (np-3) (nq-(np-3)))).2.1,(S.eU (S.fU (fun j=>tp (j+ap)) (np-3) 3) (S.fU (fun j=>tq (j+aq)) (np-3) (nq-(np-3)))).2.2.1,(S.eU (S.fU (fun j=>tp (j+ap)) (np-3) 3) (S.fU (fun j=>tq (j+aq)) (np-3) (nq-(np-3)))).2.2.2)):=by
 obtain ⟨⟨hp1,hp2⟩,⟨hp3,hp4,hp5⟩,hp6,hp7,hp8⟩:=hp
 obtain ⟨-,-,y0,yx,x1⟩:=nH hp3 hp5 hp6 hp7 hp8
 have hm:=s75' ap np mp tp aq nq mq tq x1 yx ((S.fU (fun j=>tq (j+aq)) (np-3) (nq-(np-3))).toNat+1) (S.fU (fun j=>tp (j+ap)) (np-3) 3) (S.fU (fun j=>tq (j+aq)) (np-3) (nq-(np-3))) 1 0 0 1 (p8 ⟨y0,yx⟩) (by omega)
 have e1:(((np:Int)-3)).toNat=np-3:=by omega
 have e2:min np (np-3+3)-(np-3)=3:=by omega
 have e3:min nq (np-3+3)-(np-3)=nq-(np-3):=by omega
 clear y0 yx x1
 unfold p75
 with_reducible refine zH ?_ ?_
 · rw [y3]; apply decide_eq_true; omega
 with_reducible refine zH ?_ ?_
 · exact decide_eq_true ⟨hp1,by omega,hp6,by omega,by omega⟩
 with_reducible refine zH ?_ ?_
 · exact decide_eq_true ⟨hp2,by omega,hp7,by omega,by omega⟩
 rw [e1,e2,e3]
 exact hm
theorem k75_ok:k75.ok Tryz.prog:=by
 intro x hx
 obtain ⟨⟨ap,np,mp,tp,_⟩,⟨aq,nq,mq,tq,_⟩,_⟩:=x
 obtain ⟨h1,h2⟩:=a75 ap np mp tp aq nq mq tq (s75 ap np mp tp aq nq mq tq (zm hx rfl))
 exact ⟨⟨400,(by decide:2+1+0≤400),h1⟩,h2⟩
theorem iW (t:Int):(Int.tmod t 1000000<0→t % 1000000=Int.tmod t 1000000+1000000∧t / 1000000=Int.tdiv t 1000000-1)∧(¬ Int.tmod t 1000000<0→t % 1000000=Int.tmod t 1000000∧t / 1000000=Int.tdiv t 1000000):=by
 rcases Int.le_total 0 t with h|h
 · rw [Int.tdiv_eq_ediv_of_nonneg h,Int.tmod_eq_emod_of_nonneg h]; omega
 · obtain ⟨u,rfl⟩: ∃ u,t= -u:=⟨-t,by omega⟩
   rw [Int.neg_tdiv,Int.neg_tmod,Int.tdiv_eq_ediv_of_nonneg (by omega),Int.tmod_eq_emod_of_nonneg (by omega)]
   omega
theorem ou {a g:Int} (ha: -1000000000≤a∧a≤1000000000) (hg:0≤g∧g<1000000): -(1000000000*1000000)≤a*g∧a*g≤1000000000*1000000:=by
 have h1:a*g≤1000000000*g:=Int.mul_le_mul_of_nonneg_right ha.2 hg.1
 have h2: -1000000000*g≤a*g:=Int.mul_le_mul_of_nonneg_right ha.1 hg.1
 omega
theorem qD {i j:Nat} {d e:Int}:(bif Nat.beq j i then d else e)=if j=i then d else e:=by
 by_cases h:j=i
 · subst h; rw [if_pos rfl,Nat.beq_refl]; rfl
 · rw [if_neg h,show Nat.beq j i=false by cases hb:Nat.beq j i; rfl; exact absurd (Nat.eq_of_beq_eq_true hb) h]; rfl
section
variable (fR:TT) (fS:KS) (fT:KR) (ap np mp:Nat) (tp:NI) (aq nq mq:Nat) (tq:NI) (fp fq:Int)
inductive St76 where
 |h0 (x0:Int) (x1:Int) (x2:List Int)
abbrev Rt76:=List Int
noncomputable def V76 (r:Rt76):PV:= .own 3 1 r.length
noncomputable def N76 (r:Rt76):List Blk:= [CI r]
noncomputable def I76:St76→Hd
  | .h0 x0 x1 x2=>⟨hd Tryz.f146 0,[.loose ⟨1,1,aq,0⟩ nq,.int .i64 fp,
 .int .i64 fq,.own 2 1 x2.length,.int .i64 x0,
 .loose ⟨0,1,ap,0⟩ np,.int .i64 (np:Int),
 .int .i64 x1],[[(2,(true,CI x2))],[(0,(false,CB mp tp)),(1,(false,CB mq tq))]],3⟩
noncomputable def q76 (ap np mp:Nat) (tp:NI) (aq nq mq:Nat) (tq:NI) (fp fq:Int):St76→Option (St76⊕Rt76)| .h0 x0 x1 x2=>bif (decide (x1<(np:Int))) then (bif (decide ((0:Int)≤x1∧x1<(np:Int))) then (bif (decide (x1.toNat+ap<mp)) then (bif (lim .i64 (fp*tp (x1.toNat+ap))) then (bif (lim .i64 (x0+fp*tp (x1.toNat+ap))) then (bif (decide (x1<(nq:Int))) then (bif (decide ((0:Int)≤x1∧x1<(nq:Int))) then (bif (decide (x1.toNat+aq<mq)) then (bif (lim .i64 (fq*tq (x1.toNat+aq))) then (bif (lim .i64 (x0+fp*tp (x1.toNat+ap)+fq*tq (x1.toNat+aq))) then (bif (decide ((0:Int)≤x1∧x1<(↑(x2.length):Int))) then (bif (decide (x1.toNat<x2.length)) then (bif (lim .i64 (Int.tdiv (x0+fp*tp (x1.toNat+ap)+fq*tq (x1.toNat+aq)) (1000000:Int))) then (bif (decide ((bif Nat.beq x1.toNat x1.toNat then Int.tmod (x0+fp*tp (x1.toNat+ap)+fq*tq (x1.toNat+aq)) (1000000:Int) else S.at' x2 x1.toNat)<0)) then (bif (lim .i64 ((bif Nat.beq x1.toNat x1.toNat then Int.tmod (x0+fp*tp (x1.toNat+ap)+fq*tq (x1.toNat+aq)) (1000000:Int) else S.at' x2 x1.toNat)+1000000)) then (bif (lim .i64 (Int.tdiv (x0+fp*tp (x1.toNat+ap)+fq*tq (x1.toNat+aq)) (1000000:Int)-1)) then (bif (lim .i64 (x1+1)) then (some (.inl (.h0 (Int.tdiv (x0+fp*tp (x1.toNat+ap)+fq*tq (x1.toNat+aq)) (1000000:Int)-1) (x1+1) (S.fb x2.length fun j=>bif Nat.beq j x1.toNat then (bif Nat.beq x1.toNat x1.toNat then Int.tmod (x0+fp*tp (x1.toNat+ap)+fq*tq (x1.toNat+aq)) (1000000:Int) else S.at' x2 x1.toNat)+1000000 else bif Nat.beq j x1.toNat then Int.tmod (x0+fp*tp (x1.toNat+ap)+fq*tq (x1.toNat+aq)) (1000000:Int) else S.at' x2 j)))) else none) else none) else none) else (bif (lim .i64 (x1+1)) then (some (.inl (.h0 (Int.tdiv (x0+fp*tp (x1.toNat+ap)+fq*tq (x1.toNat+aq)) (1000000:Int)) (x1+1) (S.fb x2.length fun j=>bif Nat.beq j x1.toNat then Int.tmod (x0+fp*tp (x1.toNat+ap)+fq*tq (x1.toNat+aq)) (1000000:Int) else S.at' x2 j)))) else none)) else none) else none) else none) else none) else none) else none) else none) else (bif (decide ((0:Int)≤x1∧x1<(↑(x2.length):Int))) then (bif (decide (x1.toNat<x2.length)) then (bif (lim .i64 (Int.tdiv (x0+fp*tp (x1.toNat+ap)) (1000000:Int))) then (bif (decide ((bif Nat.beq x1.toNat x1.toNat then Int.tmod (x0+fp*tp (x1.toNat+ap)) (1000000:Int) else S.at' x2 x1.toNat)<0)) then (bif (lim .i64 ((bif Nat.beq x1.toNat x1.toNat then Int.tmod (x0+fp*tp (x1.toNat+ap)) (1000000:Int) else S.at' x2 x1.toNat)+1000000)) then (bif (lim .i64 (Int.tdiv (x0+fp*tp (x1.toNat+ap)) (1000000:Int)-1)) then (bif (lim .i64 (x1+1)) then (some (.inl (.h0 (Int.tdiv (x0+fp*tp (x1.toNat+ap)) (1000000:Int)-1) (x1+1) (S.fb x2.length fun j=>bif Nat.beq j x1.toNat then (bif Nat.beq x1.toNat x1.toNat then Int.tmod (x0+fp*tp (x1.toNat+ap)) (1000000:Int) else S.at' x2 x1.toNat)+1000000 else bif Nat.beq j x1.toNat then Int.tmod (x0+fp*tp (x1.toNat+ap)) (1000000:Int) else S.at' x2 j)))) else none) else none) else none) else (bif (lim .i64 (x1+1)) then (some (.inl (.h0 (Int.tdiv (x0+fp*tp (x1.toNat+ap)) (1000000:Int)) (x1+1) (S.fb x2.length fun j=>bif Nat.beq j x1.toNat then Int.tmod (x0+fp*tp (x1.toNat+ap)) (1000000:Int) else S.at' x2 j)))) else none)) else none) else none) else none)) else none) else none) else none) else none) else (bif (decide (x2.length≤x2.length)) then (bif (decide (x2.length≤1000000)) then (some (.inr (S.trim (S.fb x2.length fun j=>S.at' x2 j)))) else none) else none)
noncomputable def p76 (ap np mp:Nat) (tp:NI) (aq nq mq:Nat) (tq:NI) (fp fq:Int):Option (St76⊕Rt76):=bif (decide ((0:Int)≤(np:Int)∧(np:Int)≤(np:Int)∧(np:Int)≤1000000)) then (some (.inl (.h0 ((0:Int)) ((0:Int)) (S.fb np fun j=>0)))) else none
def Te76:Prop:=fR (decide ((0:Int)≤(np:Int)∧(np:Int)≤(np:Int)∧(np:Int)≤1000000)) (fS (hd Tryz.f146 0) ([.loose ⟨1,1,aq,0⟩ nq,.int .i64 fp,.int .i64 fq,.own 2 1 np,.int .i64 0,.loose ⟨0,1,ap,0⟩ np,.int .i64 (np:Int),.int .i64 0]) ([[(1,false,CB mq tq),(0,false,CB mp tp),(2,true,.cols np [.int .i64 fun (x:Nat)=>0])]]) 3) False
theorem te76:run fR Tryz.env true (xF3 fR) true 400 ⟨146,[.cd (zU Tryz.f146).body],z8 0 [.loose ⟨0,1,ap,0⟩ np,.loose ⟨1,1,aq,0⟩ nq,.int .i64 fp,.int .i64 fq],[[],[(0,(false,CB mp tp)),(1,(false,CB mq tq))]],2⟩ (zr 2 [1,2,3,9,10,16,17,18] fS fT)=
 Te76 fR fS ap np mp tp aq nq mq tq fp fq:=by kernel_rfl
noncomputable abbrev u76_0_0 (x1:Int) (x2:List Int):=decide ((0:Int)≤x1∧x1<(↑(x2.length):Int))
noncomputable abbrev u76_0_1 (x0 x1:Int):=x0+fp*tp (x1.toNat+ap)+fq*tq (x1.toNat+aq)
def T76_0 (x0 x1:Int) (x2:List Int):Prop:=fR (decide (x1<(np:Int))) (fR (decide ((0:Int)≤x1∧x1<(np:Int))) (fR (decide (x1.toNat+ap<mp)) (fR (lim .i64 (fp*tp (x1.toNat+ap))) (fR (lim .i64 (x0+fp*tp (x1.toNat+ap))) (fR (decide (x1<(nq:Int))) (fR (decide ((0:Int)≤x1∧x1<(nq:Int))) (fR (decide (x1.toNat+aq<mq)) (fR (lim .i64 (fq*tq (x1.toNat+aq))) (fR (lim .i64 (u76_0_1 ap tp aq tq fp fq x0 x1)) (fR false False (fR (u76_0_0 x1 x2) (fR (decide (x1.toNat<x2.length)) (fR false False (fR (lim .i64 (Int.tdiv (u76_0_1 ap tp aq tq fp fq x0 x1) (1000000:Int))) (fR (u76_0_0 x1 x2) (fR (decide (x1.toNat<x2.length)) (fR (decide ((bif Nat.beq x1.toNat x1.toNat then Int.tmod (u76_0_1 ap tp aq tq fp fq x0 x1) (1000000:Int) else S.at' x2 x1.toNat)<0)) (fR (u76_0_0 x1 x2) (fR (decide (x1.toNat<x2.length)) (fR (lim .i64 ((bif Nat.beq x1.toNat x1.toNat then Int.tmod (u76_0_1 ap tp aq tq fp fq x0 x1) (1000000:Int) else S.at' x2 x1.toNat)+1000000)) (fR (u76_0_0 x1 x2) (fR (decide (x1.toNat<x2.length)) (fR (lim .i64 (Int.tdiv (u76_0_1 ap tp aq tq fp fq x0 x1) (1000000:Int)-1)) (fR (lim .i64 (x1+1)) (fS (hd Tryz.f146 0) ([.loose ⟨1,1,aq,0⟩ nq,.int .i64 fp,.int .i64 fq,.own 2 1 x2.length,.int .i64 (Int.tdiv (u76_0_1 ap tp aq tq fp fq x0 x1) (1000000:Int)-1),.loose ⟨0,1,ap,0⟩ np,.int .i64 (np:Int),.int .i64 (x1+1)]) ([[(1,false,CB mq tq),(0,false,CB mp tp),(2,true,.cols x2.length [.int .i64 fun j=>bif Nat.beq j x1.toNat then (bif Nat.beq x1.toNat x1.toNat then Int.tmod (u76_0_1 ap tp aq tq fp fq x0 x1) (1000000:Int) else S.at' x2 x1.toNat)+1000000 else bif Nat.beq j x1.toNat then Int.tmod (u76_0_1 ap tp aq tq fp fq x0 x1) (1000000:Int) else S.at' x2 j])]]) 3) False) False) False) False) False) False) False) (fR (lim .i64 (x1+1)) (fS (hd Tryz.f146 0) ([.loose ⟨1,1,aq,0⟩ nq,.int .i64 fp,.int .i64 fq,.own 2 1 x2.length,.int .i64 (Int.tdiv (u76_0_1 ap tp aq tq fp fq x0 x1) (1000000:Int)),.loose ⟨0,1,ap,0⟩ np,.int .i64 (np:Int),.int .i64 (x1+1)]) ([[(1,false,CB mq tq),(0,false,CB mp tp),(2,true,.cols x2.length [.int .i64 fun j=>bif Nat.beq j x1.toNat then Int.tmod (u76_0_1 ap tp aq tq fp fq x0 x1) (1000000:Int) else S.at' x2 j])]]) 3) False)) False) False) False)) False) False)) False) False) False) False) (fR false False (fR (u76_0_0 x1 x2) (fR (decide (x1.toNat<x2.length)) (fR false False (fR (lim .i64 (Int.tdiv (x0+fp*tp (x1.toNat+ap)) (1000000:Int))) (fR (u76_0_0 x1 x2) (fR (decide (x1.toNat<x2.length)) (fR (decide ((bif Nat.beq x1.toNat x1.toNat then Int.tmod (x0+fp*tp (x1.toNat+ap)) (1000000:Int) else S.at' x2 x1.toNat)<0)) (fR (u76_0_0 x1 x2) (fR (decide (x1.toNat<x2.length)) (fR (lim .i64 ((bif Nat.beq x1.toNat x1.toNat then Int.tmod (x0+fp*tp (x1.toNat+ap)) (1000000:Int) else S.at' x2 x1.toNat)+1000000)) (fR (u76_0_0 x1 x2) (fR (decide (x1.toNat<x2.length)) (fR (lim .i64 (Int.tdiv (x0+fp*tp (x1.toNat+ap)) (1000000:Int)-1)) (fR (lim .i64 (x1+1)) (fS (hd Tryz.f146 0) ([.loose ⟨1,1,aq,0⟩ nq,.int .i64 fp,.int .i64 fq,.own 2 1 x2.length,.int .i64 (Int.tdiv (x0+fp*tp (x1.toNat+ap)) (1000000:Int)-1),.loose ⟨0,1,ap,0⟩ np,.int .i64 (np:Int),.int .i64 (x1+1)]) ([[(1,false,CB mq tq),(0,false,CB mp tp),(2,true,.cols x2.length [.int .i64 fun j=>bif Nat.beq j x1.toNat then (bif Nat.beq x1.toNat x1.toNat then Int.tmod (x0+fp*tp (x1.toNat+ap)) (1000000:Int) else S.at' x2 x1.toNat)+1000000 else bif Nat.beq j x1.toNat then Int.tmod (x0+fp*tp (x1.toNat+ap)) (1000000:Int) else S.at' x2 j])]]) 3) False) False) False) False) False) False) False) (fR (lim .i64 (x1+1)) (fS (hd Tryz.f146 0) ([.loose ⟨1,1,aq,0⟩ nq,.int .i64 fp,.int .i64 fq,.own 2 1 x2.length,.int .i64 (Int.tdiv (x0+fp*tp (x1.toNat+ap)) (1000000:Int)),.loose ⟨0,1,ap,0⟩ np,.int .i64 (np:Int),.int .i64 (x1+1)]) ([[(1,false,CB mq tq),(0,false,CB mp tp),(2,true,.cols x2.length [.int .i64 fun j=>bif Nat.beq j x1.toNat then Int.tmod (x0+fp*tp (x1.toNat+ap)) (1000000:Int) else S.at' x2 j])]]) 3) False)) False) False) False)) False) False))) False) False) False) False) (fR (decide (x2.length≤x2.length)) (fR (decide (x2.length≤1000000)) (fT (.own 2 1 (S.trim (S.fb x2.length fun j=>S.at' x2 j)).length) ([[(1,false,CB mq tq),(0,false,CB mp tp),(2,true,CI (S.trim (S.fb x2.length fun j=>S.at' x2 j)))]]) 4) False) False)
theorem t76_0 (x0 x1:Int) (x2:List Int):run fR Tryz.env true (xF3 fR) true 400 ⟨146,hd Tryz.f146 0,yd [1,2,3,9,10,16,17,18] [.loose ⟨1,1,aq,0⟩ nq,.int .i64 fp,
 .int .i64 fq,.own 2 1 x2.length,.int .i64 x0,
 .loose ⟨0,1,ap,0⟩ np,.int .i64 (np:Int),
 .int .i64 x1],[[(2,(true,CI x2))],[(0,(false,CB mp tp)),(1,(false,CB mq tq))]],3⟩ (zr 2 [1,2,3,9,10,16,17,18] fS fT)=
  T76_0 fR fS fT ap np mp tp aq nq mq tq fp fq x0 x1 x2:=by kernel_rfl
noncomputable abbrev J76:Rt76→zS:=fun r=> [yC (2+1) ((N76) r)++ [(0,(false,CB mp tp)),(1,(false,CB mq tq))]]
attribute [local irreducible] Int.subNatNat in
theorem a76 {r:Rt76} (h:zY ((q76 ap np mp tp aq nq mq tq fp fq)) ((p76 ap np mp tp aq nq mq tq fp fq)) r):zn Tryz.prog 146 [.loose ⟨0,1,ap,0⟩ np,.loose ⟨1,1,aq,0⟩ nq,.int .i64 fp,.int .i64 fq] [[(0,(false,CB mp tp)),(1,(false,CB mq tq))]] 2 ((V76) r) ((J76 mp tp mq tq) r) 400∧HB Tryz.prog 146:=by
 refine zf Tryz.envOk Tryz.mixed kg ((I76 ap np mp tp aq nq mq tq fp fq)) ((V76)) (J76 mp tp mq tq) (fn:=zU Tryz.f146) (ts:= [1,2,3,9,10,16,17,18]) (n:=400) rfl (by decide) (by simp) (zW rfl) ?_ ?_ ?_ h
 · intro s; cases s<;>exact ⟨yo _ _,by simp [I76],zW rfl,Nat.le_of_ble_eq_true rfl⟩
 · intro fS fT x hS hR h
   refine Holds.eq (te76 cond fS fT ap np mp tp aq nq mq tq fp fq) ?_
   unfold Te76
   unfold p76 at h
   exact zA h (fun c0 h=>ze hS _ h (fun n=>bif Nat.beq n 2 then 2 else n) rfl rfl rfl ⟨(zQ (zC rfl) rfl rfl rfl),⟨(zI rfl),⟨(zI rfl),⟨(zX (zD rfl) rfl zZ),⟨(zI rfl),⟨(zQ (zC rfl) rfl rfl rfl),⟨(zI rfl),⟨(zI rfl),trivial⟩⟩⟩⟩⟩⟩⟩⟩ rfl (zL (zD rfl) rfl (Nat.le_of_eq zZ) (zN (fun _ hj=>z4 (fun (t:Int)=>t) hj) zM) (zB (zC rfl) rfl rfl (zB (zC rfl) rfl rfl zE)))) (fun c0 h=>zF h)
 · intro fS fT x hS hR s h
   cases s with
   | h0 x0 x1 x2=>
    refine Holds.eq (t76_0 cond fS fT ap np mp tp aq nq mq tq fp fq x0 x1 x2) ?_
    unfold T76_0
    rw [q76] at h
    refine zA h (fun c0 h=>zA h (fun c1 h=>zA h (fun c2 h=>zA h (fun c3 h=>zA h (fun c4 h=>zA h (fun c5 h=>zA h (fun c6 h=>zA h (fun c7 h=>zA h (fun c8 h=>zA h (fun c9 h=>zd rfl (zA h (fun c10 h=>zA h (fun c11 h=>zd rfl (zA h (fun c12 h=>zJ c10 (zJ c11 (zA h (fun c13 h=>zJ c10 (zJ c11 (zA h (fun c14 h=>zJ c10 (zJ c11 (zA h (fun c15 h=>zA h (fun c16 h=> ?_) (fun c16 h=> ?_)) (fun c15 h=> ?_)))) (fun c14 h=> ?_)))) (fun c13 h=>zA h (fun c14 h=> ?_) (fun c14 h=> ?_))))) (fun c12 h=> ?_))) (fun c11 h=> ?_)) (fun c10 h=> ?_))) (fun c9 h=> ?_)) (fun c8 h=> ?_)) (fun c7 h=> ?_)) (fun c6 h=> ?_)) (fun c5 h=>zd rfl (zA h (fun c6 h=>zA h (fun c7 h=>zd rfl (zA h (fun c8 h=>zJ c6 (zJ c7 (zA h (fun c9 h=>zJ c6 (zJ c7 (zA h (fun c10 h=>zJ c6 (zJ c7 (zA h (fun c11 h=>zA h (fun c12 h=> ?_) (fun c12 h=> ?_)) (fun c11 h=> ?_)))) (fun c10 h=> ?_)))) (fun c9 h=>zA h (fun c10 h=> ?_) (fun c10 h=> ?_))))) (fun c8 h=> ?_))) (fun c7 h=> ?_)) (fun c6 h=> ?_)))) (fun c4 h=> ?_)) (fun c3 h=> ?_)) (fun c2 h=> ?_)) (fun c1 h=> ?_)) (fun c0 h=>zA h (fun c1 h=>zA h (fun c2 h=>zV hR _ h (fun n=>bif Nat.beq n 3 then 2 else n) rfl rfl rfl (zX (zD rfl) rfl rfl) rfl (zL (zD rfl) rfl (Nat.le_of_eq rfl) (zN (fun _ _=>rfl) zM) (zB (zC rfl) rfl rfl (zB (zC rfl) rfl rfl zE)))) (fun c2 h=> ?_)) (fun c1 h=> ?_))
    all_goals first
      |exact zF h
      |exact ze hS _ h (fun n=>bif Nat.beq n 2 then 2 else n) rfl rfl rfl ⟨(zQ (zC rfl) rfl rfl rfl),⟨(zI rfl),⟨(zI rfl),⟨(zX (zD rfl) rfl zZ),⟨(zI rfl),⟨(zQ (zC rfl) rfl rfl rfl),⟨(zI rfl),⟨(zI rfl),trivial⟩⟩⟩⟩⟩⟩⟩⟩ rfl (zL (zD rfl) rfl (Nat.le_of_eq zZ) (zN (fun _ hj=>z4 (fun (t:Int)=>t) hj) zM) (zB (zC rfl) rfl rfl (zB (zC rfl) rfl rfl zE)))
end
noncomputable abbrev w76 {α:Type} (g:Nat→Nat→Nat→(Nat→Int)→Nat→Nat→Nat→(Nat→Int)→Int→Int→α) (x:(Nat×Nat×Nat×(Nat→Int)×Unit)×(Nat×Nat×Nat×(Nat→Int)×Unit)×Int×Int×Unit):α:=g x.1.1 x.1.2.1 x.1.2.2.1 x.1.2.2.2.1 x.2.1.1 x.2.1.2.1 x.2.1.2.2.1 x.2.1.2.2.2.1 x.2.2.1 x.2.2.2.1
noncomputable def k76:Con:=⟨146,[.one (.list [.int .i64]),.one (.list [.int .i64]),.one (.plain (.int .i64)),.one (.plain (.int .i64))],w76 (fun ap np mp tp aq nq mq tq fp fq=>decide ((ap+np≤mp∧aq+nq≤mq)∧(np≤900∧nq≤np)∧(S.fX np (FS tp ap)=true∧S.fX nq (FS tq aq)=true)∧(-1000000000≤fp∧fp≤1000000000)∧(-1000000000≤fq∧fq≤1000000000)∧0≤fp*(S.val np (FS tp ap))+fq*(S.val nq (FS tq aq))∧fp*(S.val np (FS tp ap))+fq*(S.val nq (FS tq aq))≤(S.val np (FS tp ap)))),w76 (fun ap np mp tp aq nq mq tq fp fq=>(V76) (S.f0 (fp*(S.val np (FS tp ap))+fq*(S.val nq (FS tq aq))))),w76 (fun ap np mp tp aq nq mq tq fp fq=>(N76) (S.f0 (fp*(S.val np (FS tp ap))+fq*(S.val nq (FS tq aq))))),fun _ _=> .dead⟩
theorem s76' (ap np mp:Nat) (tp:Nat→Int) (aq nq mq:Nat) (tq:Nat→Int) (fp fq:Int) (hp:(ap+np≤mp∧aq+nq≤mq)∧(np≤900∧nq≤np)∧(S.fX np (fun j=>tp (j+ap))=true∧S.fX nq (fun j=>tq (j+aq))=true)∧(-1000000000≤fp∧fp≤1000000000)∧(-1000000000≤fq∧fq≤1000000000)∧0≤fp*(S.val np (fun j=>tp (j+ap)))+fq*(S.val nq (fun j=>tq (j+aq)))∧fp*(S.val np (fun j=>tp (j+ap)))+fq*(S.val nq (fun j=>tq (j+aq)))≤(S.val np (fun j=>tp (j+ap)))): ∀ (k i:Nat) (c:Int) (R:List Int),i+k=np→R.length=np→(∀ j,j<i→0≤S.at' R j∧S.at' R j<1000000)→(-3000000000≤c∧c≤3000000000)→S.fU (S.at' R) 0 i+S.pw i*c=fp*S.fU (fun j=>tp (j+ap)) 0 i+fq*S.fU (fun j=>tq (j+aq)) 0 (min i nq)→Comes (q76 ap np mp tp aq nq mq tq fp fq) (.h0 c (i:Int) R) (S.f0 (fp*(S.val np (fun j=>tp (j+ap)))+fq*(S.val nq (fun j=>tq (j+aq))))):=by
 obtain ⟨⟨hp1,hp2⟩,⟨hp3,hp4⟩,⟨hp5,hp6⟩,hp7,hp8,hp9,hp10⟩:=hp
 have dP:=yL.mp hp5
 have dQ:=yL.mp hp6
 intro k
 induction k with
 | zero=>
  intro i c R hi hl hd hc he
  obtain rfl:i=np:=by omega
  rw [Nat.min_eq_right hp4] at he
  have he:S.fU (S.at' R) 0 i+S.pw i*c=fp*S.val i (fun j=>tp (j+ap))+fq*(S.val nq (fun j=>tq (j+aq))):=he
  have oD:=yL.mpr hd
  have v0:=yM oD
  have v1:=z5 oD (Nat.le_refl i)
  have w1:=z5 hp5 (Nat.le_refl i)
  have pp:=xH (k:=i)
  have he':S.val i (S.at' R)+S.pw i*c=fp*S.val i (fun j=>tp (j+ap))+fq*(S.val nq (fun j=>tq (j+aq))):=he
  have c0:c=0:=by
   rcases Int.lt_trichotomy c 0 with h|h|h
   · have:S.pw i*c≤S.pw i*(-1):=Int.mul_le_mul_of_nonneg_left (by omega) (by omega)
     omega
   · exact h
   · have:S.pw i*1≤S.pw i*c:=Int.mul_le_mul_of_nonneg_left (by omega) (by omega)
     omega
  rw [c0,Int.mul_zero,Int.add_zero] at he'
  rw [← he']
  have e:=vJ (n:=i) (t:=S.at' R) oD
  clear v0 v1 w1 pp he he' hp9 hp10
  apply Comes.of
  rw [q76]
  refine zb (decide_eq_false (by omega)) (zH (decide_eq_true (Nat.le_refl _)) (zH (decide_eq_true (by omega)) (zG.mpr ?_)))
  rw [hl]; exact e
 | succ k ih=>
  intro i c R hi hl hd hc he
  have gp:0≤tp (i+ap)∧tp (i+ap)<1000000:=dP i (by omega)
  have step: ∀ (t G:Int),t=c+fp*tp (i+ap)+fq*G→(0≤G∧G<1000000)→S.fU (fun j=>tq (j+aq)) 0 (min (i+1) nq)=S.fU (fun j=>tq (j+aq)) 0 (min i nq)+S.pw i*G→Comes (q76 ap np mp tp aq nq mq tq fp fq) (.h0 (t / 1000000) (((i+1:Nat):Int)) (S.fb np fun j=>bif Nat.beq j i then t % 1000000 else S.at' R j)) (S.f0 (fp*(S.val np (fun j=>tp (j+ap)))+fq*(S.val nq (fun j=>tq (j+aq))))):=by
   intro t G ht hG hv
   have b1: -(1000000000*1000000)≤fp*tp (i+ap)∧fp*tp (i+ap)≤1000000000*1000000:=ou hp7 gp
   have b2: -(1000000000*1000000)≤fq*G∧fq*G≤1000000000*1000000:=ou hp8 hG
   refine ih (i+1) _ _ (by omega) zZ (fun j hj=> ?_) (by omega) ?_
   · rw [y9 (by omega),qD]
     split
     · omega
     · exact hd j (by omega)
   · have e1:S.fU (S.at' (S.fb np fun j=>bif Nat.beq j i then t % 1000000 else S.at' R j)) 0 (i+1)=S.fU (S.at' R) 0 i+S.pw i*(t % 1000000):=by
      rw [yP,Nat.zero_add,y9 (by omega),qD,if_pos rfl,yB (u:=S.at' R) fun j _ h=>by rw [y9 (by omega),qD,if_neg (by omega)]]
     have e2:S.fU (fun j=>tp (j+ap)) 0 (i+1)=S.fU (fun j=>tp (j+ap)) 0 i+S.pw i*tp (i+ap):=by
      rw [yP,Nat.zero_add]
     have e3:S.pw (i+1)=S.pw i*1000000:=Int.mul_comm _ _
     have e4:t % 1000000+1000000*(t / 1000000)=t:=Int.emod_add_mul_ediv t 1000000
     have e5:S.pw i*(t % 1000000)+S.pw i*(1000000*(t / 1000000))=S.pw i*c+S.pw i*(fp*tp (i+ap))+S.pw i*(fq*G):=by
      rw [← Int.mul_add,e4,ht,Int.mul_add,Int.mul_add]
     rw [e1,e2,e3,hv,Int.mul_assoc,Int.mul_add,Int.mul_add,Int.mul_left_comm fp,Int.mul_left_comm fq]
     omega
  have b1: -(1000000000*1000000)≤fp*tp (i+ap)∧fp*tp (i+ap)≤1000000000*1000000:=ou hp7 gp
  have ei:((i+1:Nat):Int)=(i:Int)+1:=by omega
  have hx:i+ap<mp:=by omega
  have hw:i<np:=by omega
  have hv:(0:Int)≤(i:Int)∧(i:Int)<(np:Int):=by omega
  clear ih hp9 hp10 hp5 hp6 dP he
  by_cases hn:i<nq
  · have gq:0≤tq (i+aq)∧tq (i+aq)<1000000:=dQ i (by omega)
    have hy:i+aq<mq:=by omega
    have hs:=step _ (tq (i+aq)) rfl gq (by rw [Nat.min_eq_left (by omega:i+1≤nq),Nat.min_eq_left (by omega:i≤nq),yP,Nat.zero_add])
    have b2: -(1000000000*1000000)≤fq*tq (i+aq)∧fq*tq (i+aq)≤1000000000*1000000:=ou hp8 gq
    clear step dQ
    have hT:=iW (c+fp*tp (i+ap)+fq*tq (i+aq))
    have bT: -2000003000000000≤c+fp*tp (i+ap)+fq*tq (i+aq)∧c+fp*tp (i+ap)+fq*tq (i+aq)≤2000003000000000:=by omega
    rw [ei] at hs
    subst hl
    have hb: ∀ x y:Int,(bif Nat.beq i i then x else y)=x:=fun x y=>by rw [Nat.beq_refl]; rfl
    have hz:(0:Int)≤(i:Int)∧(i:Int)<(nq:Int):=by omega
    apply Comes.of
    rw [q76,Int.toNat_natCast]
    by_cases hm:Int.tmod (c+fp*tp (i+ap)+fq*tq (i+aq)) 1000000<0
    · obtain ⟨h1,h2⟩:=hT.1 hm
      clear hT
      rw [h1,h2] at hs
      have eL:(S.fb R.length fun j=>bif Nat.beq j i then Int.tmod (c+fp*tp (i+ap)+fq*tq (i+aq)) 1000000+1000000 else bif Nat.beq j i then Int.tmod (c+fp*tp (i+ap)+fq*tq (i+aq)) 1000000 else S.at' R j)=S.fb R.length fun j=>bif Nat.beq j i then Int.tmod (c+fp*tp (i+ap)+fq*tq (i+aq)) 1000000+1000000 else S.at' R j:=xn fun j _=>by
       cases Nat.beq j i<;>rfl
      rw [← eL] at hs
      clear eL
      repeat' first
        |(with_reducible refine zH ?_ ?_; focus (first|with_reducible exact decide_eq_true hx|with_reducible exact decide_eq_true hw|with_reducible exact decide_eq_true hv|with_reducible exact decide_eq_true hy|with_reducible exact decide_eq_true hz|(apply decide_eq_true; rw [hb]; exact hm)|(rw [y3]; apply decide_eq_true; omega)|(rw [hb,y3]; apply decide_eq_true; omega)|(apply decide_eq_true; omega)))
        |(with_reducible refine zb ?_ ?_; focus (first|(apply decide_eq_false; rw [hb]; exact hm)|(apply decide_eq_false; omega)))
      rw [hb]
      exact hs
    · obtain ⟨h1,h2⟩:=hT.2 hm
      clear hT
      rw [h1,h2] at hs
      repeat' first
        |(with_reducible refine zH ?_ ?_; focus (first|with_reducible exact decide_eq_true hx|with_reducible exact decide_eq_true hw|with_reducible exact decide_eq_true hv|with_reducible exact decide_eq_true hy|with_reducible exact decide_eq_true hz|(apply decide_eq_true; rw [hb]; exact hm)|(rw [y3]; apply decide_eq_true; omega)|(rw [hb,y3]; apply decide_eq_true; omega)|(apply decide_eq_true; omega)))
        |(with_reducible refine zb ?_ ?_; focus (first|(apply decide_eq_false; rw [hb]; exact hm)|(apply decide_eq_false; omega)))
      exact hs
  · have hs:=step (c+fp*tp (i+ap)) 0 (by rw [Int.mul_zero,Int.add_zero]) (by omega) (by rw [Nat.min_eq_right (by omega:nq≤i+1),Nat.min_eq_right (by omega:nq≤i),Int.mul_zero,Int.add_zero])
    clear step dQ
    have hT:=iW (c+fp*tp (i+ap))
    have bT: -2000003000000000≤c+fp*tp (i+ap)∧c+fp*tp (i+ap)≤2000003000000000:=by omega
    rw [ei] at hs
    subst hl
    have hb: ∀ x y:Int,(bif Nat.beq i i then x else y)=x:=fun x y=>by rw [Nat.beq_refl]; rfl
    skip
    apply Comes.of
    rw [q76,Int.toNat_natCast]
    by_cases hm:Int.tmod (c+fp*tp (i+ap)) 1000000<0
    · obtain ⟨h1,h2⟩:=hT.1 hm
      clear hT
      rw [h1,h2] at hs
      have eL:(S.fb R.length fun j=>bif Nat.beq j i then Int.tmod (c+fp*tp (i+ap)) 1000000+1000000 else bif Nat.beq j i then Int.tmod (c+fp*tp (i+ap)) 1000000 else S.at' R j)=S.fb R.length fun j=>bif Nat.beq j i then Int.tmod (c+fp*tp (i+ap)) 1000000+1000000 else S.at' R j:=xn fun j _=>by
       cases Nat.beq j i<;>rfl
      rw [← eL] at hs
      clear eL
      repeat' first
        |(with_reducible refine zH ?_ ?_; focus (first|with_reducible exact decide_eq_true hx|with_reducible exact decide_eq_true hw|with_reducible exact decide_eq_true hv|(apply decide_eq_true; rw [hb]; exact hm)|(rw [y3]; apply decide_eq_true; omega)|(rw [hb,y3]; apply decide_eq_true; omega)|(apply decide_eq_true; omega)))
        |(with_reducible refine zb ?_ ?_; focus (first|(apply decide_eq_false; rw [hb]; exact hm)|(apply decide_eq_false; omega)))
      rw [hb]
      exact hs
    · obtain ⟨h1,h2⟩:=hT.2 hm
      clear hT
      rw [h1,h2] at hs
      repeat' first
        |(with_reducible refine zH ?_ ?_; focus (first|with_reducible exact decide_eq_true hx|with_reducible exact decide_eq_true hw|with_reducible exact decide_eq_true hv|(apply decide_eq_true; rw [hb]; exact hm)|(rw [y3]; apply decide_eq_true; omega)|(rw [hb,y3]; apply decide_eq_true; omega)|(apply decide_eq_true; omega)))
        |(with_reducible refine zb ?_ ?_; focus (first|(apply decide_eq_false; rw [hb]; exact hm)|(apply decide_eq_false; omega)))
      exact hs
theorem s76 (ap np mp:Nat) (tp:Nat→Int) (aq nq mq:Nat) (tq:Nat→Int) (fp fq:Int) (hp:(ap+np≤mp∧aq+nq≤mq)∧(np≤900∧nq≤np)∧(S.fX np (fun j=>tp (j+ap))=true∧S.fX nq (fun j=>tq (j+aq))=true)∧(-1000000000≤fp∧fp≤1000000000)∧(-1000000000≤fq∧fq≤1000000000)∧0≤fp*(S.val np (fun j=>tp (j+ap)))+fq*(S.val nq (fun j=>tq (j+aq)))∧fp*(S.val np (fun j=>tp (j+ap)))+fq*(S.val nq (fun j=>tq (j+aq)))≤(S.val np (fun j=>tp (j+ap)))):zY ((q76 ap np mp tp aq nq mq tq fp fq)) ((p76 ap np mp tp aq nq mq tq fp fq)) (S.f0 (fp*(S.val np (fun j=>tp (j+ap)))+fq*(S.val nq (fun j=>tq (j+aq))))):=by
 have hp':=hp
 obtain ⟨⟨hp1,hp2⟩,⟨hp3,hp4⟩,-⟩:=hp
 have hm:=s76' ap np mp tp aq nq mq tq fp fq hp' np 0 0 (S.fb np fun _=>0) (by omega) zZ (fun j hj=>by omega) (by omega) (by
  rw [Nat.min_eq_left (Nat.zero_le _)]
  simp only [S.fU,Int.mul_zero,Int.add_zero])
 unfold p76
 with_reducible refine zH ?_ ?_
 · apply decide_eq_true; omega
 exact hm
theorem k76_ok:k76.ok Tryz.prog:=by
 intro x hx
 obtain ⟨⟨ap,np,mp,tp,_⟩,⟨aq,nq,mq,tq,_⟩,fp,fq,_⟩:=x
 obtain ⟨h1,h2⟩:=a76 ap np mp tp aq nq mq tq fp fq (s76 ap np mp tp aq nq mq tq fp fq (zm hx rfl))
 exact ⟨⟨400,(by decide:2+1+1≤400),h1⟩,h2⟩
noncomputable def xG5 (fR:Bool→Prop→Prop→Prop):Ext:=y2 fR [k65v,k60,k61,k44,k55,k54,k74,k77,k75,k76,k45]
theorem g5:yT Tryz.prog (xG5 cond):=yH ⟨k65v_ok,k60_ok,k61_ok,k44_ok,k55_ok,k54_ok,k74_ok,k77_ok,k75_ok,k76_ok,k45_ok,trivial⟩
namespace S
noncomputable def fh (a b:Int):Int:=((Int.gcd a b:Nat):Int)
end S
theorem vG {a b:Int}:S.fh b (a % b)=S.fh a b:=by
 unfold S.fh
 have h:=nY (A:=a) (B:=b) (p:=0) (q:=1) (r:=1) (s:= -(a / b)) (.inr (by omega))
 have e:=Int.mul_ediv_add_emod a b
 rw [show 0*a+1*b=b by omega,show 1*a+ -(a / b)*b=a % b by have e2:a / b*b=b*(a / b):=Int.mul_comm _ _; rw [Int.neg_mul]; omega] at h
 rw [h]
theorem wb {a:Int} (h:0≤a):S.fh a 0=a:=by
 unfold S.fh
 rw [Int.gcd_zero_right]; omega
theorem n6 {a b:Int}:S.fh a b=S.fh b a:=by
 unfold S.fh
 rw [Int.gcd_comm]
theorem fK {x:Int} (h:0≤x∧x<9223372036854775808):IntKind.u64.wrap x=x:=by
 first|(rw [IntKind.wrap_u64]; omega)|(show x % 18446744073709551616=x; omega)|(simp [IntKind.wrap]; omega)
theorem iQ: ∀ {n:Nat} {t:Nat→Int},S.fW n t=true→S.fb n t=S.trim (S.fb n t)
  |0,_,_=>rfl
  |n+1,t,h=>by
   rcases (zp.mp h).2 with h|h
   · omega
   · exact (tL h).symm
section
variable (fR:TT) (fS:KS) (fT:KR) (ap np mp:Nat) (tp:NI) (aq nq mq:Nat) (tq:NI)
noncomputable abbrev c63_0_0 (x0 x1:List Int):=S.eU (S.fU (fun j=>S.at' x0 j) (x0.length-3) 3) (S.fU (fun j=>S.at' x1 j) (x0.length-3) (x1.length-(x0.length-3)))
noncomputable abbrev c63_0_1 (x0 x1:List Int):=decide ((0+x0.length≤x0.length∧0+x1.length≤x1.length)∧(x0.length≤900∧x1.length≤x0.length)∧((S.fX x0.length fun j=>S.at' x0 j)=true∧(S.fX x1.length fun j=>S.at' x1 j)=true)∧((-1000000000:Int)≤Prod.fst (Prod.snd (Prod.snd (c63_0_0 x0 x1)))∧Prod.fst (Prod.snd (Prod.snd (c63_0_0 x0 x1)))≤1000000000)∧((-1000000000:Int)≤Prod.snd (Prod.snd (Prod.snd (c63_0_0 x0 x1)))∧Prod.snd (Prod.snd (Prod.snd (c63_0_0 x0 x1)))≤1000000000)∧((0:Int)≤(Prod.fst (Prod.snd (Prod.snd (c63_0_0 x0 x1)))*S.val x0.length fun j=>S.at' x0 j)+Prod.snd (Prod.snd (Prod.snd (c63_0_0 x0 x1)))*S.val x1.length fun j=>S.at' x1 j)∧((Prod.fst (Prod.snd (Prod.snd (c63_0_0 x0 x1)))*S.val x0.length fun j=>S.at' x0 j)+Prod.snd (Prod.snd (Prod.snd (c63_0_0 x0 x1)))*S.val x1.length fun j=>S.at' x1 j)≤S.val x0.length fun j=>S.at' x0 j)
noncomputable abbrev c63_0_2 (x0 x1:List Int):=decide ((0+x0.length≤x0.length∧0+x1.length≤x1.length)∧(x0.length≤900∧x1.length≤x0.length)∧((S.fX x0.length fun j=>S.at' x0 j)=true∧(S.fX x1.length fun j=>S.at' x1 j)=true)∧((-1000000000:Int)≤Prod.fst (c63_0_0 x0 x1)∧Prod.fst (c63_0_0 x0 x1)≤1000000000)∧((-1000000000:Int)≤Prod.fst (Prod.snd (c63_0_0 x0 x1))∧Prod.fst (Prod.snd (c63_0_0 x0 x1))≤1000000000)∧((0:Int)≤(Prod.fst (c63_0_0 x0 x1)*S.val x0.length fun j=>S.at' x0 j)+Prod.fst (Prod.snd (c63_0_0 x0 x1))*S.val x1.length fun j=>S.at' x1 j)∧((Prod.fst (c63_0_0 x0 x1)*S.val x0.length fun j=>S.at' x0 j)+Prod.fst (Prod.snd (c63_0_0 x0 x1))*S.val x1.length fun j=>S.at' x1 j)≤S.val x0.length fun j=>S.at' x0 j)
noncomputable abbrev c63_0_3 (x0 x1:List Int):=S.eU (S.fU (fun j=>S.at' x0 j) (x0.length-3) 3) (S.fU (fun j=>S.at' x1 j) (x0.length-3) (x1.length-(x0.length-3)))
inductive St63 where
 |h0 (x0:List Int) (x1:List Int)
 |h1 (x0:Int) (x1:Int)
abbrev Rt63:=List Int
noncomputable def V63 (r:Rt63):PV:= .own 3 1 r.length
noncomputable def N63 (r:Rt63):List Blk:= [CI r]
noncomputable def I63:St63→Hd
  | .h0 x0 x1=>⟨hd Tryz.f126 0,[.own 2 1 x0.length,.own 3 1 x1.length,
 .unk,.unk],[[(2,(true,CI x0)),(3,(true,CI x1))],[(0,(false,CB mp tp)),(1,(false,CB mq tq))]],4⟩
  | .h1 x0 x1=>⟨hd Tryz.f126 1,[.unk,.unk,.int .i64 x0,.int .i64 x1],[[],[(0,(false,CB mp tp)),(1,(false,CB mq tq))]],2⟩
noncomputable def q63 (ap np mp:Nat) (tp:NI) (aq nq mq:Nat) (tq:NI):St63→Option (St63⊕Rt63)| .h0 x0 x1=>bif (decide ((↑(x0.length):Int)>3)) then (bif (decide ((↑(x1.length):Int)>0)) then (bif (decide ((0+x0.length≤x0.length∧0+x1.length≤x1.length)∧(3<x0.length∧x0.length≤900∧x1.length≤x0.length)∧(S.fX x0.length fun j=>S.at' x0 j)=true∧(S.fX x1.length fun j=>S.at' x1 j)=true∧(S.val x1.length fun j=>S.at' x1 j)≤S.val x0.length fun j=>S.at' x0 j)) then (bif (Prod.fst (Prod.snd (c63_0_3 x0 x1))==0) then (bif (decide ((0+x0.length≤x0.length∧0+x1.length≤x1.length)∧(x0.length≤900∧x1.length≤900)∧(S.fW x0.length fun j=>S.at' x0 j)=true∧(S.fW x1.length fun j=>S.at' x1 j)=true∧0<x1.length)) then (some (.inl (.h0 x1 (S.f0 ((S.val x0.length fun j=>S.at' x0 j) % S.val x1.length fun j=>S.at' x1 j))))) else none) else (bif (c63_0_2 x0 x1) then (bif (c63_0_1 x0 x1) then (some (.inl (.h0 (S.f0 ((Prod.fst (c63_0_3 x0 x1)*S.val x0.length fun j=>S.at' x0 j)+Prod.fst (Prod.snd (c63_0_3 x0 x1))*S.val x1.length fun j=>S.at' x1 j)) (S.f0 ((Prod.fst (Prod.snd (Prod.snd (c63_0_3 x0 x1)))*S.val x0.length fun j=>S.at' x0 j)+Prod.snd (Prod.snd (Prod.snd (c63_0_3 x0 x1)))*S.val x1.length fun j=>S.at' x1 j))))) else none) else none)) else none) else (bif ((↑(x1.length):Int)==0) then (some (.inr x0)) else (bif (decide (0+x0.length≤x0.length∧x0.length≤1000∧(S.fX x0.length fun j=>S.at' x0 j)=true∧(0:Int)≤0∧(0:Int)≤1000)) then (bif (decide (0+x1.length≤x1.length∧x1.length≤1000∧(S.fX x1.length fun j=>S.at' x1 j)=true∧(0:Int)≤0∧(0:Int)≤1000)) then (some (.inl (.h1 (S.fU (fun j=>S.at' x0 j) 0 (Min.min x0.length 3)) (S.fU (fun j=>S.at' x1 j) 0 (Min.min x1.length 3))))) else none) else none))) else (bif ((↑(x1.length):Int)==0) then (some (.inr x0)) else (bif (decide (0+x0.length≤x0.length∧x0.length≤1000∧(S.fX x0.length fun j=>S.at' x0 j)=true∧(0:Int)≤0∧(0:Int)≤1000)) then (bif (decide (0+x1.length≤x1.length∧x1.length≤1000∧(S.fX x1.length fun j=>S.at' x1 j)=true∧(0:Int)≤0∧(0:Int)≤1000)) then (some (.inl (.h1 (S.fU (fun j=>S.at' x0 j) 0 (Min.min x0.length 3)) (S.fU (fun j=>S.at' x1 j) 0 (Min.min x1.length 3))))) else none) else none))| .h1 x0 x1=>bif (decide (x1>0)) then (bif (decide (x1=0)) then none else (some (.inl (.h1 x1 (Int.tmod x0 x1))))) else (bif (decide ((0:Int)≤IntKind.wrap .u64 x0∧IntKind.wrap .u64 x0≤9223372036854775808)) then (some (.inr (S.f0 (IntKind.wrap .u64 x0)))) else none)
noncomputable def p63 (ap np mp:Nat) (tp:NI) (aq nq mq:Nat) (tq:NI):Option (St63⊕Rt63):=bif (decide (ap+np≤mp∧np≤1000000)) then (bif (decide (aq+nq≤mq∧nq≤1000000)) then (bif (decide (0+np≤np∧np≤1000000∧0+nq≤nq∧nq≤1000000∧(S.fW np fun j=>tp (j+ap))=true∧(S.fW nq fun j=>tq (j+aq))=true)) then (bif (decide (S.fv (S.val np fun j=>tp (j+ap)) (S.val nq fun j=>tq (j+aq))<0)) then (some (.inl (.h0 (S.fb nq fun j=>tq (j+aq)) (S.fb np fun j=>tp (j+ap))))) else (some (.inl (.h0 (S.fb np fun j=>tp (j+ap)) (S.fb nq fun j=>tq (j+aq)))))) else none) else none) else none
def Te63:Prop:=fR (decide (ap+np≤mp∧np≤1000000)) (fR (decide (aq+nq≤mq∧nq≤1000000)) (fR (decide (0+np≤np∧np≤1000000∧0+nq≤nq∧nq≤1000000∧(S.fW np (FS tp ap))=true∧(S.fW nq (FS tq aq))=true)) (fR (decide (S.fv (S.val np (FS tp ap)) (S.val nq (FS tq aq))<0)) (fS (hd Tryz.f126 0) ([.own 5 1 nq,.own 3 1 np,.unk,.unk]) ([[(1,false,CB mq tq),(0,false,CB mp tp),(3,true,.cols np [.int .i64 fun j=>tp (j+ap)]),(5,true,.cols nq [.int .i64 fun j=>tq (j+aq)])]]) 7) (fS (hd Tryz.f126 0) ([.own 3 1 np,.own 5 1 nq,.unk,.unk]) ([[(1,false,CB mq tq),(0,false,CB mp tp),(5,true,.cols nq [.int .i64 fun j=>tq (j+aq)]),(3,true,.cols np [.int .i64 fun j=>tp (j+ap)])]]) 7)) False) False) False
theorem te63:run fR Tryz.env true (xG5 fR) true 400 ⟨126,[.cd (zU Tryz.f126).body],z8 0 [.loose ⟨0,1,ap,0⟩ np,.loose ⟨1,1,aq,0⟩ nq],[[],[(0,(false,CB mp tp)),(1,(false,CB mq tq))]],2⟩ (zr 2 [0,1,11,12] fS fT)=
 Te63 fR fS ap np mp tp aq nq mq tq:=by kernel_rfl
noncomputable abbrev u63_0_0 (x0 x1:List Int):=S.f0 (((c63_0_0 x0 x1).2.2.1*S.val x0.length fun j=>S.at' x0 j)+(c63_0_0 x0 x1).2.2.2*S.val x1.length fun j=>S.at' x1 j)
noncomputable abbrev u63_0_1 (x0 x1:List Int):=([PV.own 2 1 x0.length,PV.own 3 1 x1.length,PV.int IntKind.i64 (S.fU (fun j=>S.at' x0 j) 0 (Min.min x0.length 3)),PV.int IntKind.i64 (S.fU (fun j=>S.at' x1 j) 0 (Min.min x1.length 3))])
noncomputable abbrev u63_0_2 (x0:List Int):=(2,true,Blk.cols x0.length [Col.int IntKind.i64 fun j=>S.at' x0 j])
noncomputable abbrev u63_0_3 (x0:List Int):=decide (0+x0.length≤x0.length∧x0.length≤1000∧(S.fX x0.length fun j=>S.at' x0 j)=true∧(0:Int)≤(0:Int)∧(0:Int)≤(1000:Int))
noncomputable abbrev u63_0_4 (x1:List Int):=decide (0+x1.length≤x1.length∧x1.length≤1000∧(S.fX x1.length fun j=>S.at' x1 j)=true∧(0:Int)≤(0:Int)∧(0:Int)≤(1000:Int))
def T63_0 (x0 x1:List Int):Prop:=fR (decide ((↑(x0.length):Int)>3)) (fR (decide ((↑(x1.length):Int)>0)) (fR (decide ((0+x0.length≤x0.length∧0+x1.length≤x1.length)∧(3<x0.length∧x0.length≤900∧x1.length≤x0.length)∧(S.fX x0.length fun j=>S.at' x0 j)=true∧(S.fX x1.length fun j=>S.at' x1 j)=true∧(S.val x1.length fun j=>S.at' x1 j)≤S.val x0.length fun j=>S.at' x0 j)) (fR ((c63_0_3 x0 x1).2.1==0) (fR (decide ((0+x0.length≤x0.length∧0+x1.length≤x1.length)∧(x0.length≤900∧x1.length≤900)∧(S.fW x0.length fun j=>S.at' x0 j)=true∧(S.fW x1.length fun j=>S.at' x1 j)=true∧0<x1.length)) (fS (hd Tryz.f126 0) ([.own 3 1 x1.length,.own 6 1 (S.f0 ((S.val x0.length fun j=>S.at' x0 j) % S.val x1.length fun j=>S.at' x1 j)).length,.unk,.unk]) ([[(1,false,CB mq tq),(0,false,CB mp tp),(6,true,CI (S.f0 ((S.val x0.length fun j=>S.at' x0 j) % S.val x1.length fun j=>S.at' x1 j))),(3,true,CI x1)]]) 8) False) (fR (c63_0_2 x0 x1) (fR (c63_0_1 x0 x1) (fS (hd Tryz.f126 0) ([.own 6 1 (S.f0 (((c63_0_3 x0 x1).1*S.val x0.length fun j=>S.at' x0 j)+(c63_0_0 x0 x1).2.1*S.val x1.length fun j=>S.at' x1 j)).length,.own 8 1 (u63_0_0 x0 x1).length,.unk,.unk]) ([[(1,false,CB mq tq),(0,false,CB mp tp),(8,true,CI (u63_0_0 x0 x1)),(6,true,CI (S.f0 (((c63_0_0 x0 x1).1*S.val x0.length fun j=>S.at' x0 j)+(c63_0_0 x0 x1).2.1*S.val x1.length fun j=>S.at' x1 j)))]]) 9) False) False)) False) (fR ((↑(x1.length):Int)==0) (fT (.own 2 1 x0.length) ([[(1,false,CB mq tq),(0,false,CB mp tp),(u63_0_2 x0)]]) 4) (fR (u63_0_3 x0) (fR (u63_0_4 x1) (fS (hd Tryz.f126 1) (u63_0_1 x0 x1) ([[(1,false,CB mq tq),(0,false,CB mp tp),(3,true,CI x1),(u63_0_2 x0)]]) 6) False) False))) (fR ((↑(x1.length):Int)==0) (fT (.own 2 1 x0.length) ([[(1,false,CB mq tq),(0,false,CB mp tp),(u63_0_2 x0)]]) 4) (fR (u63_0_3 x0) (fR (u63_0_4 x1) (fS (hd Tryz.f126 1) (u63_0_1 x0 x1) ([[(1,false,CB mq tq),(0,false,CB mp tp),(3,true,CI x1),(u63_0_2 x0)]]) 6) False) False))
theorem t63_0 (x0 x1:List Int):run fR Tryz.env true (xG5 fR) true 400 ⟨126,hd Tryz.f126 0,yd [0,1,11,12] [.own 2 1 x0.length,.own 3 1 x1.length,
 .unk,.unk],[[(2,(true,CI x0)),(3,(true,CI x1))],[(0,(false,CB mp tp)),(1,(false,CB mq tq))]],4⟩ (zr 2 [0,1,11,12] fS fT)=
  T63_0 fR fS fT mp tp mq tq x0 x1:=by kernel_rfl
def T63_1 (x0 x1:Int):Prop:=fR (decide (x1>0)) (fR (decide (x1=0)) False (fS (hd Tryz.f126 1) ([.unk,.unk,.int .i64 x1,.int .i64 (Int.tmod x0 x1)]) ([[(1,false,CB mq tq),(0,false,CB mp tp)]]) 2)) (fR (decide ((0:Int)≤IntKind.wrap .u64 x0∧IntKind.wrap .u64 x0≤9223372036854775808)) (fT (.own 3 1 (S.f0 (IntKind.wrap .u64 x0)).length) ([[(1,false,CB mq tq),(0,false,CB mp tp),(3,true,CI (S.f0 (IntKind.wrap .u64 x0)))]]) 4) False)
theorem t63_1 (x0 x1:Int):run fR Tryz.env true (xG5 fR) true 400 ⟨126,hd Tryz.f126 1,yd [0,1,11,12] [.unk,.unk,.int .i64 x0,.int .i64 x1],[[],[(0,(false,CB mp tp)),(1,(false,CB mq tq))]],2⟩ (zr 2 [0,1,11,12] fS fT)=
 T63_1 fR fS fT mp tp mq tq x0 x1:=by kernel_rfl
noncomputable abbrev J63:Rt63→zS:=fun r=> [yC (2+1) ((N63) r)++ [(0,(false,CB mp tp)),(1,(false,CB mq tq))]]
attribute [local irreducible] Int.subNatNat in
theorem a63 {r:Rt63} (h:zY ((q63 ap np mp tp aq nq mq tq)) ((p63 ap np mp tp aq nq mq tq)) r):zn Tryz.prog 126 [.loose ⟨0,1,ap,0⟩ np,.loose ⟨1,1,aq,0⟩ nq] [[(0,(false,CB mp tp)),(1,(false,CB mq tq))]] 2 ((V63) r) ((J63 mp tp mq tq) r) 400∧HB Tryz.prog 126:=by
 refine zf Tryz.envOk Tryz.mixed g5 ((I63 mp tp mq tq)) ((V63)) (J63 mp tp mq tq) (fn:=zU Tryz.f126) (ts:= [0,1,11,12]) (n:=400) rfl (by decide) (by simp) (zW rfl) ?_ ?_ ?_ h
 · intro s; cases s<;>exact ⟨yo _ _,by simp [I63],zW rfl,Nat.le_of_ble_eq_true rfl⟩
 · intro fS fT x hS hR h
   refine Holds.eq (te63 cond fS fT ap np mp tp aq nq mq tq) ?_
   unfold Te63
   unfold p63 at h
   exact zA h (fun c0 h=>zA h (fun c1 h=>zA h (fun c2 h=>zA h (fun c3 h=>ze hS _ h (fun n=>bif Nat.beq n 2 then 5 else bif Nat.beq n 3 then 3 else n) rfl rfl rfl ⟨(zX (zD rfl) rfl zZ),⟨(zX (zD rfl) rfl zZ),⟨(zh _),⟨(zh _),trivial⟩⟩⟩⟩ rfl (zL (zD rfl) rfl (Nat.le_of_eq zZ) (zN (fun _ hj=>z4 (fun (t:Int)=>t) hj) zM) (zL (zD rfl) rfl (Nat.le_of_eq zZ) (zN (fun _ hj=>z4 (fun (t:Int)=>t) hj) zM) (zB (zC rfl) rfl rfl (zB (zC rfl) rfl rfl zE))))) (fun c3 h=>ze hS _ h (fun n=>bif Nat.beq n 2 then 3 else bif Nat.beq n 3 then 5 else n) rfl rfl rfl ⟨(zX (zD rfl) rfl zZ),⟨(zX (zD rfl) rfl zZ),⟨(zh _),⟨(zh _),trivial⟩⟩⟩⟩ rfl (zL (zD rfl) rfl (Nat.le_of_eq zZ) (zN (fun _ hj=>z4 (fun (t:Int)=>t) hj) zM) (zL (zD rfl) rfl (Nat.le_of_eq zZ) (zN (fun _ hj=>z4 (fun (t:Int)=>t) hj) zM) (zB (zC rfl) rfl rfl (zB (zC rfl) rfl rfl zE)))))) (fun c2 h=>zF h)) (fun c1 h=>zF h)) (fun c0 h=>zF h)
 · intro fS fT x hS hR s h
   cases s with
   | h0 x0 x1=>
    refine Holds.eq (t63_0 cond fS fT mp tp mq tq x0 x1) ?_
    unfold T63_0
    rw [q63] at h
    refine zA h (fun c0 h=>zA h (fun c1 h=>zA h (fun c2 h=>zA h (fun c3 h=>zA h (fun c4 h=>ze hS _ h (fun n=>bif Nat.beq n 2 then 3 else bif Nat.beq n 3 then 6 else n) rfl rfl rfl ⟨(zX (zD rfl) rfl rfl),⟨(zX (zD rfl) rfl rfl),⟨(zh _),⟨(zh _),trivial⟩⟩⟩⟩ rfl (zL (zD rfl) rfl (Nat.le_of_eq rfl) (zN (fun _ _=>rfl) zM) (zL (zD rfl) rfl (Nat.le_of_eq rfl) (zN (fun _ _=>rfl) zM) (zB (zC rfl) rfl rfl (zB (zC rfl) rfl rfl zE))))) (fun c4 h=> ?_)) (fun c3 h=>zA h (fun c4 h=>zA h (fun c5 h=>ze hS _ h (fun n=>bif Nat.beq n 2 then 6 else bif Nat.beq n 3 then 8 else n) rfl rfl rfl ⟨(zX (zD rfl) rfl rfl),⟨(zX (zD rfl) rfl rfl),⟨(zh _),⟨(zh _),trivial⟩⟩⟩⟩ rfl (zL (zD rfl) rfl (Nat.le_of_eq rfl) (zN (fun _ _=>rfl) zM) (zL (zD rfl) rfl (Nat.le_of_eq rfl) (zN (fun _ _=>rfl) zM) (zB (zC rfl) rfl rfl (zB (zC rfl) rfl rfl zE))))) (fun c5 h=> ?_)) (fun c4 h=> ?_))) (fun c2 h=> ?_)) (fun c1 h=>zA h (fun c2 h=> ?_) (fun c2 h=>zA h (fun c3 h=>zA h (fun c4 h=> ?_) (fun c4 h=> ?_)) (fun c3 h=> ?_)))) (fun c0 h=>zA h (fun c1 h=> ?_) (fun c1 h=>zA h (fun c2 h=>zA h (fun c3 h=> ?_) (fun c3 h=> ?_)) (fun c2 h=> ?_)))
    all_goals first
      |exact zF h
      |exact zV hR _ h (fun n=>bif Nat.beq n 3 then 2 else n) rfl rfl rfl (zX (zD rfl) rfl rfl) rfl (zL (zD rfl) rfl (Nat.le_of_eq rfl) (zN (fun _ _=>rfl) zM) (zB (zC rfl) rfl rfl (zB (zC rfl) rfl rfl zE)))
      |exact ze hS _ h (fun n=>n) rfl rfl rfl ⟨(zh _),⟨(zh _),⟨(zI rfl),⟨(zI rfl),trivial⟩⟩⟩⟩ rfl (zB (zC rfl) rfl rfl (zB (zC rfl) rfl rfl zE))
   |h1 x0 x1=>
    refine Holds.eq (t63_1 cond fS fT mp tp mq tq x0 x1) ?_
    unfold T63_1
    rw [q63] at h
    exact zA h (fun c0 h=>zA h (fun c1 h=>zF h) (fun c1 h=>ze hS _ h (fun n=>n) rfl rfl rfl ⟨(zh _),⟨(zh _),⟨(zI rfl),⟨(zI rfl),trivial⟩⟩⟩⟩ rfl (zB (zC rfl) rfl rfl (zB (zC rfl) rfl rfl zE)))) (fun c0 h=>zA h (fun c1 h=>zV hR _ h (fun n=>bif Nat.beq n 3 then 3 else n) rfl rfl rfl (zX (zD rfl) rfl rfl) rfl (zL (zD rfl) rfl (Nat.le_of_eq rfl) (zN (fun _ _=>rfl) zM) (zB (zC rfl) rfl rfl (zB (zC rfl) rfl rfl zE)))) (fun c1 h=>zF h))
end
noncomputable def k63:Con:=⟨126,[.one (.list [.int .i64]),.one (.list [.int .i64])],w60 (fun ap np mp tp aq nq mq tq=>decide ((ap+np≤mp∧aq+nq≤mq)∧(np≤800∧nq≤800)∧S.fW np (FS tp ap)=true∧S.fW nq (FS tq aq)=true)),w60 (fun ap np mp tp aq nq mq tq=>(V63) (S.f0 (S.fh (S.val np (FS tp ap)) (S.val nq (FS tq aq))))),w60 (fun ap np mp tp aq nq mq tq=>(N63) (S.f0 (S.fh (S.val np (FS tp ap)) (S.val nq (FS tq aq))))),fun _ _=> .dead⟩
theorem s63e (ap np mp:Nat) (tp:Nat→Int) (aq nq mq:Nat) (tq:Nat→Int): ∀ (k:Nat) (x y:Int),y.toNat<k→(0≤x∧x<9223372036854775808)→(0≤y∧y<9223372036854775808)→Comes (q63 ap np mp tp aq nq mq tq) (.h1 x y) (S.f0 (S.fh x y)):=by
 intro k
 induction k with
 |zero=>intro x y h; omega
 | succ k ih=>
  intro x y h hx hy
  apply Comes.of
  rw [q63]
  by_cases h0:y>0
  · have m0:=Int.emod_nonneg x (show y≠0 by omega)
    have m1:=Int.emod_lt_of_pos x h0
    have hm:=ih y (x % y) (by omega) hy (by omega)
    rw [vG,← Int.tmod_eq_emod_of_nonneg hx.1] at hm
    with_reducible refine zH (decide_eq_true h0) ?_
    with_reducible refine zb ?_ ?_
    · exact decide_eq_false (by omega)
    exact hm
  · obtain rfl:y=0:=by omega
    rw [wb hx.1]
    with_reducible refine zb ?_ ?_
    · exact decide_eq_false h0
    rw [fK hx]
    with_reducible refine zH ?_ ?_
    · apply decide_eq_true; omega
    exact zG.mpr rfl
theorem s63' (ap np mp:Nat) (tp:Nat→Int) (aq nq mq:Nat) (tq:Nat→Int): ∀ (k:Nat) (A B:Int),B.toNat<k→0≤B→B≤A→A<S.pw 900→Comes (q63 ap np mp tp aq nq mq tq) (.h0 (S.f0 A) (S.f0 B)) (S.f0 (S.fh A B)):=by
 intro k
 induction k with
 |zero=>intro A B h; omega
 | succ k ih=>
  intro A B h h0 h1 h2
  have lA:=zw (v:=A) (n:=900) h2
  have lB:=zw (v:=B) (n:=900) (by omega)
  have vA:=zq (v:=A) (by omega)
  have vB:=zq (v:=B) h0
  have oA:(S.fW (S.f0 A).length (fun j=>S.at' (S.f0 A) j))=true:=yE
  have oB:(S.fW (S.f0 B).length (fun j=>S.at' (S.f0 B) j))=true:=yE
  have lBA:(S.f0 B).length≤(S.f0 A).length:=by
   refine zw (Int.lt_of_le_of_lt h1 ?_)
   have:=z5 (zi oA) (Nat.le_refl _)
   rw [vA] at this
   exact this
  have fin: ¬ ((S.f0 A).length>3∧(S.f0 B).length>0)→zY (q63 ap np mp tp aq nq mq tq) (bif ((((S.f0 B).length:Nat):Int)==0) then (some (.inr (S.f0 A))) else (bif decide (0+(S.f0 A).length≤(S.f0 A).length∧(S.f0 A).length≤1000∧(S.fX (S.f0 A).length (fun j=>S.at' (S.f0 A) j))=true∧(0:Int)≤0∧(0:Int)≤1000) then (bif decide (0+(S.f0 B).length≤(S.f0 B).length∧(S.f0 B).length≤1000∧(S.fX (S.f0 B).length (fun j=>S.at' (S.f0 B) j))=true∧(0:Int)≤0∧(0:Int)≤1000) then (some (.inl (.h1 (S.fU (fun j=>S.at' (S.f0 A) j) 0 (min (S.f0 A).length 3)) (S.fU (fun j=>S.at' (S.f0 B) j) 0 (min (S.f0 B).length 3))))) else none) else none)) (S.f0 (S.fh A B)):=by
   intro hn
   by_cases hB:(S.f0 B).length=0
   · have e:B=0:=by have:=yq.mp hB; omega
     rw [e,wb (by omega)]
     with_reducible refine zH ?_ ?_
     · rw [yS (by omega)]; rfl
     exact zG.mpr rfl
   · have l3:(S.f0 A).length≤3:=by omega
     rw [Nat.min_eq_left l3,Nat.min_eq_left (Nat.le_trans lBA l3)]
     have p3:S.pw 3=1000000000000000000:=rfl
     have wA:=z5 (zi oA) l3
     rw [vA] at wA
     have hm:=s63e ap np mp tp aq nq mq tq (B.toNat+1) A B (by omega) ⟨by omega,by omega⟩ ⟨h0,by omega⟩
     have eA:S.fU (fun j=>S.at' (S.f0 A) j) 0 (S.f0 A).length=A:=vA
     have eB:S.fU (fun j=>S.at' (S.f0 B) j) 0 (S.f0 B).length=B:=vB
     rw [eA,eB]
     with_reducible refine zb ?_ ?_
     · rw [beq_eq_false_iff_ne]; omega
     with_reducible refine zH ?_ ?_
     · exact decide_eq_true ⟨by omega,by omega,zi oA,by omega,by omega⟩
     with_reducible refine zH ?_ ?_
     · exact decide_eq_true ⟨by omega,by omega,zi oB,by omega,by omega⟩
     exact hm
  apply Comes.of
  rw [q63]
  by_cases g3:(S.f0 A).length>3
  · with_reducible refine zH ?_ ?_
    · apply decide_eq_true; omega
    by_cases gB:(S.f0 B).length>0
    · with_reducible refine zH ?_ ?_
      · apply decide_eq_true; omega
      have Bp:0<B:=by
       refine Int.not_le.mp fun h=> ?_
       have:=yq.mpr h
       omega
      have hBA:S.val (S.f0 B).length (fun j=>S.at' (S.f0 B) j)≤S.val (S.f0 A).length (fun j=>S.at' (S.f0 A) j):=by rw [vA,vB]; exact h1
      obtain ⟨xy1,xy2,xy3⟩:=nH g3 lBA (zi oA) (zi oB) hBA
      rw [vA] at xy1
      rw [vB] at xy2
      with_reducible refine zH ?_ ?_
      · exact decide_eq_true ⟨⟨by omega,by omega⟩,⟨g3,lA,lBA⟩,zi oA,zi oB,hBA⟩
      clear fin
      obtain ⟨p,q,r,s,hs⟩: ∃ p q r s,c63_0_3 (S.f0 A) (S.f0 B)=(p,q,r,s):=⟨_,_,_,_,rfl⟩
      have lb:=gH xy3 hs
      have hs':=hs
      unfold c63_0_3 at hs'
      rw [hs]
      by_cases hq:q=0
      · have m1:=Int.emod_lt_of_pos A Bp
        have m0:=Int.emod_nonneg A (show B≠0 by omega)
        have hm:=ih B (A % B) (by omega) m0 (by omega) (by omega)
        rw [vG] at hm
        with_reducible refine zH ?_ ?_
        · rw [hq]; rfl
        with_reducible refine zH ?_ ?_
        · exact decide_eq_true ⟨⟨by omega,by omega⟩,⟨lA,lB⟩,oA,oB,gB⟩
        rw [vA,vB]
        exact hm
      · obtain ⟨⟨k1,k2,k3,k4⟩,k5⟩:=jf xH xy1 xy2 xy3 hs hq
        have hm:=ih (p*A+q*B) (r*A+s*B) (by omega) k1 k3 (by omega)
        have e5:S.fh (p*A+q*B) (r*A+s*B)=S.fh A B:=by unfold S.fh; rw [k5]
        rw [e5] at hm
        with_reducible refine zb ?_ ?_
        · rw [beq_eq_false_iff_ne]; exact hq
        with_reducible refine zH ?_ ?_
        · unfold c63_0_2; (try unfold c63_0_0); rw [hs',vA,vB]; refine decide_eq_true ?_; dsimp only; exact ⟨⟨by omega,by omega⟩,⟨lA,lBA⟩,⟨zi oA,zi oB⟩,lb.1,lb.2.1,by omega,by omega⟩
        with_reducible refine zH ?_ ?_
        · unfold c63_0_1; (try unfold c63_0_0); rw [hs',vA,vB]; refine decide_eq_true ?_; dsimp only; exact ⟨⟨by omega,by omega⟩,⟨lA,lBA⟩,⟨zi oA,zi oB⟩,lb.2.2.1,lb.2.2.2,by omega,by omega⟩
        rw [vA,vB]
        exact hm
    · with_reducible refine zb ?_ ?_
      · apply decide_eq_false; omega
      exact fin (by omega)
  · with_reducible refine zb ?_ ?_
    · apply decide_eq_false; omega
    exact fin (by omega)
theorem s63 (ap np mp:Nat) (tp:Nat→Int) (aq nq mq:Nat) (tq:Nat→Int) (hp:(ap+np≤mp∧aq+nq≤mq)∧(np≤800∧nq≤800)∧S.fW np (fun j=>tp (j+ap))=true∧S.fW nq (fun j=>tq (j+aq))=true):zY ((q63 ap np mp tp aq nq mq tq)) ((p63 ap np mp tp aq nq mq tq)) (S.f0 (S.fh (S.val np (fun j=>tp (j+ap))) (S.val nq (fun j=>tq (j+aq))))):=by
 obtain ⟨⟨hp1,hp2⟩,⟨hp3,hp4⟩,g1,g2⟩:=hp
 have v1:=yM (zi g1)
 have v2:=yM (zi g2)
 have w1:=z5 (zi g1) (show np≤900 by omega)
 have w2:=z5 (zi g2) (show nq≤900 by omega)
 have eP:S.fb np (fun j=>tp (j+ap))=S.f0 (S.val np (fun j=>tp (j+ap))):=by rw [← vJ (zi g1)]; exact iQ g1
 have eQ:S.fb nq (fun j=>tq (j+aq))=S.f0 (S.val nq (fun j=>tq (j+aq))):=by rw [← vJ (zi g2)]; exact iQ g2
 unfold p63
 with_reducible refine zH ?_ ?_
 · exact decide_eq_true ⟨hp1,by omega⟩
 with_reducible refine zH ?_ ?_
 · exact decide_eq_true ⟨hp2,by omega⟩
 with_reducible refine zH ?_ ?_
 · exact decide_eq_true ⟨by omega,by omega,by omega,by omega,g1,g2⟩
 by_cases h:(S.val np (fun j=>tp (j+ap)))<(S.val nq (fun j=>tq (j+aq)))
 · have hm:=s63' ap np mp tp aq nq mq tq ((S.val np (fun j=>tp (j+ap))).toNat+1) (S.val nq (fun j=>tq (j+aq))) (S.val np (fun j=>tp (j+ap))) (by omega) v1 (by omega) w2
   rw [n6,← eP,← eQ] at hm
   with_reducible refine zH ?_ ?_
   · refine decide_eq_true ?_
     unfold S.fv; rw [if_pos h]; decide
   exact hm
 · have hm:=s63' ap np mp tp aq nq mq tq ((S.val nq (fun j=>tq (j+aq))).toNat+1) (S.val np (fun j=>tp (j+ap))) (S.val nq (fun j=>tq (j+aq))) (by omega) v2 (by omega) w1
   rw [← eP,← eQ] at hm
   with_reducible refine zb ?_ ?_
   · refine decide_eq_false ?_
     unfold S.fv; rw [if_neg h]; split<;>decide
   exact hm
theorem k63_ok:k63.ok Tryz.prog:=by
 intro x hx
 obtain ⟨⟨ap,np,mp,tp,_⟩,⟨aq,nq,mq,tq,_⟩,_⟩:=x
 obtain ⟨h1,h2⟩:=a63 ap np mp tp aq nq mq tq (s63 ap np mp tp aq nq mq tq (zm hx rfl))
 exact ⟨⟨400,(by decide:2+1+1≤400),h1⟩,h2⟩
noncomputable def xG6 (fR:Bool→Prop→Prop→Prop):Ext:=y2 fR [k63,k18]
theorem gn:yT Tryz.prog (xG6 cond):=yH ⟨k63_ok,k18_ok,trivial⟩
noncomputable def xG7 (fR:Bool→Prop→Prop→Prop):Ext:=y2 fR [k57,k46,k18,k19]
theorem gI:yT Tryz.prog (xG7 cond):=yH ⟨k57_ok,k46_ok,k18_ok,k19_ok,trivial⟩
namespace S
noncomputable def fg (n1:Bool) (n:Nat) (t:Nat→Int) (n2:Bool) (m:Nat) (u:Nat→Int):Bool×Int×List Int:=if fV n1 n t=true∧fV n2 m u=true then (false,0,f0 (fh (val n t) (val m u))) else (false,1,[])
end S
section
variable (fR:TT) (fS:KS) (fT:KR) (n1:Bool) (ap np mp:Nat) (tp:NI) (n2:Bool) (aq nq mq:Nat) (tq:NI)
inductive St35 where
 |h0
 |h1 (x0:List Int)
 |h2 (x0:Nat) (x1:Nat) (x2:List Int) (x3:List Int)
abbrev Rt35:=Bool×Int×List Int
noncomputable def V35 (r:Rt35):PV:= .tup [.agg [.bool r.1,.own 3 1 r.2.2.length],.int .i64 r.2.1]
noncomputable def N35 (r:Rt35):List Blk:= [CI r.2.2]
noncomputable def I35:St35→Hd
  | .h0=>⟨hd Tryz.f61 0,[.ptr ⟨2,0,0,0⟩,
 .loose ⟨0,1,ap,0⟩ np,
 .loose ⟨1,1,aq,0⟩ nq],[[(2,(true,.cells [.tf false,.nils]))],[(0,(false,CB mp tp)),(1,(false,CB mq tq))]],3⟩
  | .h1 x0=>⟨hd Tryz.f61 0,[.ptr ⟨2,0,0,0⟩,
 .loose ⟨1,1,aq,0⟩ nq,
 .loose ⟨3,1,0,0⟩
 (List.length
 (S.f0 ((S.val np fun j=>tp (j+ap)) % S.val nq fun j=>tq (j+aq))))],[[(2,(true,.cells [.tf false,.nils])),(3,(true,CI x0))],[(0,(false,CB mp tp)),(1,(false,CB mq tq))]],4⟩
  | .h2 x0 x1 x2 x3=>⟨hd Tryz.f61 0,[.ptr ⟨2,0,0,0⟩,
 .loose ⟨3,1,0,0⟩ x0,
 .loose ⟨4,1,0,0⟩ x1],[[(2,(true,.cells [.tf false,.nils])),(3,(true,CI x2)),(4,(true,CI x3))],[(0,(false,CB mp tp)),(1,(false,CB mq tq))]],5⟩
noncomputable def q35 (n1:Bool) (ap np mp:Nat) (tp:NI) (n2:Bool) (aq nq mq:Nat) (tq:NI):St35→Option (St35⊕Rt35)| .h0=>bif (decide ((nq:Int)>0)) then (bif (decide ((ap+np≤mp∧aq+nq≤mq)∧(np≤900∧nq≤900)∧(S.fW np fun j=>tp (j+ap))=true∧(S.fW nq fun j=>tq (j+aq))=true∧0<nq)) then (some (.inl (.h1 (S.f0 ((S.val np fun j=>tp (j+ap)) % S.val nq fun j=>tq (j+aq)))))) else none) else (bif (decide (ap+np≤mp∧np≤1000000∧(S.fX np fun j=>tp (j+ap))=true)) then (some (.inr (S.fy false (S.val np fun j=>tp (j+ap)),(0:Int),S.f0 (S.val np fun j=>tp (j+ap))))) else none)| .h1 x0=>bif (decide ((↑((S.f0 ((S.val np fun j=>tp (j+ap)) % S.val nq fun j=>tq (j+aq))).length):Int)>0)) then (bif (decide ((aq+nq≤mq∧0+(S.f0 ((S.val np fun j=>tp (j+ap)) % S.val nq fun j=>tq (j+aq))).length≤x0.length)∧(nq≤900∧(S.f0 ((S.val np fun j=>tp (j+ap)) % S.val nq fun j=>tq (j+aq))).length≤900)∧(S.fW nq fun j=>tq (j+aq))=true∧(S.fW (S.f0 ((S.val np fun j=>tp (j+ap)) % S.val nq fun j=>tq (j+aq))).length fun j=>S.at' x0 j)=true∧0<(S.f0 ((S.val np fun j=>tp (j+ap)) % S.val nq fun j=>tq (j+aq))).length)) then (some (.inl (.h2 (S.f0 ((S.val np fun j=>tp (j+ap)) % S.val nq fun j=>tq (j+aq))).length (S.f0 ((S.val nq fun j=>tq (j+aq)) % S.val (S.f0 ((S.val np fun j=>tp (j+ap)) % S.val nq fun j=>tq (j+aq))).length fun j=>S.at' x0 j)).length x0 (S.f0 ((S.val nq fun j=>tq (j+aq)) % S.val (S.f0 ((S.val np fun j=>tp (j+ap)) % S.val nq fun j=>tq (j+aq))).length fun j=>S.at' x0 j))))) else none) else (bif (decide (aq+nq≤mq∧nq≤1000000∧(S.fX nq fun j=>tq (j+aq))=true)) then (some (.inr (S.fy false (S.val nq fun j=>tq (j+aq)),(0:Int),S.f0 (S.val nq fun j=>tq (j+aq))))) else none)| .h2 x0 x1 x2 x3=>bif (decide ((x1:Int)>0)) then (bif (decide ((0+x0≤x2.length∧0+x1≤x3.length)∧(x0≤900∧x1≤900)∧(S.fW x0 fun j=>S.at' x2 j)=true∧(S.fW x1 fun j=>S.at' x3 j)=true∧0<x1)) then (some (.inl (.h2 x1 (S.f0 ((S.val x0 fun j=>S.at' x2 j) % S.val x1 fun j=>S.at' x3 j)).length x3 (S.f0 ((S.val x0 fun j=>S.at' x2 j) % S.val x1 fun j=>S.at' x3 j))))) else none) else (bif (decide (0+x0≤x2.length∧x0≤1000000∧(S.fX x0 fun j=>S.at' x2 j)=true)) then (some (.inr (S.fy false (S.val x0 fun j=>S.at' x2 j),(0:Int),S.f0 (S.val x0 fun j=>S.at' x2 j)))) else none)
noncomputable def p35 (n1:Bool) (ap np mp:Nat) (tp:NI) (n2:Bool) (aq nq mq:Nat) (tq:NI):Option (St35⊕Rt35):=bif (decide (ap+np≤mp∧np≤1000000)) then (bif (S.fV n1 np fun j=>tp (j+ap)) then (bif (decide (aq+nq≤mq∧nq≤1000000)) then (bif (S.fV n2 nq fun j=>tq (j+aq)) then (some (.inl (.h0))) else (some (.inr (false,(1:Int),[])))) else none) else (some (.inr (false,(1:Int),[])))) else none
def Te35:Prop:=fR (decide (ap+np≤mp∧np≤1000000)) (fR (S.fV n1 np (FS tp ap)) (fR (decide (aq+nq≤mq∧nq≤1000000)) (fR (S.fV n2 nq (FS tq aq)) (fS (hd Tryz.f61 0) ([.ptr ⟨4,0,0,0⟩,.loose ⟨0,1,ap,0⟩ np,.loose ⟨1,1,aq,0⟩ nq]) ([[(1,false,CB mq tq),(0,false,CB mp tp),(4,true,.cells [.tf false,.nils])]]) 7) (fT (.tup [.agg [.tf false,.nils],.int .i64 1]) ([[(1,false,CB mq tq),(0,false,CB mp tp)]]) 7)) False) (fT (.tup [.agg [.tf false,.nils],.int .i64 1]) ([[(1,false,CB mq tq),(0,false,CB mp tp)]]) 6)) False
theorem te35:run fR Tryz.env true (xG7 fR) true 400 ⟨61,[.cd (zU Tryz.f61).body],z8 0 [.agg [.bool n1,.loose ⟨0,1,ap,0⟩ np],.agg [.bool n2,.loose ⟨1,1,aq,0⟩ nq]],[[],[(0,(false,CB mp tp)),(1,(false,CB mq tq))]],2⟩ (zr 2 [4,6,7] fS fT)=
 Te35 fR fS fT n1 ap np mp tp n2 aq nq mq tq:=by kernel_rfl
def T35_0:Prop:=fR (decide ((nq:Int)>0)) (fR (decide ((ap+np≤mp∧aq+nq≤mq)∧(np≤900∧nq≤900)∧(S.fW np (FS tp ap))=true∧(S.fW nq (FS tq aq))=true∧0<nq)) (fS (hd Tryz.f61 0) ([.ptr ⟨2,0,0,0⟩,.loose ⟨1,1,aq,0⟩ nq,.loose ⟨5,1,0,0⟩ (S.f0 ((S.val np (FS tp ap)) % S.val nq (FS tq aq))).length]) ([[(1,false,CB mq tq),(0,false,CB mp tp),(5,true,CI (S.f0 ((S.val np (FS tp ap)) % S.val nq (FS tq aq)))),(2,true,.cells [.tf false,.nils])]]) 6) False) (fR (decide (ap+np≤mp∧np≤1000000∧(S.fX np (FS tp ap))=true)) (fT (.tup [.agg [.bool (S.fy false (S.val np (FS tp ap))),.own 4 1 (S.f0 (S.val np (FS tp ap))).length],.int .i64 0]) ([[(1,false,CB mq tq),(0,false,CB mp tp),(4,true,CI (S.f0 (S.val np (FS tp ap))))]]) 5) False)
theorem t35_0:run fR Tryz.env true (xG7 fR) true 400 ⟨61,hd Tryz.f61 0,yd [4,6,7] [.ptr ⟨2,0,0,0⟩,
 .loose ⟨0,1,ap,0⟩ np,
 .loose ⟨1,1,aq,0⟩ nq],[[(2,(true,.cells [.tf false,.nils]))],[(0,(false,CB mp tp)),(1,(false,CB mq tq))]],3⟩ (zr 2 [4,6,7] fS fT)=
  T35_0 fR fS fT ap np mp tp aq nq mq tq:=by kernel_rfl
noncomputable abbrev u35_1_0:=S.f0 ((S.val np fun j=>tp (j+ap)) % S.val nq fun j=>tq (j+aq))
def T35_1 (x0:List Int):Prop:=fR (decide ((↑((u35_1_0 ap np tp aq nq tq).length):Int)>0)) (fR (decide ((aq+nq≤mq∧0+(u35_1_0 ap np tp aq nq tq).length≤x0.length)∧(nq≤900∧(u35_1_0 ap np tp aq nq tq).length≤900)∧(S.fW nq (FS tq aq))=true∧(S.fW (u35_1_0 ap np tp aq nq tq).length fun j=>S.at' x0 j)=true∧0<(u35_1_0 ap np tp aq nq tq).length)) (fS (hd Tryz.f61 0) ([.ptr ⟨2,0,0,0⟩,.loose ⟨3,1,0,0⟩ (u35_1_0 ap np tp aq nq tq).length,.loose ⟨6,1,0,0⟩ (S.f0 ((S.val nq (FS tq aq)) % S.val (u35_1_0 ap np tp aq nq tq).length fun j=>S.at' x0 j)).length]) ([[(1,false,CB mq tq),(0,false,CB mp tp),(6,true,CI (S.f0 ((S.val nq (FS tq aq)) % S.val (u35_1_0 ap np tp aq nq tq).length fun j=>S.at' x0 j))),(3,true,CI x0),(2,true,.cells [.tf false,.nils])]]) 7) False) (fR (decide (aq+nq≤mq∧nq≤1000000∧(S.fX nq (FS tq aq))=true)) (fT (.tup [.agg [.bool (S.fy false (S.val nq (FS tq aq))),.own 5 1 (S.f0 (S.val nq (FS tq aq))).length],.int .i64 0]) ([[(1,false,CB mq tq),(0,false,CB mp tp),(5,true,CI (S.f0 (S.val nq (FS tq aq))))]]) 6) False)
theorem t35_1 (x0:List Int):run fR Tryz.env true (xG7 fR) true 400 ⟨61,hd Tryz.f61 0,yd [4,6,7] [.ptr ⟨2,0,0,0⟩,
 .loose ⟨1,1,aq,0⟩ nq,
 .loose ⟨3,1,0,0⟩
 (List.length
 (S.f0 ((S.val np fun j=>tp (j+ap)) % S.val nq fun j=>tq (j+aq))))],[[(2,(true,.cells [.tf false,.nils])),(3,(true,CI x0))],[(0,(false,CB mp tp)),(1,(false,CB mq tq))]],4⟩ (zr 2 [4,6,7] fS fT)=
  T35_1 fR fS fT ap np mp tp aq nq mq tq x0:=by kernel_rfl
def T35_2 (x0 x1:Nat) (x2 x3:List Int):Prop:=fR (decide ((x1:Int)>0)) (fR (decide ((0+x0≤x2.length∧0+x1≤x3.length)∧(x0≤900∧x1≤900)∧(S.fW x0 fun j=>S.at' x2 j)=true∧(S.fW x1 fun j=>S.at' x3 j)=true∧0<x1)) (fS (hd Tryz.f61 0) ([.ptr ⟨2,0,0,0⟩,.loose ⟨4,1,0,0⟩ x1,.loose ⟨7,1,0,0⟩ (S.f0 ((S.val x0 fun j=>S.at' x2 j) % S.val x1 fun j=>S.at' x3 j)).length]) ([[(1,false,CB mq tq),(0,false,CB mp tp),(7,true,CI (S.f0 ((S.val x0 fun j=>S.at' x2 j) % S.val x1 fun j=>S.at' x3 j))),(4,true,CI x3),(2,true,.cells [.tf false,.nils])]]) 8) False) (fR (decide (0+x0≤x2.length∧x0≤1000000∧(S.fX x0 fun j=>S.at' x2 j)=true)) (fT (.tup [.agg [.bool (S.fy false (S.val x0 fun j=>S.at' x2 j)),.own 6 1 (S.f0 (S.val x0 fun j=>S.at' x2 j)).length],.int .i64 0]) ([[(1,false,CB mq tq),(0,false,CB mp tp),(6,true,CI (S.f0 (S.val x0 fun j=>S.at' x2 j)))]]) 7) False)
theorem t35_2 (x0 x1:Nat) (x2 x3:List Int):run fR Tryz.env true (xG7 fR) true 400 ⟨61,hd Tryz.f61 0,yd [4,6,7] [.ptr ⟨2,0,0,0⟩,
 .loose ⟨3,1,0,0⟩ x0,
 .loose ⟨4,1,0,0⟩ x1],[[(2,(true,.cells [.tf false,.nils])),(3,(true,CI x2)),(4,(true,CI x3))],[(0,(false,CB mp tp)),(1,(false,CB mq tq))]],5⟩ (zr 2 [4,6,7] fS fT)=
  T35_2 fR fS fT mp tp mq tq x0 x1 x2 x3:=by kernel_rfl
noncomputable abbrev J35:Rt35→zS:=fun r=> [yC (2+1) ((N35) r)++ [(0,(false,CB mp tp)),(1,(false,CB mq tq))]]
attribute [local irreducible] Int.subNatNat in
theorem a35 {r:Rt35} (h:zY ((q35 n1 ap np mp tp n2 aq nq mq tq)) ((p35 n1 ap np mp tp n2 aq nq mq tq)) r):zn Tryz.prog 61 [.agg [.bool n1,.loose ⟨0,1,ap,0⟩ np],.agg [.bool n2,.loose ⟨1,1,aq,0⟩ nq]] [[(0,(false,CB mp tp)),(1,(false,CB mq tq))]] 2 ((V35) r) ((J35 mp tp mq tq) r) 400∧HB Tryz.prog 61:=by
 refine zf Tryz.envOk Tryz.mixed gI ((I35 ap np mp tp aq nq mq tq)) ((V35)) (J35 mp tp mq tq) (fn:=zU Tryz.f61) (ts:= [4,6,7]) (n:=400) rfl (by decide) (by simp) (zW rfl) ?_ ?_ ?_ h
 · intro s; cases s<;>exact ⟨yo _ _,by simp [I35],zW rfl,Nat.le_of_ble_eq_true rfl⟩
 · intro fS fT x hS hR h
   refine Holds.eq (te35 cond fS fT n1 ap np mp tp n2 aq nq mq tq) ?_
   unfold Te35
   unfold p35 at h
   exact zA h (fun c0 h=>zA h (fun c1 h=>zA h (fun c2 h=>zA h (fun c3 h=>ze hS _ h (fun n=>bif Nat.beq n 2 then 4 else n) rfl rfl rfl ⟨(xJ (zD rfl) rfl rfl),⟨(zQ (zC rfl) rfl rfl rfl),⟨(zQ (zC rfl) rfl rfl rfl),trivial⟩⟩⟩ rfl (xX (zD rfl) rfl (by simp) (yb ⟨(yw rfl),xy,trivial⟩) (zB (zC rfl) rfl rfl (zB (zC rfl) rfl rfl zE)))) (fun c3 h=>zV hR _ h (fun n=>bif Nat.beq n 3 then 399 else n) rfl rfl rfl (zk ⟨(zc ⟨(zR rfl),(zO rfl),trivial⟩),(zI rfl),trivial⟩) rfl (zT (zD rfl) (za rfl) (zB (zC rfl) rfl rfl (zB (zC rfl) rfl rfl zE))))) (fun c2 h=>zF h)) (fun c1 h=>zV hR _ h (fun n=>bif Nat.beq n 3 then 399 else n) rfl rfl rfl (zk ⟨(zc ⟨(zR rfl),(zO rfl),trivial⟩),(zI rfl),trivial⟩) rfl (zT (zD rfl) (za rfl) (zB (zC rfl) rfl rfl (zB (zC rfl) rfl rfl zE))))) (fun c0 h=>zF h)
 · intro fS fT x hS hR s h
   cases s with
   |h0=>
    refine Holds.eq (t35_0 cond fS fT ap np mp tp aq nq mq tq) ?_
    unfold T35_0
    rw [q35] at h
    exact zA h (fun c0 h=>zA h (fun c1 h=>ze hS _ h (fun n=>bif Nat.beq n 2 then 2 else bif Nat.beq n 3 then 5 else n) rfl rfl rfl ⟨(xJ (zD rfl) rfl rfl),⟨(zQ (zC rfl) rfl rfl rfl),⟨(zQ (zD rfl) rfl rfl rfl),trivial⟩⟩⟩ rfl (xX (zD rfl) rfl (by simp) (yb ⟨(yw rfl),xy,trivial⟩) (zL (zD rfl) rfl (Nat.le_of_eq rfl) (zN (fun _ _=>rfl) zM) (zB (zC rfl) rfl rfl (zB (zC rfl) rfl rfl zE))))) (fun c1 h=>zF h)) (fun c0 h=>zA h (fun c1 h=>zV hR _ h (fun n=>bif Nat.beq n 3 then 4 else n) rfl rfl rfl (zk ⟨(zc ⟨(zj rfl),(zX (zD rfl) rfl rfl),trivial⟩),(zI rfl),trivial⟩) rfl (zL (zD rfl) rfl (Nat.le_of_eq rfl) (zN (fun _ _=>rfl) zM) (zB (zC rfl) rfl rfl (zB (zC rfl) rfl rfl zE)))) (fun c1 h=>zF h))
   |h1 x0=>
    refine Holds.eq (t35_1 cond fS fT ap np mp tp aq nq mq tq x0) ?_
    unfold T35_1
    rw [q35] at h
    exact zA h (fun c0 h=>zA h (fun c1 h=>ze hS _ h (fun n=>bif Nat.beq n 2 then 2 else bif Nat.beq n 3 then 3 else bif Nat.beq n 4 then 6 else n) rfl rfl rfl ⟨(xJ (zD rfl) rfl rfl),⟨(zQ (zD rfl) rfl rfl rfl),⟨(zQ (zD rfl) rfl rfl rfl),trivial⟩⟩⟩ rfl (xX (zD rfl) rfl (by simp) (yb ⟨(yw rfl),xy,trivial⟩) (zL (zD rfl) rfl (Nat.le_of_eq rfl) (zN (fun _ _=>rfl) zM) (zL (zD rfl) rfl (Nat.le_of_eq rfl) (zN (fun _ _=>rfl) zM) (zB (zC rfl) rfl rfl (zB (zC rfl) rfl rfl zE)))))) (fun c1 h=>zF h)) (fun c0 h=>zA h (fun c1 h=>zV hR _ h (fun n=>bif Nat.beq n 3 then 5 else n) rfl rfl rfl (zk ⟨(zc ⟨(zj rfl),(zX (zD rfl) rfl rfl),trivial⟩),(zI rfl),trivial⟩) rfl (zL (zD rfl) rfl (Nat.le_of_eq rfl) (zN (fun _ _=>rfl) zM) (zB (zC rfl) rfl rfl (zB (zC rfl) rfl rfl zE)))) (fun c1 h=>zF h))
   |h2 x0 x1 x2 x3=>
    refine Holds.eq (t35_2 cond fS fT mp tp mq tq x0 x1 x2 x3) ?_
    unfold T35_2
    rw [q35] at h
    exact zA h (fun c0 h=>zA h (fun c1 h=>ze hS _ h (fun n=>bif Nat.beq n 2 then 2 else bif Nat.beq n 3 then 4 else bif Nat.beq n 4 then 7 else n) rfl rfl rfl ⟨(xJ (zD rfl) rfl rfl),⟨(zQ (zD rfl) rfl rfl rfl),⟨(zQ (zD rfl) rfl rfl rfl),trivial⟩⟩⟩ rfl (xX (zD rfl) rfl (by simp) (yb ⟨(yw rfl),xy,trivial⟩) (zL (zD rfl) rfl (Nat.le_of_eq rfl) (zN (fun _ _=>rfl) zM) (zL (zD rfl) rfl (Nat.le_of_eq rfl) (zN (fun _ _=>rfl) zM) (zB (zC rfl) rfl rfl (zB (zC rfl) rfl rfl zE)))))) (fun c1 h=>zF h)) (fun c0 h=>zA h (fun c1 h=>zV hR _ h (fun n=>bif Nat.beq n 3 then 6 else n) rfl rfl rfl (zk ⟨(zc ⟨(zj rfl),(zX (zD rfl) rfl rfl),trivial⟩),(zI rfl),trivial⟩) rfl (zL (zD rfl) rfl (Nat.le_of_eq rfl) (zN (fun _ _=>rfl) zM) (zB (zC rfl) rfl rfl (zB (zC rfl) rfl rfl zE)))) (fun c1 h=>zF h))
end
end Go.Ev
