/-
  The tQ that the statement needs, 3 of 4.
-/
import Derived.Test.YtblfgknonjogfaaGreatDoorY5092
namespace Go.Ev
open Go.Proofs
open Go.RowKit
set_option linter.unusedVariables false
set_option linter.unusedSimpArgs false
set_option maxRecDepth 100000
noncomputable def k57:Con:=⟨101,[.one (.list [.int .i64]),.one (.list [.int .i64])],w60 (fun ap np mp tp aq nq mq tq=>decide ((ap+np≤mp∧aq+nq≤mq)∧(np≤900∧nq≤900)∧S.fF np (FS tp ap)=true∧S.fF nq (FS tq aq)=true∧0<nq)),w60 (fun ap np mp tp aq nq mq tq=>(V57) (0,(S.fX ((S.val np (FS tp ap)) % (S.val nq (FS tq aq)))).length,S.fX ((S.val np (FS tp ap)) / (S.val nq (FS tq aq))),S.fX ((S.val np (FS tp ap)) % (S.val nq (FS tq aq))))),w60 (fun ap np mp tp aq nq mq tq=>(N57) (0,(S.fX ((S.val np (FS tp ap)) % (S.val nq (FS tq aq)))).length,S.fX ((S.val np (FS tp ap)) / (S.val nq (FS tq aq))),S.fX ((S.val np (FS tp ap)) % (S.val nq (FS tq aq))))),fun _ _=> .dead⟩
theorem s57i (ap np mp:Nat) (tp:Nat→Int) (aq nq mq:Nat) (tq:Nat→Int) (hp:(ap+np≤mp∧aq+nq≤mq)∧(np≤900∧nq≤900)∧S.fF np (fun j=>tp (j+ap))=true∧S.fF nq (fun j=>tq (j+aq))=true∧0<nq) (X:Int) (hX:0≤X∧X<1000000*(S.val nq (fun j=>tq (j+aq)))) (i:Int) (Q:List Int) (res:Rt57) (hC:Comes (q57 ap np mp tp aq nq mq tq) (.h1 (S.fX X).length i (X / (S.val nq (fun j=>tq (j+aq)))) (X / (S.val nq (fun j=>tq (j+aq)))) Q (S.fX X)) res): ∀ (n:Nat) (a c:Int),(c-a).toNat≤n→0≤a→a≤X / (S.val nq (fun j=>tq (j+aq)))→X / (S.val nq (fun j=>tq (j+aq)))≤c→c≤999999→Comes (q57 ap np mp tp aq nq mq tq) (.h1 (S.fX X).length i a c Q (S.fX X)) res:=by
 obtain ⟨⟨hp1,hp2⟩,⟨hp3,hp4⟩,g1,g2,hq0⟩:=hp
 have vp:=ya g2 hq0
 have vl:=yF (zj g2) (Nat.le_refl nq)
 intro n
 induction n with
 |zero=>
  intro a c hn h0 ha hc h9
  obtain rfl:a=X / (S.val nq (fun j=>tq (j+aq))):=by omega
  obtain rfl:c=X / (S.val nq (fun j=>tq (j+aq))):=by omega
  exact hC
 | succ n ih=>
  intro a c hn h0 ha hc h9
  by_cases hac:a<c
  · have n1:Int.tdiv (a+c+1) 2=(a+c+1) / 2:=Int.tdiv_eq_ediv_of_nonneg (by omega)
    obtain ⟨m,hm⟩: ∃ m,m=(a+c+1) / 2:=⟨_,rfl⟩
    have i1:=ih m c (by omega) (by omega)
    have i2:=ih a (m-1) (by omega) (by omega)
    have hlit:(S.val 1 fun j=>S.lit [m] 0 j)=m:=uL rfl
    have hkD:(S.fG 1 fun j=>S.lit [m] 0 j)=true:=yO.mpr fun j hj=>by rw [oT hj]; omega
    have c1:(aq+nq≤mq∧1≤1)∧(nq≤1000∧1≤1000)∧(S.fG nq fun j=>tq (j+aq))=true∧(S.fG 1 fun j=>S.lit [m] 0 j)=true:=⟨⟨hp2,Nat.le_refl _⟩,⟨by omega,by decide⟩,zj g2,hkD⟩
    have w0:0≤(S.val nq (fun j=>tq (j+aq)))*m:=Int.mul_nonneg (by omega) (by omega)
    have hv:=z4 w0
    have hv2:=z4 hX.1
    have l1:=z7 (v:=(S.val nq (fun j=>tq (j+aq)))*m) (n:=nq+1) (by
     have h1:=(qV (a:=nq) (b:=1) ⟨by omega,vl⟩ (show 0≤m∧m<S.pw 1 from ⟨by omega,by show m<1000000; omega⟩)).2
     exact h1)
    have l2:=z7 (v:=X) (n:=nq+1) (by have:S.pw (nq+1)=1000000*S.pw nq:=rfl; omega)
    have c2:0+(S.fX ((S.val nq (fun j=>tq (j+aq)))*m)).length≤(S.fX ((S.val nq (fun j=>tq (j+aq)))*m)).length∧(S.fX ((S.val nq (fun j=>tq (j+aq)))*m)).length≤1000000∧0+(S.fX X).length≤(S.fX X).length∧(S.fX X).length≤1000000∧(S.fF (S.fX ((S.val nq (fun j=>tq (j+aq)))*m)).length fun j=>S.at' (S.fX ((S.val nq (fun j=>tq (j+aq)))*m)) j)=true∧(S.fF (S.fX X).length fun j=>S.at' (S.fX X) j)=true:=⟨by omega,by omega,by omega,by omega,yH,yH⟩
    have hle:S.fV ((S.val nq (fun j=>tq (j+aq)))*m) X≤0↔m≤X / (S.val nq (fun j=>tq (j+aq))):=by
     rw [Int.le_ediv_iff_mul_le vp,Int.mul_comm m]
     unfold S.fV
     (repeat' split)<;>omega
    apply Comes.of
    show zX _ _ _
    rw [q57]
    simp only [c57_1_0,c57_1_1,n1,← hm,hlit,decide_eq_true c1,cond_true,decide_eq_true c2,hv,hv2]
    by_cases hd:m≤X / (S.val nq (fun j=>tq (j+aq)))
    · have i1:=i1 hd hc h9
      simp only [decide_eq_true (hle.mpr hd),cond_true]
      repeat' (first|with_reducible refine zN (fun h=> ?_) (fun h=> ?_)<;>(try simp only [SH] at h)|exact zI.mpr (by omega))
      all_goals first|(exfalso; omega)|exact i1
    · have i2:=i2 ha (by omega) (by omega)
      simp only [decide_eq_false (fun h=>hd (hle.mp h)),cond_false]
      repeat' (first|with_reducible refine zN (fun h=> ?_) (fun h=> ?_)<;>(try simp only [SH] at h)|exact zI.mpr (by omega))
      all_goals first|(exfalso; omega)|exact i2
  · obtain rfl:a=X / (S.val nq (fun j=>tq (j+aq))):=by omega
    obtain rfl:c=X / (S.val nq (fun j=>tq (j+aq))):=by omega
    exact hC
theorem s57' (ap np mp:Nat) (tp:Nat→Int) (aq nq mq:Nat) (tq:Nat→Int) (hp:(ap+np≤mp∧aq+nq≤mq)∧(np≤900∧nq≤900)∧S.fF np (fun j=>tp (j+ap))=true∧S.fF nq (fun j=>tq (j+aq))=true∧0<nq): ∀ (k:Nat) (R:Int) (Q:List Int),k≤np→R=S.fD (fun j=>tp (j+ap)) k (np-k) % (S.val nq (fun j=>tq (j+aq)))→Q.length=np→(∀ j,j<np→0≤S.at' Q j∧S.at' Q j<1000000)→(∀ j,j<k→S.at' Q j=0)→S.fD (S.at' Q) k (np-k)=S.fD (fun j=>tp (j+ap)) k (np-k) / (S.val nq (fun j=>tq (j+aq)))→Comes (q57 ap np mp tp aq nq mq tq) (.h0 0 (S.fX R).length ((k:Int)-1) Q (S.fX R)) (0,(S.fX ((S.val np (fun j=>tp (j+ap))) % (S.val nq (fun j=>tq (j+aq))))).length,S.fX ((S.val np (fun j=>tp (j+ap))) / (S.val nq (fun j=>tq (j+aq)))),S.fX ((S.val np (fun j=>tp (j+ap))) % (S.val nq (fun j=>tq (j+aq))))):=by
 have hp':=hp
 obtain ⟨⟨hp1,hp2⟩,⟨hp3,hp4⟩,g1,g2,hq0⟩:=hp
 have vp:=ya g2 hq0
 have vl:=yF (zj g2) (Nat.le_refl nq)
 have dP:=(zl.mp g1).1
 have dQ:=(zl.mp g2).1
 intro k
 induction k with
 | zero=>
  intro R Q hk hR hQ hd hz hv
  rw [Nat.sub_zero] at hR hv
  have e:S.trim (S.fJ Q.length fun j=>S.at' Q j)=S.fX ((S.val np (fun j=>tp (j+ap))) / (S.val nq (fun j=>tq (j+aq)))):=by
   rw [jD,uj hQ hd]
   exact congrArg S.fX hv
  have hR:R=(S.val np (fun j=>tp (j+ap))) % (S.val nq (fun j=>tq (j+aq))):=hR
  rw [← hR]
  apply Comes.of
  show zX _ _ _
  rw [q57]
  rw [hQ] at e
  simp only [hQ,e]
  repeat' (first|with_reducible refine zN (fun h=> ?_) (fun h=> ?_)<;>(try simp only [SH] at h)|exact zI.mpr (by omega))
  all_goals first|(exfalso; omega)|exact zG.mpr rfl
 | succ k ih=>
  intro R Q hk hR hQ hd hz hv
  have hx:=dP k (by omega)
  have st:=qz (V:=(S.val nq (fun j=>tq (j+aq)))) (X:=S.fD (fun j=>tp (j+ap)) (k+1) (np-(k+1))) (x:=tp (k+ap)) vp hx (qo dP)
  have s1:=uI (t:=(fun j=>tp (j+ap))) (n:=np) (i:=k) (by omega)
  (try dsimp only at s1 hx)
  rw [← s1,← hR] at st
  have r0:0≤R:=by rw [hR]; exact Int.emod_nonneg _ (by omega)
  have r1:R<(S.val nq (fun j=>tq (j+aq))):=by rw [hR]; exact Int.emod_lt_of_pos _ vp
  obtain ⟨X,hX⟩: ∃ X,X=tp (k+ap)+1000000*R:=⟨_,rfl⟩
  rw [← hX] at st
  obtain ⟨st1,st2,st3,st4⟩:=st
  have x0:0≤X:=by omega
  have x1:X<1000000*(S.val nq (fun j=>tq (j+aq))):=by omega
  have eT:S.trim (S.fJ (1+(S.fX R).length) fun j=>bif Nat.blt j 1 then tp (k+ap) else S.at' (S.fX R) (j-1+0))=S.fX X:=by
   rw [nr hx fun y hy=>qH y hy,ud r0,hX]
  have l2:=z7 (v:=X) (n:=nq+1) (by have:S.pw (nq+1)=1000000*S.pw nq:=rfl; omega)
  have lR:=z7 (v:=R) (n:=nq) (by omega)
  have e1:(((k+1:Nat):Int)-1)=k:=by omega
  rw [e1]
  have sv:S.fD (S.at' Q) (k+1) (np-(k+1))=S.fD (fun j=>tp (j+ap)) (k+1) (np-(k+1)) / (S.val nq (fun j=>tq (j+aq))):=hv
  by_cases hl:(S.fX X).length<nq
  · have xs:X<(S.val nq (fun j=>tq (j+aq))):=by
     refine Int.not_le.mp fun h=> ?_
     have:=kF (v:=X) (k:=nq-1) (Int.le_trans ?_ h)
     · omega
     · have h:=yS (t:=(fun j=>tq (j+aq))) (i:=0) (k:=nq-1)
       rw [show nq-1+1=nq by omega,Nat.zero_add] at h
       have h':(S.val nq (fun j=>tq (j+aq)))=S.fD (fun j=>tq (j+aq)) 0 (nq-1)+S.pw (nq-1)*tq (nq-1+aq):=h
       have n0:=yI (t:=(fun j=>tq (j+aq))) (k:=nq-1) (i:=0) fun j _ h=>(dQ j (by omega)).1
       have l2:1≤tq (nq-1+aq):=by
        have:=(zl.mp g2).2
        have h0:=dQ (nq-1) (by omega)
        (try dsimp only at h0)
        rcases this with h|h
        · omega
        · (try dsimp only at h); omega
       have:S.pw (nq-1)*1≤S.pw (nq-1)*tq (nq-1+aq):=Int.mul_le_mul_of_nonneg_left l2 (by have:=xJ (k:=nq-1); omega)
       omega
    have d0:X / (S.val nq (fun j=>tq (j+aq)))=0:=Int.ediv_eq_zero_of_lt x0 xs
    have d1:X % (S.val nq (fun j=>tq (j+aq)))=X:=Int.emod_eq_of_lt x0 xs
    have ih:=ih X Q (by omega) (by rw [st2,d1]) hQ hd (fun j hj=>hz j (by omega)) (by
     rw [st1,d0,show np-k=(np-(k+1))+1 by omega]
     simp only [S.fD]
     rw [hz k (by omega),← sv])
    apply Comes.of
    show zX _ _ _
    rw [q57]
    simp only [c57_0_0,c57_0_1,c57_0_2,c57_0_3,c57_0_4,c57_0_5,Int.toNat_natCast,eT]
    generalize (S.fX X)=G at*
    repeat' (first|with_reducible refine zN (fun h=> ?_) (fun h=> ?_)<;>(try simp only [SH] at h)|exact zI.mpr (by omega))
    all_goals first|(exfalso; omega)|exact ih
  · obtain ⟨d,hdd⟩: ∃ d,d=X / (S.val nq (fun j=>tq (j+aq))):=⟨_,rfl⟩
    have hqd:(S.val nq (fun j=>tq (j+aq)))*d≤X∧X % (S.val nq (fun j=>tq (j+aq)))=X-(S.val nq (fun j=>tq (j+aq)))*d:=by
     have h3:=Int.emod_add_mul_ediv X (S.val nq (fun j=>tq (j+aq)))
     have h4:=Int.emod_nonneg X (show (S.val nq (fun j=>tq (j+aq)))≠0 by omega)
     rw [← hdd] at h3
     omega
    rw [← hdd] at st1 st3 st4
    have ih:=ih (X % (S.val nq (fun j=>tq (j+aq)))) (S.fJ np fun j=>bif Nat.beq j k then d else S.at' Q j) (by omega) st2.symm zW (wn hQ hd ⟨st3,st4⟩) (fun j hj=>by rw [zw (by omega),if_neg (by omega)]; exact hz j (by omega)) (by
     rw [st1,show np-k=(np-(k+1))+1 by omega]
     simp only [S.fD]
     rw [zw (by omega),if_pos rfl,← sv,yA (u:=S.at' Q) fun j h1 h2=>by rw [zw (by omega),if_neg (by omega)]])
    have hlit:(S.val 1 fun j=>S.lit [d] 0 j)=d:=uL rfl
    have hkD:(S.fG 1 fun j=>S.lit [d] 0 j)=true:=yO.mpr fun j hj=>by rw [oT hj]; omega
    have c1:(aq+nq≤mq∧1≤1)∧(nq≤1000∧1≤1000)∧(S.fG nq fun j=>tq (j+aq))=true∧(S.fG 1 fun j=>S.lit [d] 0 j)=true:=⟨⟨hp2,Nat.le_refl _⟩,⟨by omega,by decide⟩,zj g2,hkD⟩
    have w0:0≤(S.val nq (fun j=>tq (j+aq)))*d:=Int.mul_nonneg (by omega) st3
    have hv1:=z4 w0
    have hv2:=z4 x0
    have l1:=z7 (v:=(S.val nq (fun j=>tq (j+aq)))*d) (n:=nq+1) (by have:S.pw (nq+1)=1000000*S.pw nq:=rfl; omega)
    have c2:(0+(S.fX X).length≤(S.fX X).length∧0+(S.fX ((S.val nq (fun j=>tq (j+aq)))*d)).length≤(S.fX ((S.val nq (fun j=>tq (j+aq)))*d)).length)∧((S.fX X).length≤1000∧(S.fX ((S.val nq (fun j=>tq (j+aq)))*d)).length≤1000)∧(S.fF (S.fX X).length fun j=>S.at' (S.fX X) j)=true∧(S.fF (S.fX ((S.val nq (fun j=>tq (j+aq)))*d)).length fun j=>S.at' (S.fX ((S.val nq (fun j=>tq (j+aq)))*d)) j)=true∧(S.val nq (fun j=>tq (j+aq)))*d≤X:=⟨⟨by omega,by omega⟩,⟨by omega,by omega⟩,yH,yH,hqd.1⟩
    have hE:Comes (q57 ap np mp tp aq nq mq tq) (.h1 (S.fX X).length (k:Int) d d Q (S.fX X)) (0,(S.fX ((S.val np (fun j=>tp (j+ap))) % (S.val nq (fun j=>tq (j+aq))))).length,S.fX ((S.val np (fun j=>tp (j+ap))) / (S.val nq (fun j=>tq (j+aq)))),S.fX ((S.val np (fun j=>tp (j+ap))) % (S.val nq (fun j=>tq (j+aq))))):=by
     rw [hqd.2] at ih
     apply Comes.of
     show zX _ _ _
     rw [q57]
     simp only [c57_1_0,c57_1_1,hlit,decide_eq_true c1,cond_true,hv1,hv2,decide_eq_true c2,Int.toNat_natCast,hQ]
     generalize S.fX (X-_)=G at*
     repeat' (first|with_reducible refine zN (fun h=> ?_) (fun h=> ?_)<;>(try simp only [SH] at h)|exact zI.mpr (by omega))
     all_goals first|(exfalso; omega)|exact ih
    have hI:=fun a c h0 h1 h2 h3=>s57i ap np mp tp aq nq mq tq hp' X ⟨x0,x1⟩ (k:Int) Q (0,(S.fX ((S.val np (fun j=>tp (j+ap))) % (S.val nq (fun j=>tq (j+aq))))).length,S.fX ((S.val np (fun j=>tp (j+ap))) / (S.val nq (fun j=>tq (j+aq)))),S.fX ((S.val np (fun j=>tp (j+ap))) % (S.val nq (fun j=>tq (j+aq))))) (by rw [← hdd]; exact hE) (c-a).toNat a c (Nat.le_refl _) h0 h1 h2 h3
    rw [← hdd] at hI
    have gd: ∀ j,0≤S.at' (S.fX X) j∧S.at' (S.fX X) j<1000000:=fun j=>qi
    have xv:=uT (k:=nq+1) x0 (by have:S.pw (nq+1)=1000000*S.pw nq:=rfl; omega)
    have topp:1≤tq (nq-1+aq):=by
     have:=(zl.mp g2).2
     have h0:=dQ (nq-1) (by omega)
     (try dsimp only at h0)
     rcases this with h|h
     · omega
     · (try dsimp only at h); omega
    have e2:((nq:Int)-1).toNat=nq-1:=by omega
    have e3:((nq:Int)-2).toNat=nq-2:=by omega
    have tq1:=dQ (nq-1) (by omega)
    (try dsimp only at tq1)
    have g0:=gd (nq-2)
    have g1':=gd (nq-1)
    have g2':=gd nq
    have c3:0+(S.fX X).length≤(S.fX X).length∧0≤(nq:Int):=by omega
    have c4:0+(S.fX X).length≤(S.fX X).length∧0≤(nq:Int)-1:=by omega
    clear ih hE hv st1 st2 sv hv1 hv2 c1 c2 hlit hkD s1 l1 hd hz
    by_cases hn:nq=1
    · have hvq:(S.val nq (fun j=>tq (j+aq)))=tq (nq-1+aq):=by subst hn; exact uL rfl
      have xv:S.at' (S.fX X) (nq-1)+1000000*S.at' (S.fX X) nq=X:=by
       subst hn
       simp only [S.fD,Nat.zero_add,Nat.sub_self] at xv ⊢
       omega
      have gs:=iC (X:=X) (V:=(S.val nq (fun j=>tq (j+aq)))) (P:=1) (v:=tq (nq-1+aq)) (t:=S.at' (S.fX X) nq*1000000+S.at' (S.fX X) (nq-1)) (by decide) (by omega) (by rw [hvq]; omega) (by rw [hvq]; omega) (by omega) (by omega) (by omega)
      rw [← hdd] at gs
      have hI:=hI (Int.tdiv (S.at' (S.fX X) nq*1000000+S.at' (S.fX X) (nq-1)) (tq (nq-1+aq)+1)) (min (Int.tdiv (S.at' (S.fX X) nq*1000000+S.at' (S.fX X) (nq-1)+1) (tq (nq-1+aq))) 999999) gs.1 gs.2.1 (by omega) (by omega)
      apply Comes.of
      show zX _ _ _
      rw [q57]
      simp only [c57_0_0,c57_0_1,c57_0_2,c57_0_3,c57_0_4,c57_0_5,Int.toNat_natCast,eT,mS,e2,decide_eq_true c3,decide_eq_true c4,cond_true]
      generalize Int.tdiv (S.at' (S.fX X) nq*1000000+S.at' (S.fX X) (nq-1)) (tq (nq-1+aq)+1)=t1 at*
      generalize Int.tdiv (S.at' (S.fX X) nq*1000000+S.at' (S.fX X) (nq-1)+1) (tq (nq-1+aq))=t2 at*
      clear eT
      repeat' (first|with_reducible refine zN (fun h=> ?_) (fun h=> ?_)<;>(try simp only [SH] at h)|exact zI.mpr (by omega))
      all_goals first|(exfalso; omega)|exact hI
    · have hw:=xJ (k:=nq-2)
      have tq2:=dQ (nq-2) (by omega)
      (try dsimp only at tq2)
      have xv:S.fD (fun j=>S.at' (S.fX X) j) 0 (nq-2)+S.pw (nq-2)*((S.at' (S.fX X) nq*1000000+S.at' (S.fX X) (nq-1))*1000000+S.at' (S.fX X) (nq-2))=X:=by
       rw [show nq+1=nq-2+3 by omega,yg,Nat.zero_add] at xv
       simp only [S.fD] at xv
       rw [show nq-2+1=nq-1 by omega,show nq-1+1=nq by omega] at xv
       refine Eq.trans ?_ xv
       congr 2
       omega
      have vv:S.fD (fun j=>tq (j+aq)) 0 (nq-2)+S.pw (nq-2)*(tq (nq-1+aq)*1000000+tq (nq-2+aq))=(S.val nq (fun j=>tq (j+aq))):=by
       have h:(S.val nq (fun j=>tq (j+aq)))=S.fD (fun j=>tq (j+aq)) 0 (nq-2+2):=by rw [show nq-2+2=nq by omega]; rfl
       rw [h,yg,Nat.zero_add]
       simp only [S.fD]
       rw [show nq-2+1=nq-1 by omega]
       congr 2
       omega
      have lv0:=yI (t:=(fun j=>tq (j+aq))) (k:=nq-2) (i:=0) fun j _ h=>(dQ j (by omega)).1
      have lv1:=yw (t:=(fun j=>tq (j+aq))) (k:=nq-2) (i:=0) fun j _ h=>dQ j (by omega)
      have lu0:=yI (t:=fun j=>S.at' (S.fX X) j) (k:=nq-2) (i:=0) fun j _ h=>(gd j).1
      have lu1:=yw (t:=fun j=>S.at' (S.fX X) j) (k:=nq-2) (i:=0) fun j _ h=>gd j
      obtain ⟨v,hvv⟩: ∃ v,v=tq (nq-1+aq)*1000000+tq (nq-2+aq):=⟨_,rfl⟩
      obtain ⟨t,htt⟩: ∃ t,t=(S.at' (S.fX X) nq*1000000+S.at' (S.fX X) (nq-1))*1000000+S.at' (S.fX X) (nq-2):=⟨_,rfl⟩
      rw [← hvv,Int.mul_comm _ v] at vv
      rw [← htt,Int.mul_comm _ t] at xv
      have gs:=iC (X:=X) (V:=(S.val nq (fun j=>tq (j+aq)))) (P:=S.pw (nq-2)) (v:=v) (t:=t) hw (by omega) (by omega) (by rw [Int.add_mul]; omega) (by omega) (by rw [Int.add_mul]; omega) (by omega)
      rw [← hdd] at gs
      have hI:=hI (Int.tdiv t (v+1)) (min (Int.tdiv (t+1) v) 999999) gs.1 gs.2.1 (by omega) (by omega)
      have c5:0+(S.fX X).length≤(S.fX X).length∧0≤(nq:Int)-2:=by omega
      clear xv vv lv0 lv1 lu0 lu1 hw
      apply Comes.of
      show zX _ _ _
      rw [q57]
      simp only [c57_0_0,c57_0_1,c57_0_2,c57_0_3,c57_0_4,c57_0_5,Int.toNat_natCast,eT,mS,e2,e3,decide_eq_true c3,decide_eq_true c4,decide_eq_true c5,cond_true,← hvv,← htt]
      generalize Int.tdiv t (v+1)=t1 at*
      generalize Int.tdiv (t+1) v=t2 at*
      clear eT
      repeat' (first|with_reducible refine zN (fun h=> ?_) (fun h=> ?_)<;>(try simp only [SH] at h)|exact zI.mpr (by omega))
      all_goals first|(exfalso; omega)|exact hI
theorem s57 (ap np mp:Nat) (tp:Nat→Int) (aq nq mq:Nat) (tq:Nat→Int) (hp:(ap+np≤mp∧aq+nq≤mq)∧(np≤900∧nq≤900)∧S.fF np (fun j=>tp (j+ap))=true∧S.fF nq (fun j=>tq (j+aq))=true∧0<nq):zX ((q57 ap np mp tp aq nq mq tq)) ((p57 ap np mp tp aq nq mq tq)) ((0,(S.fX ((S.val np (fun j=>tp (j+ap))) % (S.val nq (fun j=>tq (j+aq))))).length,S.fX ((S.val np (fun j=>tp (j+ap))) / (S.val nq (fun j=>tq (j+aq)))),S.fX ((S.val np (fun j=>tp (j+ap))) % (S.val nq (fun j=>tq (j+aq)))))):=by
 have hp':=hp
 obtain ⟨⟨hp1,hp2⟩,⟨hp3,hp4⟩,g1,g2,hq0⟩:=hp
 have vp:=ya g2 hq0
 have up:=yU (zj g1)
 have z: ∀ j,S.at' (S.fJ np fun _=>(0:Int)) j=0:=fun j=>by
  by_cases h:j<np
  · exact y7 h
  · simp [S.at',List.getElem?_eq_none (show (S.fJ np fun _=>(0:Int)).length≤j by rw [zW]; omega)]
 have hm:=s57' ap np mp tp aq nq mq tq hp' np 0 (S.fJ np fun _=>0) (Nat.le_refl _) (by rw [Nat.sub_self]; exact (Int.zero_emod _).symm) zW (fun j _=>by rw [z]; omega) (fun j _=>z j) (by rw [Nat.sub_self]; exact (Int.zero_ediv _).symm)
 rw [z8] at hm
 by_cases h3:np≤3∧nq≤3
 · have c1:ap+np≤mp∧np≤3∧S.fG np (fun j=>tp (j+ap))=true:=⟨hp1,h3.1,zj g1⟩
   have c2:aq+nq≤mq∧nq≤3∧S.fG nq (fun j=>tq (j+aq))=true:=⟨hp2,h3.2,zj g2⟩
   have ul:=yF (zj g1) h3.1
   have vl:=yF (zj g2) h3.2
   have w3:S.pw 3=1000000000000000000:=rfl
   rw [← Int.tdiv_eq_ediv_of_nonneg up,← Int.tmod_eq_emod_of_nonneg up]
   have d0:0≤Int.tdiv (S.val np (fun j=>tp (j+ap))) (S.val nq (fun j=>tq (j+aq)))∧Int.tdiv (S.val np (fun j=>tp (j+ap))) (S.val nq (fun j=>tq (j+aq)))≤(S.val np (fun j=>tp (j+ap))):=by rw [Int.tdiv_eq_ediv_of_nonneg up]; exact ⟨Int.ediv_nonneg up (by omega),Int.ediv_le_self _ up⟩
   have m0:0≤Int.tmod (S.val np (fun j=>tp (j+ap))) (S.val nq (fun j=>tq (j+aq)))∧Int.tmod (S.val np (fun j=>tp (j+ap))) (S.val nq (fun j=>tq (j+aq)))<(S.val nq (fun j=>tq (j+aq))):=by rw [Int.tmod_eq_emod_of_nonneg up]; exact ⟨Int.emod_nonneg _ (by omega),Int.emod_lt_of_pos _ vp⟩
   unfold p57
   simp only [decide_eq_true c1,decide_eq_true c2,cond_true]
   generalize Int.tdiv (S.val np (fun j=>tp (j+ap))) (S.val nq (fun j=>tq (j+aq)))=D at*
   generalize Int.tmod (S.val np (fun j=>tp (j+ap))) (S.val nq (fun j=>tq (j+aq)))=M at*
   generalize (S.val np (fun j=>tp (j+ap)))=U at*
   generalize (S.val nq (fun j=>tq (j+aq)))=V at*
   repeat' (first|with_reducible refine zN (fun h=> ?_) (fun h=> ?_)<;>(try simp only [SH] at h)|exact zI.mpr (by omega))
   all_goals first|(exfalso; omega)|exact zG.mpr rfl
 · unfold p57
   repeat' (first|with_reducible refine zN (fun h=> ?_) (fun h=> ?_)<;>(try simp only [SH] at h)|exact zI.mpr (by omega))
   all_goals first|(exfalso; omega)|exact hm
theorem k57_ok:k57.ok Tryz.prog:=by
 intro x hx
 obtain ⟨⟨ap,np,mp,tp,_⟩,⟨aq,nq,mq,tq,_⟩,_⟩:=x
 obtain ⟨h1,h2⟩:=a57 ap np mp tp aq nq mq tq (s57 ap np mp tp aq nq mq tq (zo hx rfl))
 exact ⟨⟨400,(by decide:2+1+2≤400),h1⟩,h2⟩
noncomputable def xG2 (g9:Bool→Prop→Prop→Prop):Ext:=xK g9 [k69,k65,k69v,k65v,k60,k61,k44,k73,k55,k45,k58,k56,k59,k46,k18,k19,k54,k57]
theorem qT:yZ Tryz.prog (xG2 cond):=yN ⟨k69_ok,k65_ok,k69v_ok,k65v_ok,k60_ok,k61_ok,k44_ok,k73_ok,k55_ok,k45_ok,k58_ok,k56_ok,k59_ok,k46_ok,k18_ok,k19_ok,k54_ok,k57_ok,trivial⟩
namespace S
noncomputable def fb (v w:Int):Bool×Int×List Int×List Int:=if (fX ((v / w).natAbs:Int)).length>80 then (false,3,[],[]) else (decide (v / w<0),0,fX (v % w),fX ((v / w).natAbs:Int))
noncomputable def fK (n1:Bool) (n:Nat) (t:Nat→Int) (n2:Bool) (m:Nat) (u:Nat→Int):Bool×Int×List Int×List Int:=if fE n1 n t=true∧fE n2 m u=true then (if m=0 then (false,13,[],[]) else fb (sv n1 (val n t)) (sv n2 (val m u))) else (false,1,[],[])
def dq (n1:Bool) (V W:Int):Int:=if n1=true∧V % W>0 then V / W+1 else V / W
def dr (n1:Bool) (V W:Int):Int:=if n1=true∧V % W>0 then W-V % W else V % W
end S
theorem nO {p q c m:Int} (h0:0≤m) (h1:m<q) (h:p=q*c+m):p / q=c∧p % q=m:=by
 have e:p / q=c:=by rw [h,Int.add_comm,Int.add_mul_ediv_left _ _ (by omega),Int.ediv_eq_zero_of_lt h0 h1,Int.zero_add]
 refine ⟨e,?_⟩
 rw [Int.emod_def,e]; omega
theorem iT {n1 n2:Bool} {V W:Int} (hV:0≤V) (hW:0<W):S.sv n1 V / S.sv n2 W=S.sv (n1 != n2) (S.dq n1 V W)∧S.sv n1 V % S.sv n2 W=S.dr n1 V W∧0≤S.dq n1 V W∧S.dq n1 V W≤V / W+1∧0≤S.dr n1 V W∧S.dr n1 V W<W:=by
 have h1:=Int.emod_nonneg V (show W≠0 by omega)
 have h2:=Int.emod_lt_of_pos V hW
 have h3:=Int.mul_ediv_add_emod V W
 have h4:=Int.ediv_nonneg hV (show 0≤W by omega)
 have key:S.sv n1 V / W=S.sv n1 (S.dq n1 V W)∧S.sv n1 V % W=S.dr n1 V W∧0≤S.dq n1 V W∧S.dq n1 V W≤V / W+1∧0≤S.dr n1 V W∧S.dr n1 V W<W:=by
  unfold S.dq S.dr S.sv
  cases n1
  · simp only [cond_false,Bool.false_eq_true,false_and,if_false]
    exact ⟨trivial,trivial,h4,by omega,h1,h2⟩
  · simp only [cond_true,true_and]
    by_cases hR:V % W>0
    · rw [if_pos hR,if_pos hR]
      obtain ⟨e1,e2⟩:=nO (p:= -V) (q:=W) (c:= -(V / W+1)) (m:=W-V % W) (by omega) (by omega) (by
       rw [Int.mul_neg,Int.mul_add]; omega)
      rw [e1,e2]
      exact ⟨rfl,rfl,by omega,by omega,by omega,by omega⟩
    · rw [if_neg hR,if_neg hR]
      obtain ⟨e1,e2⟩:=nO (p:= -V) (q:=W) (c:= -(V / W)) (m:=0) (by omega) (by omega) (by
       rw [Int.mul_neg]; omega)
      rw [e1,e2]
      exact ⟨rfl,by omega,by omega,by omega,by omega,by omega⟩
 obtain ⟨k1,k2,k3⟩:=key
 refine ⟨?_,?_,k3⟩
 · cases n2
   · show S.sv n1 V / W=_
     rw [k1]; cases n1<;>rfl
   · show S.sv n1 V / (-W)=_
     rw [Int.ediv_neg,k1]; cases n1<;>simp [S.sv]
 · cases n2
   · exact k2
   · show S.sv n1 V % (-W)=_
     rw [Int.emod_neg,k2]
theorem nS {n1 n2:Bool} {V W:Int} (hV:0≤V) (hW:0<W):S.fb (S.sv n1 V) (S.sv n2 W)=if (S.fX (S.dq n1 V W)).length>80 then (false,3,[],[]) else (S.fW (n1 != n2) (S.dq n1 V W),0,S.fX (S.dr n1 V W),S.fX (S.dq n1 V W)):=by
 obtain ⟨h1,h2,h3,-⟩:=iT (n1:=n1) (n2:=n2) hV hW
 unfold S.fb
 rw [h1,h2]
 have e:=qb (neg:=(n1 != n2)) h3
 unfold S.fP at e
 simp only [Prod.mk.injEq] at e
 rw [e.1,e.2]
 rfl
theorem ou {c:Bool} {q:Int} (hq:0≤q) (h:((S.fX q).length:Int)=0):S.fW c q=false∧S.fX q= []:=by
 have:q≤0:=yy.mp (by omega)
 refine ⟨?_,yX this⟩
 unfold S.fW
 rw [decide_eq_false (by omega),Bool.and_false]
theorem kK {c:Bool} {q:Int} (h: ¬ ((S.fX q).length:Int)=0):S.fW c q=c:=by
 have: ¬ q≤0:=fun h2=>h (by have:=yy.mpr h2; omega)
 unfold S.fW
 rw [decide_eq_true (by omega),Bool.and_true]
theorem jt {r:Int} (h:((S.fX r).length:Int)=0):S.fX r= []:=List.length_eq_zero_iff.mp (by omega)
section
variable {c:Bool} {q r:Int}
abbrev G9:Bool×Int×List Int×List Int→Bool×Int×List Int×List Int:=fun e=>(e.1,e.2.1,e.2.2.1,e.2.2.2)
abbrev G0:Bool×Int×List Int×List Int→Bool×Bool×Int×List Int×List Int:=fun e=>(e.1,false,e.2.1,e.2.2.1,e.2.2.2)
theorem n7 (hq:0≤q) (h:((S.fX q).length:Int)=0) (h2:((S.fX r).length:Int)=0):(S.fW c q,(0:Int),S.fX r,S.fX q)=(false,0,[],[]):=by rw [(ou hq h).1,(ou (c:=c) hq h).2,jt h2]
theorem mG (hq:0≤q) (h:((S.fX q).length:Int)=0):(S.fW c q,(0:Int),S.fX r,S.fX q)=(false,0,S.fX r,[]):=by rw [(ou hq h).1,(ou (c:=c) hq h).2]
theorem nk (h: ¬ ((S.fX q).length:Int)=0) (h2:((S.fX r).length:Int)=0):(S.fW c q,(0:Int),S.fX r,S.fX q)=(c,0,[],S.fX q):=by rw [kK h,jt h2]
theorem nj (h: ¬ ((S.fX q).length:Int)=0):(S.fW c q,(0:Int),S.fX r,S.fX q)=(c,0,S.fX r,S.fX q):=by rw [kK h]
end
section
variable (g9:TT) (fA:KS) (fC:KR) (n1:Bool) (ap np mp:Nat) (tp:NI) (n2:Bool) (aq nq mq:Nat) (tq:NI)
noncomputable abbrev c29_e_0:=S.fX ((S.val nq fun j=>tq (j+aq))-S.val (S.fX ((S.val np fun j=>tp (j+ap)) % S.val nq fun j=>tq (j+aq))).length fun j=>S.at' (S.fX ((S.val np fun j=>tp (j+ap)) % S.val nq fun j=>tq (j+aq))) j)
noncomputable abbrev c29_e_1:=([[(1,false,Blk.cols mq [Col.int .i64 tq]),(0,false,Blk.cols mp [Col.int .i64 tp]),(9,true,Blk.cols (S.fX ((S.val np fun j=>tp (j+ap)) % S.val nq fun j=>tq (j+aq))).length [Col.int .i64 fun j=>S.at' (S.fX ((S.val np fun j=>tp (j+ap)) % S.val nq fun j=>tq (j+aq))) j])]])
noncomputable abbrev c29_e_2:=S.fX ((S.val (S.fX ((S.val np fun j=>tp (j+ap)) / S.val nq fun j=>tq (j+aq))).length fun j=>S.at' (S.fX ((S.val np fun j=>tp (j+ap)) / S.val nq fun j=>tq (j+aq))) j)+1)
noncomputable abbrev c29_e_3:=([[(1,false,Blk.cols mq [Col.int .i64 tq]),(0,false,Blk.cols mp [Col.int .i64 tp])]])
noncomputable abbrev c29_e_4:=([[(1,false,Blk.cols mq [Col.int .i64 tq]),(0,false,Blk.cols mp [Col.int .i64 tp]),(9,true,Blk.cols (S.fX ((S.val np fun j=>tp (j+ap)) % S.val nq fun j=>tq (j+aq))).length [Col.int .i64 fun j=>S.at' (S.fX ((S.val np fun j=>tp (j+ap)) % S.val nq fun j=>tq (j+aq))) j]),(10,true,Blk.cols (S.fX ((S.val np fun j=>tp (j+ap)) / S.val nq fun j=>tq (j+aq))).length [Col.int .i64 fun j=>S.at' (S.fX ((S.val np fun j=>tp (j+ap)) / S.val nq fun j=>tq (j+aq))) j])]])
noncomputable abbrev c29_e_5:=(PV.tup [PV.agg [PV.tf false,PV.nils],PV.agg [PV.tf false,PV.own 9 1 (S.fX ((S.val np fun j=>tp (j+ap)) % S.val nq fun j=>tq (j+aq))).length],PV.int .i64 (0:Int)])
noncomputable abbrev c29_e_6:=(PV.tup [PV.agg [PV.tf false,PV.nils],PV.agg [PV.tf false,PV.nils],PV.int .i64 (0:Int)])
noncomputable abbrev c29_e_7:=(↑((S.fX ((S.val np fun j=>tp (j+ap)) % S.val nq fun j=>tq (j+aq))).length):Int)==0
noncomputable abbrev c29_e_8:=([[(1,false,Blk.cols mq [Col.int .i64 tq]),(0,false,Blk.cols mp [Col.int .i64 tp]),(10,true,Blk.cols (S.fX ((S.val np fun j=>tp (j+ap)) / S.val nq fun j=>tq (j+aq))).length [Col.int .i64 fun j=>S.at' (S.fX ((S.val np fun j=>tp (j+ap)) / S.val nq fun j=>tq (j+aq))) j])]])
noncomputable abbrev c29_e_9:=([[(1,false,Blk.cols mq [Col.int .i64 tq]),(0,false,Blk.cols mp [Col.int .i64 tp]),(15,true,Blk.cols (c29_e_0 ap np tp aq nq tq).length [Col.int .i64 fun j=>S.at' (c29_e_0 ap np tp aq nq tq) j])]])
noncomputable abbrev c29_e_10:=(S.fX ((S.val np fun j=>tp (j+ap)) / S.val nq fun j=>tq (j+aq))).length
noncomputable abbrev c29_e_11:=(PV.tup [PV.agg [PV.tf false,PV.nils],PV.agg [PV.tf false,PV.nils],PV.int .i64 (3:Int)])
noncomputable abbrev c29_e_12:=(PV.tup [PV.agg [PV.tf false,PV.nils],PV.agg [PV.tf false,PV.own 15 1 (c29_e_0 ap np tp aq nq tq).length],PV.int .i64 (0:Int)])
noncomputable abbrev c29_e_13:=S.fX ((S.val np fun j=>tp (j+ap)) / S.val nq fun j=>tq (j+aq))
noncomputable abbrev c29_e_14:=([[(1,false,Blk.cols mq [Col.int .i64 tq]),(0,false,Blk.cols mp [Col.int .i64 tp]),(15,true,Blk.cols (c29_e_0 ap np tp aq nq tq).length [Col.int .i64 fun j=>S.at' (c29_e_0 ap np tp aq nq tq) j]),(13,true,Blk.cols (c29_e_2 ap np tp aq nq tq).length [Col.int .i64 fun j=>S.at' (c29_e_2 ap np tp aq nq tq) j])]])
noncomputable abbrev c29_e_15:=S.fX ((S.val np fun j=>tp (j+ap)) % S.val nq fun j=>tq (j+aq))
noncomputable abbrev c29_e_16:=(S.val nq fun j=>tq (j+aq))-S.val (S.fX ((S.val np fun j=>tp (j+ap)) % S.val nq fun j=>tq (j+aq))).length fun j=>S.at' (S.fX ((S.val np fun j=>tp (j+ap)) % S.val nq fun j=>tq (j+aq))) j
noncomputable abbrev c29_e_17:=([[(1,false,Blk.cols mq [Col.int .i64 tq]),(0,false,Blk.cols mp [Col.int .i64 tp]),(13,true,Blk.cols (c29_e_2 ap np tp aq nq tq).length [Col.int .i64 fun j=>S.at' (c29_e_2 ap np tp aq nq tq) j])]])
abbrev St29:=Empty
abbrev Rt29:=Bool×Int×List Int×List Int
noncomputable def V29 (r:Rt29):PV:= .tup [.agg [.bool r.1,.own 4 1 r.2.2.2.length],.agg [.tf false,.own 3 1 r.2.2.1.length],.int .i64 r.2.1]
noncomputable def N29 (r:Rt29):List Blk:= [CI r.2.2.1,CI r.2.2.2]
noncomputable def I29:St29→Hd:=fun s=>s.elim
noncomputable def q29 (n1:Bool) (ap np mp:Nat) (tp:NI) (n2:Bool) (aq nq mq:Nat) (tq:NI):St29→Option (St29⊕Rt29):=fun s=>s.elim
noncomputable abbrev d29_0 (n1:Bool) (ap np mp:Nat) (tp:NI) (n2:Bool) (aq nq mq:Nat) (tq:NI):Option (St29⊕Rt29):=(bif ((↑(c29_e_10 ap np tp aq nq tq):Int)==0) then (bif (c29_e_7 ap np tp aq nq tq) then (some (.inr (false,(0:Int),[],[]))) else (some (.inr (false,(0:Int),S.fX ((S.val np fun j=>tp (j+ap)) % S.val nq fun j=>tq (j+aq)),[])))) else (bif (decide ((↑(c29_e_10 ap np tp aq nq tq):Int)>80)) then (some (.inr (false,(3:Int),[],[]))) else (bif (c29_e_7 ap np tp aq nq tq) then (some (.inr (false,(0:Int),[],S.fX ((S.val np fun j=>tp (j+ap)) / S.val nq fun j=>tq (j+aq))))) else (some (.inr (false,(0:Int),S.fX ((S.val np fun j=>tp (j+ap)) % S.val nq fun j=>tq (j+aq)),S.fX ((S.val np fun j=>tp (j+ap)) / S.val nq fun j=>tq (j+aq))))))))
noncomputable abbrev d29_1 (n1:Bool) (ap np mp:Nat) (tp:NI) (n2:Bool) (aq nq mq:Nat) (tq:NI):Option (St29⊕Rt29):=(bif ((↑(c29_e_10 ap np tp aq nq tq):Int)==0) then (bif (c29_e_7 ap np tp aq nq tq) then (some (.inr (false,(0:Int),[],[]))) else (some (.inr (false,(0:Int),S.fX ((S.val np fun j=>tp (j+ap)) % S.val nq fun j=>tq (j+aq)),[])))) else (bif (decide ((↑(c29_e_10 ap np tp aq nq tq):Int)>80)) then (some (.inr (false,(3:Int),[],[]))) else (bif (c29_e_7 ap np tp aq nq tq) then (some (.inr (true,(0:Int),[],S.fX ((S.val np fun j=>tp (j+ap)) / S.val nq fun j=>tq (j+aq))))) else (some (.inr (true,(0:Int),S.fX ((S.val np fun j=>tp (j+ap)) % S.val nq fun j=>tq (j+aq)),S.fX ((S.val np fun j=>tp (j+ap)) / S.val nq fun j=>tq (j+aq))))))))
noncomputable def p29 (n1:Bool) (ap np mp:Nat) (tp:NI) (n2:Bool) (aq nq mq:Nat) (tq:NI):Option (St29⊕Rt29):=bif (decide (ap+np≤mp∧np≤1000000)) then (bif (S.fE n1 np fun j=>tp (j+ap)) then (bif (decide (aq+nq≤mq∧nq≤1000000)) then (bif (S.fE n2 nq fun j=>tq (j+aq)) then (bif ((nq:Int)==0) then (some (.inr (false,(13:Int),[],[]))) else (bif (decide ((ap+np≤mp∧aq+nq≤mq)∧(np≤900∧nq≤900)∧(S.fF np fun j=>tp (j+ap))=true∧(S.fF nq fun j=>tq (j+aq))=true∧0<nq)) then (bif n1 then (bif (decide ((↑((S.fX ((S.val np fun j=>tp (j+ap)) % S.val nq fun j=>tq (j+aq))).length):Int)>0)) then (bif (decide ((0+(c29_e_13 ap np tp aq nq tq).length≤(S.fX ((S.val np fun j=>tp (j+ap)) / S.val nq fun j=>tq (j+aq))).length∧1≤1)∧((c29_e_13 ap np tp aq nq tq).length≤1000∧1≤1000)∧(S.fF (c29_e_13 ap np tp aq nq tq).length fun j=>S.at' (c29_e_13 ap np tp aq nq tq) j)=true∧true=true)) then (bif (decide ((aq+nq≤mq∧0+(c29_e_15 ap np tp aq nq tq).length≤(S.fX ((S.val np fun j=>tp (j+ap)) % S.val nq fun j=>tq (j+aq))).length)∧(nq≤1000∧(c29_e_15 ap np tp aq nq tq).length≤1000)∧(S.fF nq fun j=>tq (j+aq))=true∧(S.fF (c29_e_15 ap np tp aq nq tq).length fun j=>S.at' (c29_e_15 ap np tp aq nq tq) j)=true∧(S.val (c29_e_15 ap np tp aq nq tq).length fun j=>S.at' (c29_e_15 ap np tp aq nq tq) j)≤S.val nq fun j=>tq (j+aq))) then (bif n2 then (bif ((↑((c29_e_2 ap np tp aq nq tq).length):Int)==0) then (bif ((↑((c29_e_0 ap np tp aq nq tq).length):Int)==0) then (some (.inr (false,(0:Int),[],[]))) else (some (.inr (false,(0:Int),S.fX (c29_e_16 ap np tp aq nq tq),[])))) else (bif (decide ((↑((c29_e_2 ap np tp aq nq tq).length):Int)>80)) then (some (.inr (false,(3:Int),[],[]))) else (bif ((↑((c29_e_0 ap np tp aq nq tq).length):Int)==0) then (some (.inr (false,(0:Int),[],S.fX ((S.val (c29_e_10 ap np tp aq nq tq) fun j=>S.at' (S.fX ((S.val np fun j=>tp (j+ap)) / S.val nq fun j=>tq (j+aq))) j)+1)))) else (some (.inr (false,(0:Int),S.fX (c29_e_16 ap np tp aq nq tq),S.fX ((S.val (c29_e_10 ap np tp aq nq tq) fun j=>S.at' (S.fX ((S.val np fun j=>tp (j+ap)) / S.val nq fun j=>tq (j+aq))) j)+1))))))) else (bif ((↑((c29_e_2 ap np tp aq nq tq).length):Int)==0) then (bif ((↑((c29_e_0 ap np tp aq nq tq).length):Int)==0) then (some (.inr (false,(0:Int),[],[]))) else (some (.inr (false,(0:Int),S.fX (c29_e_16 ap np tp aq nq tq),[])))) else (bif (decide ((↑((c29_e_2 ap np tp aq nq tq).length):Int)>80)) then (some (.inr (false,(3:Int),[],[]))) else (bif ((↑((c29_e_0 ap np tp aq nq tq).length):Int)==0) then (some (.inr (true,(0:Int),[],S.fX ((S.val (c29_e_10 ap np tp aq nq tq) fun j=>S.at' (S.fX ((S.val np fun j=>tp (j+ap)) / S.val nq fun j=>tq (j+aq))) j)+1)))) else (some (.inr (true,(0:Int),S.fX (c29_e_16 ap np tp aq nq tq),S.fX ((S.val (c29_e_10 ap np tp aq nq tq) fun j=>S.at' (S.fX ((S.val np fun j=>tp (j+ap)) / S.val nq fun j=>tq (j+aq))) j)+1)))))))) else none) else none) else (bif n2 then (d29_0 n1 ap np mp tp n2 aq nq mq tq) else (d29_1 n1 ap np mp tp n2 aq nq mq tq))) else (bif n2 then (d29_1 n1 ap np mp tp n2 aq nq mq tq) else (d29_0 n1 ap np mp tp n2 aq nq mq tq))) else none)) else (some (.inr (false,(1:Int),[],[])))) else none) else (some (.inr (false,(1:Int),[],[])))) else none
noncomputable abbrev g29_2:Prop:=(g9 ((↑(c29_e_10 ap np tp aq nq tq):Int)==0) (g9 false (g9 true (fC c29_e_11 (c29_e_3 mp tp mq tq) 15) (g9 (c29_e_7 ap np tp aq nq tq) (fC c29_e_6 (c29_e_3 mp tp mq tq) 16) (fC (c29_e_5 ap np tp aq nq tq) (c29_e_1 ap np mp tp aq nq mq tq) 16))) (g9 false (fC c29_e_6 (c29_e_3 mp tp mq tq) 15) (g9 (c29_e_7 ap np tp aq nq tq) (fC c29_e_6 (c29_e_3 mp tp mq tq) 16) (fC (c29_e_5 ap np tp aq nq tq) (c29_e_1 ap np mp tp aq nq mq tq) 16)))) (g9 (decide ((↑(c29_e_10 ap np tp aq nq tq):Int)>80)) (g9 true (fC c29_e_11 (c29_e_3 mp tp mq tq) 15) (g9 (c29_e_7 ap np tp aq nq tq) (fC c29_e_6 (c29_e_3 mp tp mq tq) 16) (fC (c29_e_5 ap np tp aq nq tq) (c29_e_1 ap np mp tp aq nq mq tq) 16))) (g9 false (fC c29_e_6 (c29_e_3 mp tp mq tq) 15) (g9 (c29_e_7 ap np tp aq nq tq) (fC (PV.tup [PV.agg [PV.tf false,PV.own 10 1 (c29_e_13 ap np tp aq nq tq).length],PV.agg [PV.tf false,PV.nils],PV.int .i64 (0:Int)]) (c29_e_8 ap np mp tp aq nq mq tq) 16) (fC (PV.tup [PV.agg [PV.tf false,PV.own 10 1 (c29_e_13 ap np tp aq nq tq).length],PV.agg [PV.tf false,PV.own 9 1 (c29_e_15 ap np tp aq nq tq).length],PV.int .i64 (0:Int)]) (c29_e_4 ap np mp tp aq nq mq tq) 16)))))
noncomputable abbrev g29_3:Prop:=(g9 ((↑(c29_e_10 ap np tp aq nq tq):Int)==0) (g9 false (g9 true (fC c29_e_11 (c29_e_3 mp tp mq tq) 15) (g9 (c29_e_7 ap np tp aq nq tq) (fC c29_e_6 (c29_e_3 mp tp mq tq) 16) (fC (c29_e_5 ap np tp aq nq tq) (c29_e_1 ap np mp tp aq nq mq tq) 16))) (g9 false (fC c29_e_6 (c29_e_3 mp tp mq tq) 15) (g9 (c29_e_7 ap np tp aq nq tq) (fC c29_e_6 (c29_e_3 mp tp mq tq) 16) (fC (c29_e_5 ap np tp aq nq tq) (c29_e_1 ap np mp tp aq nq mq tq) 16)))) (g9 (decide ((↑(c29_e_10 ap np tp aq nq tq):Int)>80)) (g9 true (fC c29_e_11 (c29_e_3 mp tp mq tq) 15) (g9 (c29_e_7 ap np tp aq nq tq) (fC c29_e_6 (c29_e_3 mp tp mq tq) 16) (fC (c29_e_5 ap np tp aq nq tq) (c29_e_1 ap np mp tp aq nq mq tq) 16))) (g9 false (fC c29_e_6 (c29_e_3 mp tp mq tq) 15) (g9 (c29_e_7 ap np tp aq nq tq) (fC (PV.tup [PV.agg [PV.tf true,PV.own 10 1 (c29_e_13 ap np tp aq nq tq).length],PV.agg [PV.tf false,PV.nils],PV.int .i64 (0:Int)]) (c29_e_8 ap np mp tp aq nq mq tq) 16) (fC (PV.tup [PV.agg [PV.tf true,PV.own 10 1 (c29_e_13 ap np tp aq nq tq).length],PV.agg [PV.tf false,PV.own 9 1 (c29_e_15 ap np tp aq nq tq).length],PV.int .i64 (0:Int)]) (c29_e_4 ap np mp tp aq nq mq tq) 16)))))
noncomputable abbrev g29_0:Prop:=(g9 n1 (g9 n2 (g29_2 g9 fC ap np mp tp aq nq mq tq) (g29_3 g9 fC ap np mp tp aq nq mq tq)) (g9 n2 (g29_3 g9 fC ap np mp tp aq nq mq tq) (g29_2 g9 fC ap np mp tp aq nq mq tq)))
noncomputable abbrev g29_1:Prop:=(g9 false (g9 true (fC c29_e_11 (c29_e_3 mp tp mq tq) 20) (g9 ((↑((c29_e_0 ap np tp aq nq tq).length):Int)==0) (fC c29_e_6 (c29_e_3 mp tp mq tq) 21) (fC (c29_e_12 ap np tp aq nq tq) (c29_e_9 ap np mp tp aq nq mq tq) 21))) (g9 false (fC c29_e_6 (c29_e_3 mp tp mq tq) 20) (g9 ((↑((c29_e_0 ap np tp aq nq tq).length):Int)==0) (fC c29_e_6 (c29_e_3 mp tp mq tq) 21) (fC (c29_e_12 ap np tp aq nq tq) (c29_e_9 ap np mp tp aq nq mq tq) 21))))
noncomputable abbrev g29_4:Prop:=(g9 ((↑((c29_e_2 ap np tp aq nq tq).length):Int)==0) (g29_1 g9 fC ap np mp tp aq nq mq tq) (g9 (decide ((↑((c29_e_2 ap np tp aq nq tq).length):Int)>80)) (g9 true (fC c29_e_11 (c29_e_3 mp tp mq tq) 20) (g9 ((↑((c29_e_0 ap np tp aq nq tq).length):Int)==0) (fC c29_e_6 (c29_e_3 mp tp mq tq) 21) (fC (c29_e_12 ap np tp aq nq tq) (c29_e_9 ap np mp tp aq nq mq tq) 21))) (g9 false (fC c29_e_6 (c29_e_3 mp tp mq tq) 20) (g9 ((↑((c29_e_0 ap np tp aq nq tq).length):Int)==0) (fC (PV.tup [PV.agg [PV.tf false,PV.own 13 1 (c29_e_2 ap np tp aq nq tq).length],PV.agg [PV.tf false,PV.nils],PV.int .i64 (0:Int)]) (c29_e_17 ap np mp tp aq nq mq tq) 21) (fC (PV.tup [PV.agg [PV.tf false,PV.own 13 1 (c29_e_2 ap np tp aq nq tq).length],PV.agg [PV.tf false,PV.own 15 1 (c29_e_0 ap np tp aq nq tq).length],PV.int .i64 (0:Int)]) (c29_e_14 ap np mp tp aq nq mq tq) 21)))))
noncomputable abbrev g29_5:Prop:=(g9 ((↑((c29_e_2 ap np tp aq nq tq).length):Int)==0) (g29_1 g9 fC ap np mp tp aq nq mq tq) (g9 (decide ((↑((c29_e_2 ap np tp aq nq tq).length):Int)>80)) (g9 true (fC c29_e_11 (c29_e_3 mp tp mq tq) 20) (g9 ((↑((c29_e_0 ap np tp aq nq tq).length):Int)==0) (fC c29_e_6 (c29_e_3 mp tp mq tq) 21) (fC (c29_e_12 ap np tp aq nq tq) (c29_e_9 ap np mp tp aq nq mq tq) 21))) (g9 false (fC c29_e_6 (c29_e_3 mp tp mq tq) 20) (g9 ((↑((c29_e_0 ap np tp aq nq tq).length):Int)==0) (fC (PV.tup [PV.agg [PV.tf true,PV.own 13 1 (c29_e_2 ap np tp aq nq tq).length],PV.agg [PV.tf false,PV.nils],PV.int .i64 (0:Int)]) (c29_e_17 ap np mp tp aq nq mq tq) 21) (fC (PV.tup [PV.agg [PV.tf true,PV.own 13 1 (c29_e_2 ap np tp aq nq tq).length],PV.agg [PV.tf false,PV.own 15 1 (c29_e_0 ap np tp aq nq tq).length],PV.int .i64 (0:Int)]) (c29_e_14 ap np mp tp aq nq mq tq) 21)))))
def Te29:Prop:=g9 (decide (ap+np≤mp∧np≤1000000)) (g9 (S.fE n1 np (FS tp ap)) (g9 (decide (aq+nq≤mq∧nq≤1000000)) (g9 (S.fE n2 nq (FS tq aq)) (g9 ((nq:Int)==0) (fC (.tup [.agg [.tf false,.nils],.agg [.tf false,.nils],.int .i64 13]) (c29_e_3 mp tp mq tq) 8) (g9 (decide ((ap+np≤mp∧aq+nq≤mq)∧(np≤900∧nq≤900)∧(S.fF np (FS tp ap))=true∧(S.fF nq (FS tq aq))=true∧0<nq)) (g9 n1 (g9 (decide ((↑((S.fX ((S.val np (FS tp ap)) % S.val nq (FS tq aq))).length):Int)>0)) (g9 (decide ((0+(c29_e_13 ap np tp aq nq tq).length≤(S.fX ((S.val np (FS tp ap)) / S.val nq (FS tq aq))).length∧1≤1)∧((c29_e_13 ap np tp aq nq tq).length≤1000∧1≤1000)∧(S.fF (c29_e_13 ap np tp aq nq tq).length fun j=>S.at' (c29_e_13 ap np tp aq nq tq) j)=true∧true=true)) (g9 (decide ((aq+nq≤mq∧0+(c29_e_15 ap np tp aq nq tq).length≤(S.fX ((S.val np (FS tp ap)) % S.val nq (FS tq aq))).length)∧(nq≤1000∧(c29_e_15 ap np tp aq nq tq).length≤1000)∧(S.fF nq (FS tq aq))=true∧(S.fF (c29_e_15 ap np tp aq nq tq).length fun j=>S.at' (c29_e_15 ap np tp aq nq tq) j)=true∧(S.val (c29_e_15 ap np tp aq nq tq).length fun j=>S.at' (c29_e_15 ap np tp aq nq tq) j)≤S.val nq (FS tq aq))) (g9 n1 (g9 n2 (g29_4 g9 fC ap np mp tp aq nq mq tq) (g29_5 g9 fC ap np mp tp aq nq mq tq)) (g9 n2 (g29_5 g9 fC ap np mp tp aq nq mq tq) (g29_4 g9 fC ap np mp tp aq nq mq tq))) False) False) (g29_0 g9 fC n1 ap np mp tp n2 aq nq mq tq)) (g29_0 g9 fC n1 ap np mp tp n2 aq nq mq tq)) False)) (fC (.tup [.agg [.tf false,.nils],.agg [.tf false,.nils],.int .i64 1]) (c29_e_3 mp tp mq tq) 8)) False) (fC (.tup [.agg [.tf false,.nils],.agg [.tf false,.nils],.int .i64 1]) (c29_e_3 mp tp mq tq) 7)) False
theorem te29:run g9 Tryz.env true (xG2 g9) true 400 ⟨85,[.cd (zS Tryz.f85).body],yD 0 [.agg [.bool n1,.loose ⟨0,1,ap,0⟩ np],.agg [.bool n2,.loose ⟨1,1,aq,0⟩ nq]],[[],[(0,(false,CB mp tp)),(1,(false,CB mq tq))]],2⟩ (zq 2 [] fA fC)=
 Te29 g9 fC n1 ap np mp tp n2 aq nq mq tq:=by kernel_rfl
noncomputable abbrev J29:Rt29→zQ:=fun r=> [yJ (2+1) ((N29) r)++ [(0,(false,CB mp tp)),(1,(false,CB mq tq))]]
attribute [local irreducible] Int.subNatNat in
theorem a29 {r:Rt29} (h:zX ((q29 n1 ap np mp tp n2 aq nq mq tq)) ((p29 n1 ap np mp tp n2 aq nq mq tq)) r):zn Tryz.prog 85 [.agg [.bool n1,.loose ⟨0,1,ap,0⟩ np],.agg [.bool n2,.loose ⟨1,1,aq,0⟩ nq]] [[(0,(false,CB mp tp)),(1,(false,CB mq tq))]] 2 ((V29) r) ((J29 mp tp mq tq) r) 400∧HB Tryz.prog 85:=by
 refine zf Tryz.envOk Tryz.mixed qT ((I29)) ((V29)) (J29 mp tp mq tq) (fn:=zS Tryz.f85) (ts:= []) (n:=400) rfl (by decide) (by simp) (zV rfl) ?_ ?_ ?_ h
 · intro s; exact s.elim
 · intro fA fC x hS hR h
   refine Holds.eq (te29 cond fA fC n1 ap np mp tp n2 aq nq mq tq) ?_
   unfold Te29
   unfold p29 at h
   refine zA h (fun c0 h=>zA h (fun c1 h=>zA h (fun c2 h=>zA h (fun c3 h=>zA h (fun c4 h=> ?_) (fun c4 h=>zA h (fun c5 h=>zA h (fun c6 h=>zA h (fun c7 h=>zA h (fun c8 h=>zA h (fun c9 h=>zJ c6 (zA h (fun c10 h=>zA h (fun c11 h=>za rfl (za rfl (zA h (fun c12 h=> ?_) (fun c12 h=> ?_)))) (fun c11 h=>zA h (fun c12 h=>zJ rfl (zU hR _ h (fun n=>bif Nat.beq n 3 then 399 else bif Nat.beq n 4 then 398 else n) rfl rfl rfl (zm ⟨(zg ⟨(zR rfl),(zT rfl),trivial⟩),(zg ⟨(yW rfl),(zT rfl),trivial⟩),(zH rfl),trivial⟩) rfl (zY (zD rfl) (zc rfl) (zY (zD rfl) (zc rfl) (zB (zC rfl) rfl rfl (zB (zC rfl) rfl rfl zE)))))) (fun c12 h=>za rfl (zA h (fun c13 h=> ?_) (fun c13 h=> ?_))))) (fun c10 h=>zA h (fun c11 h=>za rfl (za rfl (zA h (fun c12 h=> ?_) (fun c12 h=> ?_)))) (fun c11 h=>zA h (fun c12 h=>zJ rfl (zU hR _ h (fun n=>bif Nat.beq n 3 then 399 else bif Nat.beq n 4 then 398 else n) rfl rfl rfl (zm ⟨(zg ⟨(zR rfl),(zT rfl),trivial⟩),(zg ⟨(yW rfl),(zT rfl),trivial⟩),(zH rfl),trivial⟩) rfl (zY (zD rfl) (zc rfl) (zY (zD rfl) (zc rfl) (zB (zC rfl) rfl rfl (zB (zC rfl) rfl rfl zE)))))) (fun c12 h=>za rfl (zA h (fun c13 h=> ?_) (fun c13 h=> ?_))))))) (fun c9 h=> ?_)) (fun c8 h=> ?_)) (fun c7 h=>zJ c6 (zA h (fun c8 h=>zA h (fun c9 h=>za rfl (za rfl (zA h (fun c10 h=> ?_) (fun c10 h=> ?_)))) (fun c9 h=>zA h (fun c10 h=>zJ rfl (zU hR _ h (fun n=>bif Nat.beq n 3 then 399 else bif Nat.beq n 4 then 398 else n) rfl rfl rfl (zm ⟨(zg ⟨(zR rfl),(zT rfl),trivial⟩),(zg ⟨(yW rfl),(zT rfl),trivial⟩),(zH rfl),trivial⟩) rfl (zY (zD rfl) (zc rfl) (zY (zD rfl) (zc rfl) (zB (zC rfl) rfl rfl (zB (zC rfl) rfl rfl zE)))))) (fun c10 h=>za rfl (zA h (fun c11 h=> ?_) (fun c11 h=> ?_))))) (fun c8 h=>zA h (fun c9 h=>za rfl (za rfl (zA h (fun c10 h=> ?_) (fun c10 h=> ?_)))) (fun c9 h=>zA h (fun c10 h=>zJ rfl (zU hR _ h (fun n=>bif Nat.beq n 3 then 399 else bif Nat.beq n 4 then 398 else n) rfl rfl rfl (zm ⟨(zg ⟨(zR rfl),(zT rfl),trivial⟩),(zg ⟨(yW rfl),(zT rfl),trivial⟩),(zH rfl),trivial⟩) rfl (zY (zD rfl) (zc rfl) (zY (zD rfl) (zc rfl) (zB (zC rfl) rfl rfl (zB (zC rfl) rfl rfl zE)))))) (fun c10 h=>za rfl (zA h (fun c11 h=> ?_) (fun c11 h=> ?_)))))))) (fun c6 h=>za c6 (zA h (fun c7 h=>zA h (fun c8 h=>za rfl (za rfl (zA h (fun c9 h=> ?_) (fun c9 h=> ?_)))) (fun c8 h=>zA h (fun c9 h=>zJ rfl (zU hR _ h (fun n=>bif Nat.beq n 3 then 399 else bif Nat.beq n 4 then 398 else n) rfl rfl rfl (zm ⟨(zg ⟨(zR rfl),(zT rfl),trivial⟩),(zg ⟨(yW rfl),(zT rfl),trivial⟩),(zH rfl),trivial⟩) rfl (zY (zD rfl) (zc rfl) (zY (zD rfl) (zc rfl) (zB (zC rfl) rfl rfl (zB (zC rfl) rfl rfl zE)))))) (fun c9 h=>za rfl (zA h (fun c10 h=> ?_) (fun c10 h=> ?_))))) (fun c7 h=>zA h (fun c8 h=>za rfl (za rfl (zA h (fun c9 h=> ?_) (fun c9 h=> ?_)))) (fun c8 h=>zA h (fun c9 h=>zJ rfl (zU hR _ h (fun n=>bif Nat.beq n 3 then 399 else bif Nat.beq n 4 then 398 else n) rfl rfl rfl (zm ⟨(zg ⟨(zR rfl),(zT rfl),trivial⟩),(zg ⟨(yW rfl),(zT rfl),trivial⟩),(zH rfl),trivial⟩) rfl (zY (zD rfl) (zc rfl) (zY (zD rfl) (zc rfl) (zB (zC rfl) rfl rfl (zB (zC rfl) rfl rfl zE)))))) (fun c9 h=>za rfl (zA h (fun c10 h=> ?_) (fun c10 h=> ?_)))))))) (fun c5 h=> ?_))) (fun c3 h=> ?_)) (fun c2 h=> ?_)) (fun c1 h=> ?_)) (fun c0 h=> ?_)
   all_goals first
     |exact zU hR _ h (fun n=>bif Nat.beq n 3 then 399 else bif Nat.beq n 4 then 398 else n) rfl rfl rfl (zm ⟨(zg ⟨(zR rfl),(zT rfl),trivial⟩),(zg ⟨(yW rfl),(zT rfl),trivial⟩),(zH rfl),trivial⟩) rfl (zY (zD rfl) (zc rfl) (zY (zD rfl) (zc rfl) (zB (zC rfl) rfl rfl (zB (zC rfl) rfl rfl zE))))
     |exact zF h
     |exact zU hR _ h (fun n=>bif Nat.beq n 3 then 9 else bif Nat.beq n 4 then 399 else n) rfl rfl rfl (zm ⟨(zg ⟨(zR rfl),(zT rfl),trivial⟩),(zg ⟨(yW rfl),(zZ (zD rfl) rfl rfl),trivial⟩),(zH rfl),trivial⟩) rfl (zL (zD rfl) rfl (Nat.le_of_eq rfl) (zO (fun _ _=>rfl) zP) (zY (zD rfl) (zc rfl) (zB (zC rfl) rfl rfl (zB (zC rfl) rfl rfl zE))))
     |exact zU hR _ h (fun n=>bif Nat.beq n 3 then 399 else bif Nat.beq n 4 then 10 else n) rfl rfl rfl (zm ⟨(zg ⟨(zR rfl),(zZ (zD rfl) rfl rfl),trivial⟩),(zg ⟨(yW rfl),(zT rfl),trivial⟩),(zH rfl),trivial⟩) rfl (zY (zD rfl) (zc rfl) (zL (zD rfl) rfl (Nat.le_of_eq rfl) (zO (fun _ _=>rfl) zP) (zB (zC rfl) rfl rfl (zB (zC rfl) rfl rfl zE))))
     |exact zU hR _ h (fun n=>bif Nat.beq n 3 then 9 else bif Nat.beq n 4 then 10 else n) rfl rfl rfl (zm ⟨(zg ⟨(zR rfl),(zZ (zD rfl) rfl rfl),trivial⟩),(zg ⟨(yW rfl),(zZ (zD rfl) rfl rfl),trivial⟩),(zH rfl),trivial⟩) rfl (zL (zD rfl) rfl (Nat.le_of_eq rfl) (zO (fun _ _=>rfl) zP) (zL (zD rfl) rfl (Nat.le_of_eq rfl) (zO (fun _ _=>rfl) zP) (zB (zC rfl) rfl rfl (zB (zC rfl) rfl rfl zE))))
     |exact zU hR _ h (fun n=>bif Nat.beq n 3 then 15 else bif Nat.beq n 4 then 399 else n) rfl rfl rfl (zm ⟨(zg ⟨(zR rfl),(zT rfl),trivial⟩),(zg ⟨(yW rfl),(zZ (zD rfl) rfl rfl),trivial⟩),(zH rfl),trivial⟩) rfl (zL (zD rfl) rfl (Nat.le_of_eq rfl) (zO (fun _ _=>rfl) zP) (zY (zD rfl) (zc rfl) (zB (zC rfl) rfl rfl (zB (zC rfl) rfl rfl zE))))
     |exact zU hR _ h (fun n=>bif Nat.beq n 3 then 399 else bif Nat.beq n 4 then 13 else n) rfl rfl rfl (zm ⟨(zg ⟨(zR rfl),(zZ (zD rfl) rfl rfl),trivial⟩),(zg ⟨(yW rfl),(zT rfl),trivial⟩),(zH rfl),trivial⟩) rfl (zY (zD rfl) (zc rfl) (zL (zD rfl) rfl (Nat.le_of_eq rfl) (zO (fun _ _=>rfl) zP) (zB (zC rfl) rfl rfl (zB (zC rfl) rfl rfl zE))))
     |exact zU hR _ h (fun n=>bif Nat.beq n 3 then 15 else bif Nat.beq n 4 then 13 else n) rfl rfl rfl (zm ⟨(zg ⟨(zR rfl),(zZ (zD rfl) rfl rfl),trivial⟩),(zg ⟨(yW rfl),(zZ (zD rfl) rfl rfl),trivial⟩),(zH rfl),trivial⟩) rfl (zL (zD rfl) rfl (Nat.le_of_eq rfl) (zO (fun _ _=>rfl) zP) (zL (zD rfl) rfl (Nat.le_of_eq rfl) (zO (fun _ _=>rfl) zP) (zB (zC rfl) rfl rfl (zB (zC rfl) rfl rfl zE))))
 · intro fA fC x hS hR s h; exact s.elim
end
noncomputable def k29:Con:=⟨85,[.agg [.plain (.bool),.list [.int .i64]],.agg [.plain (.bool),.list [.int .i64]]],w48 (fun n1 ap np mp tp n2 aq nq mq tq=>decide ((ap+np≤mp∧np≤1000000)∧aq+nq≤mq∧nq≤1000000)),w48 (fun n1 ap np mp tp n2 aq nq mq tq=>(V29) (S.fK n1 np (FS tp ap) n2 nq (FS tq aq))),w48 (fun n1 ap np mp tp n2 aq nq mq tq=>(N29) (S.fK n1 np (FS tp ap) n2 nq (FS tq aq))),fun _ _=> .dead⟩
theorem s29 (n1 : Bool) (ap np mp:Nat) (tp:Nat→Int) (n2:Bool) (aq nq mq:Nat) (tq:Nat→Int) (hp:(ap+np≤mp∧np≤1000000)∧aq+nq≤mq∧nq≤1000000):zX ((q29 n1 ap np mp tp n2 aq nq mq tq)) ((p29 n1 ap np mp tp n2 aq nq mq tq)) (((S.fK n1 np (fun j=>tp (j+ap)) n2 nq (fun j=>tq (j+aq))).1,(S.fK n1 np (fun j=>tp (j+ap)) n2 nq (fun j=>tq (j+aq))).2.1,(S.fK n1 np (fun j=>tp (j+ap)) n2 nq (fun j=>tq (j+aq))).2.2.1,(S.fK n1 np (fun j=>tp (j+ap)) n2 nq (fun j=>tq (j+aq))).2.2.2)):=by
 obtain ⟨⟨hp1,hp2⟩,hp3,hp4⟩:=hp
 have d1:ap+np≤mp∧np≤1000000:=⟨hp1,hp2⟩
 have d2:aq+nq≤mq∧nq≤1000000:=⟨hp3,hp4⟩
 unfold S.fK
 by_cases g1:S.fE n1 np (fun j=>tp (j+ap))=true
 · obtain ⟨l1, k1⟩ :=yP g1
   by_cases g2:S.fE n2 nq (fun j=>tq (j+aq))=true
   · obtain ⟨l2, k2⟩:=yP g2
     rw [if_pos ⟨g1,g2⟩]
     by_cases h0:nq=0
     · rw [if_pos h0]
       unfold p29
       simp only [g1,g2,decide_eq_true d1,decide_eq_true d2,cond_true]
       exact zK (by rw [h0]; rfl) (zG.mpr rfl)
     · rw [if_neg h0]
       have up:=yU (zj k1)
       have vp:=ya k2 (by omega)
       have ul:=yF (zj k1) (Nat.le_refl np)
       have vl:=yF (zj k2) (Nat.le_refl nq)
       rw [nS up vp]
       have hq:(ap+np≤mp∧aq+nq≤mq)∧(np≤900∧nq≤900)∧S.fF np (fun j=>tp (j+ap))=true∧S.fF nq (fun j=>tq (j+aq))=true∧0<nq:=⟨⟨hp1,hp3⟩,⟨by omega,by omega⟩,k1,k2,by omega⟩
       have e0:((nq:Int)==0)=false:=by rw [beq_eq_false_iff_ne]; omega
       have m0:=Int.emod_nonneg (S.val np (fun j=>tp (j+ap))) (show (S.val nq (fun j=>tq (j+aq)))≠0 by omega)
       have m1:=Int.emod_lt_of_pos (S.val np (fun j=>tp (j+ap))) vp
       have q0:=Int.ediv_nonneg up (show 0≤(S.val nq (fun j=>tq (j+aq))) by omega)
       have q1:=Int.ediv_le_self (S.val nq (fun j=>tq (j+aq))) up
       have hw:=y4 (k:=np) (m:=80) l1
       obtain ⟨Q,hQ⟩: ∃ Q,(S.val np (fun j=>tp (j+ap))) / (S.val nq (fun j=>tq (j+aq)))=Q:=⟨_,rfl⟩
       obtain ⟨R,hR⟩: ∃ R,(S.val np (fun j=>tp (j+ap))) % (S.val nq (fun j=>tq (j+aq)))=R:=⟨_,rfl⟩
       rw [hQ] at q0 q1
       rw [hR] at m0 m1
       have lq:=z7 (v:=Q) (n:=80) (by omega)
       have lq1:=z7 (v:=Q+1) (n:=81) (by have:S.pw 81=1000000*S.pw 80:=rfl; have:=xJ (k:=80); omega)
       have lr:=z7 (v:=R) (n:=nq) (by omega)
       have lr1:=z7 (v:=(S.val nq (fun j=>tq (j+aq)))-R) (n:=nq+1) (by have:S.pw (nq+1)=1000000*S.pw nq:=rfl; omega)
       have vQ:=z4 q0
       have vR:=z4 m0
       have vQ1:=z4 (v:=Q+1) (by omega)
       have vR1:=z4 (v:=(S.val nq (fun j=>tq (j+aq)))-R) (by omega)
       have a1:(0+(S.fX Q).length≤(S.fX Q).length∧1≤1)∧((S.fX Q).length≤1000∧1≤1000)∧(S.fF (S.fX Q).length fun j=>S.at' (S.fX Q) j)=true∧true=true:=⟨⟨by omega,by omega⟩,⟨by omega,by omega⟩,yH,rfl⟩
       have a2:(aq+nq≤mq∧0+(S.fX R).length≤(S.fX R).length)∧(nq≤1000∧(S.fX R).length≤1000)∧S.fF nq (fun j=>tq (j+aq))=true∧(S.fF (S.fX R).length fun j=>S.at' (S.fX R) j)=true∧R≤(S.val nq (fun j=>tq (j+aq))):=⟨⟨hp3,by omega⟩,⟨by omega,by omega⟩,k2,yH,by omega⟩
       have b1:0+(S.fX Q).length≤(S.fX Q).length∧(S.fX Q).length≤1000000∧(S.fG (S.fX Q).length fun j=>S.at' (S.fX Q) j)=true:=⟨by omega,by omega,zj yH⟩
       have b2:0+(S.fX R).length≤(S.fX R).length∧(S.fX R).length≤1000000∧(S.fG (S.fX R).length fun j=>S.at' (S.fX R) j)=true:=⟨by omega,by omega,zj yH⟩
       have b3:0+(S.fX (Q+1)).length≤(S.fX (Q+1)).length∧(S.fX (Q+1)).length≤1000000∧(S.fG (S.fX (Q+1)).length fun j=>S.at' (S.fX (Q+1)) j)=true:=⟨by omega,by omega,zj yH⟩
       have b4:0+(S.fX ((S.val nq (fun j=>tq (j+aq)))-R)).length≤(S.fX ((S.val nq (fun j=>tq (j+aq)))-R)).length∧(S.fX ((S.val nq (fun j=>tq (j+aq)))-R)).length≤1000000∧(S.fG (S.fX ((S.val nq (fun j=>tq (j+aq)))-R)).length fun j=>S.at' (S.fX ((S.val nq (fun j=>tq (j+aq)))-R)) j)=true:=⟨by omega,by omega,zj yH⟩
       unfold p29
       simp only [-eq_self,g1,g2,decide_eq_true d1,decide_eq_true d2,cond_true,cond_false,e0,decide_eq_true hq,c29_e_0,c29_e_1,c29_e_2,c29_e_3,c29_e_4,c29_e_5,c29_e_6,c29_e_7,c29_e_8,c29_e_9,c29_e_10,c29_e_11,c29_e_12,c29_e_13,c29_e_14,c29_e_15,c29_e_16,c29_e_17,d29_0,d29_1,S.fg,hQ,hR,vQ,vR,decide_eq_true a1,decide_eq_true a2,vQ1,vR1,decide_eq_true b1,decide_eq_true b2,decide_eq_true b3,decide_eq_true b4]
       have hR0:((S.fX R).length:Int)>0↔R>0:=by
        have:= @yy R
        omega
       have key: ∀ (c:Bool) (q r:Int),0≤q→(S.dq n1 (S.val np (fun j=>tp (j+ap))) (S.val nq (fun j=>tq (j+aq)))=q)→S.dr n1 (S.val np (fun j=>tp (j+ap))) (S.val nq (fun j=>tq (j+aq)))=r→(n1 != n2)=c→((if (S.fX (S.dq n1 (S.val np (fun j=>tp (j+ap))) (S.val nq (fun j=>tq (j+aq))))).length>80 then ((false,3,[],[]):Bool×Int×List Int×List Int) else (S.fW (n1 != n2) (S.dq n1 (S.val np (fun j=>tp (j+ap))) (S.val nq (fun j=>tq (j+aq)))),0,S.fX (S.dr n1 (S.val np (fun j=>tp (j+ap))) (S.val nq (fun j=>tq (j+aq)))),S.fX (S.dq n1 (S.val np (fun j=>tp (j+ap))) (S.val nq (fun j=>tq (j+aq)))))))=if (S.fX q).length>80 then (false,3,[],[]) else (S.fW c q,0,S.fX r,S.fX q):=fun c q r h0 h1 h2 h3=>by rw [h1,h2,h3]
       clear hq a1 a2 b1 b2 b3 b4 vQ vR vQ1 vR1 up vp ul vl k1 k2 g1 g2 hw
       cases n1
       · have e1 :S.dq false (S.val np (fun j=>tp (j+ap))) (S.val nq (fun j=>tq (j+aq)))=Q∧S.dr false (S.val np (fun j=>tp (j+ap))) (S.val nq (fun j=>tq (j+aq)))=R:=by
          unfold S.dq S.dr
          simp only [Bool.false_eq_true,false_and,if_false]
          exact ⟨hQ,hR⟩
         cases n2<;>
         (rw [key _ (Q) (R) (by omega) e1.1 e1.2 rfl]
          simp only [cond_true,cond_false]
          repeat' first
            |with_reducible refine zN (fun h=> ?_) (fun h=> ?_)<;>(try simp only [SH] at h)
          all_goals first
            |(exfalso; omega)
            |(rw [if_pos (by omega)]; exact zG.mpr rfl)
            | (rw [if_neg (by omega)]
               refine zG.mpr ?_
               first
                 |rfl
                 |exact congrArg G9 (n7 (q:=Q) (r:=R) (by omega) (by assumption) (by assumption)).symm
                 |exact congrArg G9 (mG (q:=Q) (r:=R) (by omega) (by assumption)).symm
                 |exact congrArg G9 (nk (q:=Q) (r:=R) (by assumption) (by assumption)).symm
                 |exact congrArg G9 (nj (q:=Q) (r:=R) (by assumption)).symm))
       · by_cases hr:R>0
         · have e1 :S.dq true (S.val np (fun j=>tp (j+ap))) (S.val nq (fun j=>tq (j+aq)))=Q+1∧S.dr true (S.val np (fun j=>tp (j+ap))) (S.val nq (fun j=>tq (j+aq)))=(S.val nq (fun j=>tq (j+aq)))-R:=by
            unfold S.dq S.dr
            rw [hR,if_pos ⟨rfl,hr⟩,if_pos ⟨rfl,hr⟩]
            exact ⟨by rw [hQ],rfl⟩
           cases n2<;>
           (rw [key _ (Q+1) ((S.val nq (fun j=>tq (j+aq)))-R) (by omega) e1.1 e1.2 rfl]
            simp only [cond_true,cond_false,decide_eq_true (hR0.mpr hr)]
            repeat' first
              |with_reducible refine zN (fun h=> ?_) (fun h=> ?_)<;>(try simp only [SH] at h)
            all_goals first
              |(exfalso; omega)
              |(rw [if_pos (by omega)]; exact zG.mpr rfl)
              | (rw [if_neg (by omega)]
                 refine zG.mpr ?_
                 first
                   |rfl
                   |exact congrArg G9 (n7 (q:=Q+1) (r:=(S.val nq (fun j=>tq (j+aq)))-R) (by omega) (by assumption) (by assumption)).symm
                   |exact congrArg G9 (mG (q:=Q+1) (r:=(S.val nq (fun j=>tq (j+aq)))-R) (by omega) (by assumption)).symm
                   |exact congrArg G9 (nk (q:=Q+1) (r:=(S.val nq (fun j=>tq (j+aq)))-R) (by assumption) (by assumption)).symm
                   |exact congrArg G9 (nj (q:=Q+1) (r:=(S.val nq (fun j=>tq (j+aq)))-R) (by assumption)).symm))
         · have e1 :S.dq true (S.val np (fun j=>tp (j+ap))) (S.val nq (fun j=>tq (j+aq)))=Q∧S.dr true (S.val np (fun j=>tp (j+ap))) (S.val nq (fun j=>tq (j+aq)))=R:=by
            unfold S.dq S.dr
            rw [hR,if_neg (fun h=>hr h.2),if_neg (fun h=>hr h.2)]
            exact ⟨hQ,rfl⟩
           cases n2<;>
           (rw [key _ (Q) (R) (by omega) e1.1 e1.2 rfl]
            simp only [cond_true,cond_false,decide_eq_false (fun h=>hr (hR0.mp h))]
            repeat' first
              |with_reducible refine zN (fun h=> ?_) (fun h=> ?_)<;>(try simp only [SH] at h)
            all_goals first
              |(exfalso; omega)
              |(rw [if_pos (by omega)]; exact zG.mpr rfl)
              | (rw [if_neg (by omega)]
                 refine zG.mpr ?_
                 first
                   |rfl
                   |exact congrArg G9 (n7 (q:=Q) (r:=R) (by omega) (by assumption) (by assumption)).symm
                   |exact congrArg G9 (mG (q:=Q) (r:=R) (by omega) (by assumption)).symm
                   |exact congrArg G9 (nk (q:=Q) (r:=R) (by assumption) (by assumption)).symm
                   |exact congrArg G9 (nj (q:=Q) (r:=R) (by assumption)).symm))
   · rw [if_neg (fun h=>g2 h.2)]
     have g2:=Bool.not_eq_true _ ▸ g2
     unfold p29
     simp only [cond_true,cond_false,g1,g2,decide_eq_true d1,decide_eq_true d2]
     exact zG.mpr rfl
 · rw [if_neg (fun h=>g1 h.1)]
   have g1:=Bool.not_eq_true _ ▸ g1
   unfold p29
   simp only [cond_true,cond_false,g1,decide_eq_true d1]
   exact zG.mpr rfl
theorem k29_ok:k29.ok Tryz.prog:=by
 intro x hx
 obtain ⟨⟨n1,⟨ap,np,mp,tp,_⟩,_⟩,⟨n2,⟨aq,nq,mq,tq,_⟩,_⟩,_⟩:=x
 obtain ⟨h1,h2⟩:=a29 n1 ap np mp tp n2 aq nq mq tq (s29 n1 ap np mp tp n2 aq nq mq tq (zo hx rfl))
 exact ⟨⟨400,(by decide:2+1+2≤400),h1⟩,h2⟩
section
variable (g9:TT) (fA:KS) (fC:KR) (n1:Bool) (ap np mp:Nat) (tp:NI) (n2:Bool) (aq nq mq:Nat) (tq:NI)
noncomputable abbrev c30_e_0:=S.val (S.fX ((S.val np fun j=>tp (j+ap)) / S.val nq fun j=>tq (j+aq))).length fun j=>S.at' (S.fX ((S.val np fun j=>tp (j+ap)) / S.val nq fun j=>tq (j+aq))) j
noncomputable abbrev c30_e_1:=S.fX ((S.val np fun j=>tp (j+ap)) % S.val nq fun j=>tq (j+aq))
noncomputable abbrev c30_e_2:=decide (0+(S.fX ((S.val np fun j=>tp (j+ap)) % S.val nq fun j=>tq (j+aq))).length≤(S.fX ((S.val np fun j=>tp (j+ap)) % S.val nq fun j=>tq (j+aq))).length∧(S.fX ((S.val np fun j=>tp (j+ap)) % S.val nq fun j=>tq (j+aq))).length≤1000000∧(S.fG (S.fX ((S.val np fun j=>tp (j+ap)) % S.val nq fun j=>tq (j+aq))).length fun j=>S.at' (S.fX ((S.val np fun j=>tp (j+ap)) % S.val nq fun j=>tq (j+aq))) j)=true)
noncomputable abbrev c30_e_3:=S.fX (S.val (S.fX ((S.val nq fun j=>tq (j+aq))-S.val (S.fX ((S.val np fun j=>tp (j+ap)) % S.val nq fun j=>tq (j+aq))).length fun j=>S.at' (S.fX ((S.val np fun j=>tp (j+ap)) % S.val nq fun j=>tq (j+aq))) j)).length fun j=>S.at' (S.fX ((S.val nq fun j=>tq (j+aq))-S.val (S.fX ((S.val np fun j=>tp (j+ap)) % S.val nq fun j=>tq (j+aq))).length fun j=>S.at' (S.fX ((S.val np fun j=>tp (j+ap)) % S.val nq fun j=>tq (j+aq))) j)) j)
noncomputable abbrev c30_e_4:=decide (0+(S.fX ((S.val nq fun j=>tq (j+aq))-S.val (c30_e_1 ap np tp aq nq tq).length fun j=>S.at' (c30_e_1 ap np tp aq nq tq) j)).length≤(S.fX ((S.val nq fun j=>tq (j+aq))-S.val (c30_e_1 ap np tp aq nq tq).length fun j=>S.at' (c30_e_1 ap np tp aq nq tq) j)).length∧(S.fX ((S.val nq fun j=>tq (j+aq))-S.val (c30_e_1 ap np tp aq nq tq).length fun j=>S.at' (c30_e_1 ap np tp aq nq tq) j)).length≤1000000∧(S.fG (S.fX ((S.val nq fun j=>tq (j+aq))-S.val (c30_e_1 ap np tp aq nq tq).length fun j=>S.at' (c30_e_1 ap np tp aq nq tq) j)).length fun j=>S.at' (S.fX ((S.val nq fun j=>tq (j+aq))-S.val (c30_e_1 ap np tp aq nq tq).length fun j=>S.at' (c30_e_1 ap np tp aq nq tq) j)) j)=true)
noncomputable abbrev c30_e_5:=S.val (Prod.fst (S.fg ((S.val (S.fX ((S.val np fun j=>tp (j+ap)) / S.val nq fun j=>tq (j+aq))).length fun j=>S.at' (S.fX ((S.val np fun j=>tp (j+ap)) / S.val nq fun j=>tq (j+aq))) j)+1))) fun j=>S.at' (Prod.snd (S.fg ((S.val (S.fX ((S.val np fun j=>tp (j+ap)) / S.val nq fun j=>tq (j+aq))).length fun j=>S.at' (S.fX ((S.val np fun j=>tp (j+ap)) / S.val nq fun j=>tq (j+aq))) j)+1))) j
noncomputable abbrev c30_e_6:=S.val (S.fX ((S.val nq fun j=>tq (j+aq))-S.val (S.fX ((S.val np fun j=>tp (j+ap)) % S.val nq fun j=>tq (j+aq))).length fun j=>S.at' (c30_e_1 ap np tp aq nq tq) j)).length fun j=>S.at' (S.fX ((S.val nq fun j=>tq (j+aq))-S.val (S.fX ((S.val np fun j=>tp (j+ap)) % S.val nq fun j=>tq (j+aq))).length fun j=>S.at' (c30_e_1 ap np tp aq nq tq) j)) j
noncomputable abbrev c30_e_7:=decide (0+(S.fX ((S.val np fun j=>tp (j+ap)) / S.val nq fun j=>tq (j+aq))).length≤(S.fX ((S.val np fun j=>tp (j+ap)) / S.val nq fun j=>tq (j+aq))).length∧(S.fX ((S.val np fun j=>tp (j+ap)) / S.val nq fun j=>tq (j+aq))).length≤1000000∧(S.fG (S.fX ((S.val np fun j=>tp (j+ap)) / S.val nq fun j=>tq (j+aq))).length fun j=>S.at' (S.fX ((S.val np fun j=>tp (j+ap)) / S.val nq fun j=>tq (j+aq))) j)=true)
noncomputable abbrev c30_e_8:=S.val (c30_e_1 ap np tp aq nq tq).length fun j=>S.at' (c30_e_1 ap np tp aq nq tq) j
noncomputable abbrev c30_e_9:=S.fX (S.val (Prod.fst (S.fg ((S.val (S.fX ((S.val np fun j=>tp (j+ap)) / S.val nq fun j=>tq (j+aq))).length fun j=>S.at' (S.fX ((S.val np fun j=>tp (j+ap)) / S.val nq fun j=>tq (j+aq))) j)+1))) fun j=>S.at' (Prod.snd (S.fg ((S.val (S.fX ((S.val np fun j=>tp (j+ap)) / S.val nq fun j=>tq (j+aq))).length fun j=>S.at' (S.fX ((S.val np fun j=>tp (j+ap)) / S.val nq fun j=>tq (j+aq))) j)+1))) j)
noncomputable abbrev c30_e_10:=([[(1,false,Blk.cols mq [Col.int .i64 tq]),(0,false,Blk.cols mp [Col.int .i64 tp]),(17,true,Blk.cols (S.fX (c30_e_8 ap np tp aq nq tq)).length [Col.int .i64 fun j=>S.at' (S.fX (c30_e_8 ap np tp aq nq tq)) j]),(12,true,Blk.cols (S.fX (c30_e_0 ap np tp aq nq tq)).length [Col.int .i64 fun j=>S.at' (S.fX (c30_e_0 ap np tp aq nq tq)) j])]])
noncomputable abbrev c30_e_11:=decide (0+Prod.fst (S.fg ((c30_e_0 ap np tp aq nq tq)+1))≤(Prod.snd (S.fg ((c30_e_0 ap np tp aq nq tq)+1))).length∧Prod.fst (S.fg ((c30_e_0 ap np tp aq nq tq)+1))≤1000000∧(S.fG (Prod.fst (S.fg ((c30_e_0 ap np tp aq nq tq)+1))) fun j=>S.at' (Prod.snd (S.fg ((c30_e_0 ap np tp aq nq tq)+1))) j)=true)
noncomputable abbrev c30_e_12:=([[(1,false,Blk.cols mq [Col.int .i64 tq]),(0,false,Blk.cols mp [Col.int .i64 tp])]])
noncomputable abbrev c30_e_13:=([[(1,false,Blk.cols mq [Col.int .i64 tq]),(0,false,Blk.cols mp [Col.int .i64 tp]),(17,true,Blk.cols (S.fX (c30_e_8 ap np tp aq nq tq)).length [Col.int .i64 fun j=>S.at' (S.fX (c30_e_8 ap np tp aq nq tq)) j])]])
noncomputable abbrev c30_e_14:=S.val (S.fX ((S.val np fun j=>tp (j+ap)) / S.val nq fun j=>tq (j+aq))).length fun j=>S.at' (S.fX ((S.val np fun j=>tp (j+ap)) / S.val nq fun j=>tq (j+aq))) j
noncomputable abbrev c30_e_15:=S.val (S.fX ((S.val np fun j=>tp (j+ap)) % S.val nq fun j=>tq (j+aq))).length fun j=>S.at' (S.fX ((S.val np fun j=>tp (j+ap)) % S.val nq fun j=>tq (j+aq))) j
noncomputable abbrev c30_e_16:=(PV.tup [PV.agg [PV.tf false,PV.nils],PV.agg [PV.bool (S.fW false (c30_e_8 ap np tp aq nq tq)),PV.own 17 1 (S.fX (c30_e_8 ap np tp aq nq tq)).length],PV.int .i64 (0:Int)])
noncomputable abbrev c30_e_17:=([[(1,false,Blk.cols mq [Col.int .i64 tq]),(0,false,Blk.cols mp [Col.int .i64 tp]),(22,true,Blk.cols (S.fX (c30_e_6 ap np tp aq nq tq)).length [Col.int .i64 fun j=>S.at' (c30_e_3 ap np tp aq nq tq) j]),(17,true,Blk.cols (S.fX (c30_e_5 ap np tp aq nq tq)).length [Col.int .i64 fun j=>S.at' (c30_e_9 ap np tp aq nq tq) j])]])
noncomputable abbrev c30_e_18:=S.val (S.fX ((S.val nq fun j=>tq (j+aq))-S.val (c30_e_1 ap np tp aq nq tq).length fun j=>S.at' (c30_e_1 ap np tp aq nq tq) j)).length fun j=>S.at' (S.fX ((S.val nq fun j=>tq (j+aq))-S.val (c30_e_1 ap np tp aq nq tq).length fun j=>S.at' (c30_e_1 ap np tp aq nq tq) j)) j
noncomputable abbrev c30_e_19:=(PV.tup [PV.agg [PV.bool (S.fW false (c30_e_0 ap np tp aq nq tq)),PV.own 12 1 (S.fX (c30_e_0 ap np tp aq nq tq)).length],PV.agg [PV.bool (S.fW false (c30_e_8 ap np tp aq nq tq)),PV.own 17 1 (S.fX (c30_e_8 ap np tp aq nq tq)).length],PV.int .i64 (0:Int)])
noncomputable abbrev c30_e_20:=(PV.tup [PV.agg [PV.bool (S.fW true (c30_e_0 ap np tp aq nq tq)),PV.own 12 1 (S.fX (c30_e_0 ap np tp aq nq tq)).length],PV.agg [PV.bool (S.fW false (c30_e_8 ap np tp aq nq tq)),PV.own 17 1 (S.fX (c30_e_8 ap np tp aq nq tq)).length],PV.int .i64 (0:Int)])
noncomputable abbrev c30_e_21:=(PV.tup [PV.agg [PV.tf false,PV.nils],PV.agg [PV.tf false,PV.nils],PV.int .i64 (3:Int)])
noncomputable abbrev c30_e_22:=(PV.tup [PV.agg [PV.tf false,PV.nils],PV.agg [PV.tf false,PV.nils],PV.int .i64 (0:Int)])
noncomputable abbrev c30_e_23:=([[(1,false,Blk.cols mq [Col.int .i64 tq]),(0,false,Blk.cols mp [Col.int .i64 tp]),(22,true,Blk.cols (S.fX (c30_e_6 ap np tp aq nq tq)).length [Col.int .i64 fun j=>S.at' (c30_e_3 ap np tp aq nq tq) j])]])
abbrev St30:=Empty
abbrev Rt30:=Bool×Bool×Int×List Int×List Int
noncomputable def V30 (r:Rt30):PV:= .tup [.agg [.bool r.1,.own 4 1 r.2.2.2.2.length],.agg [.bool r.2.1,.own 3 1 r.2.2.2.1.length],.int .i64 r.2.2.1]
noncomputable def N30 (r:Rt30):List Blk:= [CI r.2.2.2.1,CI r.2.2.2.2]
noncomputable def I30:St30→Hd:=fun s=>s.elim
noncomputable def q30 (n1:Bool) (ap np mp:Nat) (tp:NI) (n2:Bool) (aq nq mq:Nat) (tq:NI):St30→Option (St30⊕Rt30):=fun s=>s.elim
noncomputable def p30 (n1:Bool) (ap np mp:Nat) (tp:NI) (n2:Bool) (aq nq mq:Nat) (tq:NI):Option (St30⊕Rt30):=bif (decide (ap+np≤mp∧np≤1000000)) then (bif (S.fE n1 np fun j=>tp (j+ap)) then (bif (decide (aq+nq≤mq∧nq≤1000000)) then (bif (S.fE n2 nq fun j=>tq (j+aq)) then (bif ((nq:Int)==0) then (some (.inr (false,false,(13:Int),[],[]))) else (bif (decide ((ap+np≤mp∧aq+nq≤mq)∧(np≤900∧nq≤900)∧(S.fF np fun j=>tp (j+ap))=true∧(S.fF nq fun j=>tq (j+aq))=true∧0<nq)) then (bif n1 then (bif (decide ((↑((S.fX ((S.val np fun j=>tp (j+ap)) % S.val nq fun j=>tq (j+aq))).length):Int)>0)) then (bif (decide ((0+(S.fX ((S.val np fun j=>tp (j+ap)) / S.val nq fun j=>tq (j+aq))).length≤(S.fX ((S.val np fun j=>tp (j+ap)) / S.val nq fun j=>tq (j+aq))).length∧1≤1)∧((S.fX ((S.val np fun j=>tp (j+ap)) / S.val nq fun j=>tq (j+aq))).length≤1000∧1≤1000)∧(S.fF (S.fX ((S.val np fun j=>tp (j+ap)) / S.val nq fun j=>tq (j+aq))).length fun j=>S.at' (S.fX ((S.val np fun j=>tp (j+ap)) / S.val nq fun j=>tq (j+aq))) j)=true∧true=true)) then (bif (decide ((aq+nq≤mq∧0+(c30_e_1 ap np tp aq nq tq).length≤(S.fX ((S.val np fun j=>tp (j+ap)) % S.val nq fun j=>tq (j+aq))).length)∧(nq≤1000∧(c30_e_1 ap np tp aq nq tq).length≤1000)∧(S.fF nq fun j=>tq (j+aq))=true∧(S.fF (c30_e_1 ap np tp aq nq tq).length fun j=>S.at' (c30_e_1 ap np tp aq nq tq) j)=true∧(c30_e_8 ap np tp aq nq tq)≤S.val nq fun j=>tq (j+aq))) then (bif n2 then (bif (c30_e_11 ap np tp aq nq tq) then (bif (decide ((↑((S.fX (c30_e_5 ap np tp aq nq tq)).length):Int)>80)) then (some (.inr (false,false,(3:Int),[],[]))) else (bif (c30_e_4 ap np tp aq nq tq) then (some (.inr (S.fW false (S.val (Prod.fst (S.fg ((c30_e_0 ap np tp aq nq tq)+1))) fun j=>S.at' (Prod.snd (S.fg ((c30_e_0 ap np tp aq nq tq)+1))) j),S.fW false (c30_e_18 ap np tp aq nq tq),(0:Int),S.fX (c30_e_18 ap np tp aq nq tq),S.fX (S.val (Prod.fst (S.fg ((c30_e_0 ap np tp aq nq tq)+1))) fun j=>S.at' (Prod.snd (S.fg ((c30_e_0 ap np tp aq nq tq)+1))) j)))) else none)) else none) else (bif (c30_e_11 ap np tp aq nq tq) then (bif (decide ((↑((S.fX (c30_e_5 ap np tp aq nq tq)).length):Int)>80)) then (some (.inr (false,false,(3:Int),[],[]))) else (bif (c30_e_4 ap np tp aq nq tq) then (some (.inr (S.fW true (S.val (Prod.fst (S.fg ((c30_e_0 ap np tp aq nq tq)+1))) fun j=>S.at' (Prod.snd (S.fg ((c30_e_0 ap np tp aq nq tq)+1))) j),S.fW false (c30_e_18 ap np tp aq nq tq),(0:Int),S.fX (c30_e_18 ap np tp aq nq tq),S.fX (S.val (Prod.fst (S.fg ((c30_e_0 ap np tp aq nq tq)+1))) fun j=>S.at' (Prod.snd (S.fg ((c30_e_0 ap np tp aq nq tq)+1))) j)))) else none)) else none)) else none) else none) else (bif n2 then (bif (c30_e_7 ap np tp aq nq tq) then (bif (decide ((↑((S.fX (c30_e_0 ap np tp aq nq tq)).length):Int)>80)) then (some (.inr (false,false,(3:Int),[],[]))) else (bif (c30_e_2 ap np tp aq nq tq) then (some (.inr (S.fW false (c30_e_14 ap np tp aq nq tq),S.fW false (c30_e_15 ap np tp aq nq tq),(0:Int),S.fX (c30_e_15 ap np tp aq nq tq),S.fX (c30_e_14 ap np tp aq nq tq)))) else none)) else none) else (bif (c30_e_7 ap np tp aq nq tq) then (bif (decide ((↑((S.fX (c30_e_0 ap np tp aq nq tq)).length):Int)>80)) then (some (.inr (false,false,(3:Int),[],[]))) else (bif (c30_e_2 ap np tp aq nq tq) then (some (.inr (S.fW true (c30_e_14 ap np tp aq nq tq),S.fW false (c30_e_15 ap np tp aq nq tq),(0:Int),S.fX (c30_e_15 ap np tp aq nq tq),S.fX (c30_e_14 ap np tp aq nq tq)))) else none)) else none))) else (bif n2 then (bif (c30_e_7 ap np tp aq nq tq) then (bif (decide ((↑((S.fX (c30_e_0 ap np tp aq nq tq)).length):Int)>80)) then (some (.inr (false,false,(3:Int),[],[]))) else (bif (c30_e_2 ap np tp aq nq tq) then (some (.inr (S.fW true (c30_e_14 ap np tp aq nq tq),S.fW false (c30_e_15 ap np tp aq nq tq),(0:Int),S.fX (c30_e_15 ap np tp aq nq tq),S.fX (c30_e_14 ap np tp aq nq tq)))) else none)) else none) else (bif (c30_e_7 ap np tp aq nq tq) then (bif (decide ((↑((S.fX (c30_e_0 ap np tp aq nq tq)).length):Int)>80)) then (some (.inr (false,false,(3:Int),[],[]))) else (bif (c30_e_2 ap np tp aq nq tq) then (some (.inr (S.fW false (c30_e_14 ap np tp aq nq tq),S.fW false (c30_e_15 ap np tp aq nq tq),(0:Int),S.fX (c30_e_15 ap np tp aq nq tq),S.fX (c30_e_14 ap np tp aq nq tq)))) else none)) else none))) else none)) else (some (.inr (false,false,(1:Int),[],[])))) else none) else (some (.inr (false,false,(1:Int),[],[])))) else none
noncomputable abbrev g30_4:Prop:=(g9 (c30_e_7 ap np tp aq nq tq) (g9 (decide ((↑((S.fX (c30_e_0 ap np tp aq nq tq)).length):Int)>80)) (g9 true (fC c30_e_21 (c30_e_12 mp tp mq tq) 16) (g9 (c30_e_2 ap np tp aq nq tq) (fC (c30_e_16 ap np tp aq nq tq) (c30_e_13 ap np mp tp aq nq mq tq) 18) False)) (g9 false (fC c30_e_22 (c30_e_12 mp tp mq tq) 16) (g9 (c30_e_2 ap np tp aq nq tq) (fC (c30_e_19 ap np tp aq nq tq) (c30_e_10 ap np mp tp aq nq mq tq) 18) False))) False)
noncomputable abbrev g30_3:Prop:=(g9 (c30_e_7 ap np tp aq nq tq) (g9 (decide ((↑((S.fX (c30_e_0 ap np tp aq nq tq)).length):Int)>80)) (g9 true (fC c30_e_21 (c30_e_12 mp tp mq tq) 16) (g9 (c30_e_2 ap np tp aq nq tq) (fC (c30_e_16 ap np tp aq nq tq) (c30_e_13 ap np mp tp aq nq mq tq) 18) False)) (g9 false (fC c30_e_22 (c30_e_12 mp tp mq tq) 16) (g9 (c30_e_2 ap np tp aq nq tq) (fC (c30_e_20 ap np tp aq nq tq) (c30_e_10 ap np mp tp aq nq mq tq) 18) False))) False)
noncomputable abbrev g30_0:Prop:=(g9 n1 (g9 n2 (g30_4 g9 fC ap np mp tp aq nq mq tq) (g30_3 g9 fC ap np mp tp aq nq mq tq)) (g9 n2 (g30_3 g9 fC ap np mp tp aq nq mq tq) (g30_4 g9 fC ap np mp tp aq nq mq tq)))
noncomputable abbrev g30_1:Prop:=(g9 (c30_e_11 ap np tp aq nq tq) (g9 (decide ((↑((S.fX (c30_e_5 ap np tp aq nq tq)).length):Int)>80)) (g9 true (fC c30_e_21 (c30_e_12 mp tp mq tq) 21) (g9 (c30_e_4 ap np tp aq nq tq) (fC (PV.tup [PV.agg [PV.tf false,PV.nils],PV.agg [PV.bool (S.fW false (c30_e_6 ap np tp aq nq tq)),PV.own 22 1 (c30_e_3 ap np tp aq nq tq).length],PV.int .i64 (0:Int)]) (c30_e_23 ap np mp tp aq nq mq tq) 23) False)) (g9 false (fC c30_e_22 (c30_e_12 mp tp mq tq) 21) (g9 (c30_e_4 ap np tp aq nq tq) (fC (PV.tup [PV.agg [PV.bool (S.fW false (c30_e_5 ap np tp aq nq tq)),PV.own 17 1 (c30_e_9 ap np tp aq nq tq).length],PV.agg [PV.bool (S.fW false (c30_e_6 ap np tp aq nq tq)),PV.own 22 1 (c30_e_3 ap np tp aq nq tq).length],PV.int .i64 (0:Int)]) (c30_e_17 ap np mp tp aq nq mq tq) 23) False))) False)
noncomputable abbrev g30_2:Prop:=(g9 (c30_e_11 ap np tp aq nq tq) (g9 (decide ((↑((S.fX (c30_e_5 ap np tp aq nq tq)).length):Int)>80)) (g9 true (fC c30_e_21 (c30_e_12 mp tp mq tq) 21) (g9 (c30_e_4 ap np tp aq nq tq) (fC (PV.tup [PV.agg [PV.tf false,PV.nils],PV.agg [PV.bool (S.fW false (c30_e_6 ap np tp aq nq tq)),PV.own 22 1 (c30_e_3 ap np tp aq nq tq).length],PV.int .i64 (0:Int)]) (c30_e_23 ap np mp tp aq nq mq tq) 23) False)) (g9 false (fC c30_e_22 (c30_e_12 mp tp mq tq) 21) (g9 (c30_e_4 ap np tp aq nq tq) (fC (PV.tup [PV.agg [PV.bool (S.fW true (c30_e_5 ap np tp aq nq tq)),PV.own 17 1 (c30_e_9 ap np tp aq nq tq).length],PV.agg [PV.bool (S.fW false (c30_e_6 ap np tp aq nq tq)),PV.own 22 1 (c30_e_3 ap np tp aq nq tq).length],PV.int .i64 (0:Int)]) (c30_e_17 ap np mp tp aq nq mq tq) 23) False))) False)
def Te30:Prop:=g9 (decide (ap+np≤mp∧np≤1000000)) (g9 (S.fE n1 np (FS tp ap)) (g9 (decide (aq+nq≤mq∧nq≤1000000)) (g9 (S.fE n2 nq (FS tq aq)) (g9 ((nq:Int)==0) (fC (.tup [.agg [.tf false,.nils],.agg [.tf false,.nils],.int .i64 13]) (c30_e_12 mp tp mq tq) 8) (g9 (decide ((ap+np≤mp∧aq+nq≤mq)∧(np≤900∧nq≤900)∧(S.fF np (FS tp ap))=true∧(S.fF nq (FS tq aq))=true∧0<nq)) (g9 n1 (g9 (decide ((↑((S.fX ((S.val np (FS tp ap)) % S.val nq (FS tq aq))).length):Int)>0)) (g9 (decide ((0+(S.fX ((S.val np (FS tp ap)) / S.val nq (FS tq aq))).length≤(S.fX ((S.val np (FS tp ap)) / S.val nq (FS tq aq))).length∧1≤1)∧((S.fX ((S.val np (FS tp ap)) / S.val nq (FS tq aq))).length≤1000∧1≤1000)∧(S.fF (S.fX ((S.val np (FS tp ap)) / S.val nq (FS tq aq))).length fun j=>S.at' (S.fX ((S.val np (FS tp ap)) / S.val nq (FS tq aq))) j)=true∧true=true)) (g9 (decide ((aq+nq≤mq∧0+(c30_e_1 ap np tp aq nq tq).length≤(S.fX ((S.val np (FS tp ap)) % S.val nq (FS tq aq))).length)∧(nq≤1000∧(c30_e_1 ap np tp aq nq tq).length≤1000)∧(S.fF nq (FS tq aq))=true∧(S.fF (c30_e_1 ap np tp aq nq tq).length fun j=>S.at' (c30_e_1 ap np tp aq nq tq) j)=true∧(c30_e_8 ap np tp aq nq tq)≤S.val nq (FS tq aq))) (g9 n1 (g9 n2 (g30_1 g9 fC ap np mp tp aq nq mq tq) (g30_2 g9 fC ap np mp tp aq nq mq tq)) (g9 n2 (g30_2 g9 fC ap np mp tp aq nq mq tq) (g30_1 g9 fC ap np mp tp aq nq mq tq))) False) False) (g30_0 g9 fC n1 ap np mp tp n2 aq nq mq tq)) (g30_0 g9 fC n1 ap np mp tp n2 aq nq mq tq)) False)) (fC (.tup [.agg [.tf false,.nils],.agg [.tf false,.nils],.int .i64 1]) (c30_e_12 mp tp mq tq) 8)) False) (fC (.tup [.agg [.tf false,.nils],.agg [.tf false,.nils],.int .i64 1]) (c30_e_12 mp tp mq tq) 7)) False
theorem te30:run g9 Tryz.env true (xG2 g9) true 400 ⟨86,[.cd (zS Tryz.f86).body],yD 0 [.agg [.bool n1,.loose ⟨0,1,ap,0⟩ np],.agg [.bool n2,.loose ⟨1,1,aq,0⟩ nq]],[[],[(0,(false,CB mp tp)),(1,(false,CB mq tq))]],2⟩ (zq 2 [] fA fC)=
 Te30 g9 fC n1 ap np mp tp n2 aq nq mq tq:=by kernel_rfl
noncomputable abbrev J30:Rt30→zQ:=fun r=> [yJ (2+1) ((N30) r)++ [(0,(false,CB mp tp)),(1,(false,CB mq tq))]]
attribute [local irreducible] Int.subNatNat in
theorem a30 {r:Rt30} (h:zX ((q30 n1 ap np mp tp n2 aq nq mq tq)) ((p30 n1 ap np mp tp n2 aq nq mq tq)) r):zn Tryz.prog 86 [.agg [.bool n1,.loose ⟨0,1,ap,0⟩ np],.agg [.bool n2,.loose ⟨1,1,aq,0⟩ nq]] [[(0,(false,CB mp tp)),(1,(false,CB mq tq))]] 2 ((V30) r) ((J30 mp tp mq tq) r) 400∧HB Tryz.prog 86:=by
 refine zf Tryz.envOk Tryz.mixed qT ((I30)) ((V30)) (J30 mp tp mq tq) (fn:=zS Tryz.f86) (ts:= []) (n:=400) rfl (by decide) (by simp) (zV rfl) ?_ ?_ ?_ h
 · intro s; exact s.elim
 · intro fA fC x hS hR h
   refine Holds.eq (te30 cond fA fC n1 ap np mp tp n2 aq nq mq tq) ?_
   unfold Te30
   unfold p30 at h
   refine zA h (fun c0 h=>zA h (fun c1 h=>zA h (fun c2 h=>zA h (fun c3 h=>zA h (fun c4 h=> ?_) (fun c4 h=>zA h (fun c5 h=>zA h (fun c6 h=>zA h (fun c7 h=>zA h (fun c8 h=>zA h (fun c9 h=>zJ c6 (zA h (fun c10 h=>zA h (fun c11 h=>zA h (fun c12 h=>zJ rfl (zU hR _ h (fun n=>bif Nat.beq n 3 then 399 else bif Nat.beq n 4 then 398 else n) rfl rfl rfl (zm ⟨(zg ⟨(zR rfl),(zT rfl),trivial⟩),(zg ⟨(zR rfl),(zT rfl),trivial⟩),(zH rfl),trivial⟩) rfl (zY (zD rfl) (zc rfl) (zY (zD rfl) (zc rfl) (zB (zC rfl) rfl rfl (zB (zC rfl) rfl rfl zE)))))) (fun c12 h=>za rfl (zA h (fun c13 h=> ?_) (fun c13 h=> ?_)))) (fun c11 h=> ?_)) (fun c10 h=>zA h (fun c11 h=>zA h (fun c12 h=>zJ rfl (zU hR _ h (fun n=>bif Nat.beq n 3 then 399 else bif Nat.beq n 4 then 398 else n) rfl rfl rfl (zm ⟨(zg ⟨(zR rfl),(zT rfl),trivial⟩),(zg ⟨(zR rfl),(zT rfl),trivial⟩),(zH rfl),trivial⟩) rfl (zY (zD rfl) (zc rfl) (zY (zD rfl) (zc rfl) (zB (zC rfl) rfl rfl (zB (zC rfl) rfl rfl zE)))))) (fun c12 h=>za rfl (zA h (fun c13 h=> ?_) (fun c13 h=> ?_)))) (fun c11 h=> ?_)))) (fun c9 h=> ?_)) (fun c8 h=> ?_)) (fun c7 h=>zJ c6 (zA h (fun c8 h=>zA h (fun c9 h=>zA h (fun c10 h=>zJ rfl (zU hR _ h (fun n=>bif Nat.beq n 3 then 399 else bif Nat.beq n 4 then 398 else n) rfl rfl rfl (zm ⟨(zg ⟨(zR rfl),(zT rfl),trivial⟩),(zg ⟨(zR rfl),(zT rfl),trivial⟩),(zH rfl),trivial⟩) rfl (zY (zD rfl) (zc rfl) (zY (zD rfl) (zc rfl) (zB (zC rfl) rfl rfl (zB (zC rfl) rfl rfl zE)))))) (fun c10 h=>za rfl (zA h (fun c11 h=> ?_) (fun c11 h=> ?_)))) (fun c9 h=> ?_)) (fun c8 h=>zA h (fun c9 h=>zA h (fun c10 h=>zJ rfl (zU hR _ h (fun n=>bif Nat.beq n 3 then 399 else bif Nat.beq n 4 then 398 else n) rfl rfl rfl (zm ⟨(zg ⟨(zR rfl),(zT rfl),trivial⟩),(zg ⟨(zR rfl),(zT rfl),trivial⟩),(zH rfl),trivial⟩) rfl (zY (zD rfl) (zc rfl) (zY (zD rfl) (zc rfl) (zB (zC rfl) rfl rfl (zB (zC rfl) rfl rfl zE)))))) (fun c10 h=>za rfl (zA h (fun c11 h=> ?_) (fun c11 h=> ?_)))) (fun c9 h=> ?_))))) (fun c6 h=>za c6 (zA h (fun c7 h=>zA h (fun c8 h=>zA h (fun c9 h=>zJ rfl (zU hR _ h (fun n=>bif Nat.beq n 3 then 399 else bif Nat.beq n 4 then 398 else n) rfl rfl rfl (zm ⟨(zg ⟨(zR rfl),(zT rfl),trivial⟩),(zg ⟨(zR rfl),(zT rfl),trivial⟩),(zH rfl),trivial⟩) rfl (zY (zD rfl) (zc rfl) (zY (zD rfl) (zc rfl) (zB (zC rfl) rfl rfl (zB (zC rfl) rfl rfl zE)))))) (fun c9 h=>za rfl (zA h (fun c10 h=> ?_) (fun c10 h=> ?_)))) (fun c8 h=> ?_)) (fun c7 h=>zA h (fun c8 h=>zA h (fun c9 h=>zJ rfl (zU hR _ h (fun n=>bif Nat.beq n 3 then 399 else bif Nat.beq n 4 then 398 else n) rfl rfl rfl (zm ⟨(zg ⟨(zR rfl),(zT rfl),trivial⟩),(zg ⟨(zR rfl),(zT rfl),trivial⟩),(zH rfl),trivial⟩) rfl (zY (zD rfl) (zc rfl) (zY (zD rfl) (zc rfl) (zB (zC rfl) rfl rfl (zB (zC rfl) rfl rfl zE)))))) (fun c9 h=>za rfl (zA h (fun c10 h=> ?_) (fun c10 h=> ?_)))) (fun c8 h=> ?_))))) (fun c5 h=> ?_))) (fun c3 h=> ?_)) (fun c2 h=> ?_)) (fun c1 h=> ?_)) (fun c0 h=> ?_)
   all_goals first
     |exact zF h
     |exact zU hR _ h (fun n=>bif Nat.beq n 3 then 17 else bif Nat.beq n 4 then 12 else n) rfl rfl rfl (zm ⟨(zg ⟨(zu rfl),(zZ (zD rfl) rfl rfl),trivial⟩),(zg ⟨(zu rfl),(zZ (zD rfl) rfl rfl),trivial⟩),(zH rfl),trivial⟩) rfl (zL (zD rfl) rfl (Nat.le_of_eq rfl) (zO (fun _ _=>rfl) zP) (zL (zD rfl) rfl (Nat.le_of_eq rfl) (zO (fun _ _=>rfl) zP) (zB (zC rfl) rfl rfl (zB (zC rfl) rfl rfl zE))))
     |exact zU hR _ h (fun n=>bif Nat.beq n 3 then 399 else bif Nat.beq n 4 then 398 else n) rfl rfl rfl (zm ⟨(zg ⟨(zR rfl),(zT rfl),trivial⟩),(zg ⟨(zR rfl),(zT rfl),trivial⟩),(zH rfl),trivial⟩) rfl (zY (zD rfl) (zc rfl) (zY (zD rfl) (zc rfl) (zB (zC rfl) rfl rfl (zB (zC rfl) rfl rfl zE))))
     |exact zU hR _ h (fun n=>bif Nat.beq n 3 then 22 else bif Nat.beq n 4 then 17 else n) rfl rfl rfl (zm ⟨(zg ⟨(zu rfl),(zZ (zD rfl) rfl rfl),trivial⟩),(zg ⟨(zu rfl),(zZ (zD rfl) rfl rfl),trivial⟩),(zH rfl),trivial⟩) rfl (zL (zD rfl) rfl (Nat.le_of_eq rfl) (zO (fun _ _=>rfl) zP) (zL (zD rfl) rfl (Nat.le_of_eq rfl) (zO (fun _ _=>rfl) zP) (zB (zC rfl) rfl rfl (zB (zC rfl) rfl rfl zE))))
 · intro fA fC x hS hR s h; exact s.elim
end
noncomputable def k30:Con:=⟨86,[.agg [.plain (.bool),.list [.int .i64]],.agg [.plain (.bool),.list [.int .i64]]],w48 (fun n1 ap np mp tp n2 aq nq mq tq=>decide ((ap+np≤mp∧np≤1000000)∧aq+nq≤mq∧nq≤1000000)),w48 (fun n1 ap np mp tp n2 aq nq mq tq=>(V30) ((S.fK n1 np (FS tp ap) n2 nq (FS tq aq)).1,false,(S.fK n1 np (FS tp ap) n2 nq (FS tq aq)).2.1,(S.fK n1 np (FS tp ap) n2 nq (FS tq aq)).2.2.1,(S.fK n1 np (FS tp ap) n2 nq (FS tq aq)).2.2.2)),w48 (fun n1 ap np mp tp n2 aq nq mq tq=>(N30) ((S.fK n1 np (FS tp ap) n2 nq (FS tq aq)).1,false,(S.fK n1 np (FS tp ap) n2 nq (FS tq aq)).2.1,(S.fK n1 np (FS tp ap) n2 nq (FS tq aq)).2.2.1,(S.fK n1 np (FS tp ap) n2 nq (FS tq aq)).2.2.2)),fun _ _=> .dead⟩
theorem s30 (n1 : Bool) (ap np mp:Nat) (tp:Nat→Int) (n2:Bool) (aq nq mq:Nat) (tq:Nat→Int) (hp:(ap+np≤mp∧np≤1000000)∧aq+nq≤mq∧nq≤1000000):zX ((q30 n1 ap np mp tp n2 aq nq mq tq)) ((p30 n1 ap np mp tp n2 aq nq mq tq)) (((S.fK n1 np (fun j=>tp (j+ap)) n2 nq (fun j=>tq (j+aq))).1,false,(S.fK n1 np (fun j=>tp (j+ap)) n2 nq (fun j=>tq (j+aq))).2.1,(S.fK n1 np (fun j=>tp (j+ap)) n2 nq (fun j=>tq (j+aq))).2.2.1,(S.fK n1 np (fun j=>tp (j+ap)) n2 nq (fun j=>tq (j+aq))).2.2.2)):=by
 obtain ⟨⟨hp1,hp2⟩,hp3,hp4⟩:=hp
 have d1:ap+np≤mp∧np≤1000000:=⟨hp1,hp2⟩
 have d2:aq+nq≤mq∧nq≤1000000:=⟨hp3,hp4⟩
 unfold S.fK
 by_cases g1:S.fE n1 np (fun j=>tp (j+ap))=true
 · obtain ⟨l1, k1⟩ :=yP g1
   by_cases g2:S.fE n2 nq (fun j=>tq (j+aq))=true
   · obtain ⟨l2, k2⟩:=yP g2
     rw [if_pos ⟨g1,g2⟩]
     by_cases h0:nq=0
     · rw [if_pos h0]
       unfold p30
       simp only [g1,g2,decide_eq_true d1,decide_eq_true d2,cond_true]
       exact zK (by rw [h0]; rfl) (zG.mpr rfl)
     · rw [if_neg h0]
       have up:=yU (zj k1)
       have vp:=ya k2 (by omega)
       have ul:=yF (zj k1) (Nat.le_refl np)
       have vl:=yF (zj k2) (Nat.le_refl nq)
       rw [nS up vp]
       have hq:(ap+np≤mp∧aq+nq≤mq)∧(np≤900∧nq≤900)∧S.fF np (fun j=>tp (j+ap))=true∧S.fF nq (fun j=>tq (j+aq))=true∧0<nq:=⟨⟨hp1,hp3⟩,⟨by omega,by omega⟩,k1,k2,by omega⟩
       have e0:((nq:Int)==0)=false:=by rw [beq_eq_false_iff_ne]; omega
       have m0:=Int.emod_nonneg (S.val np (fun j=>tp (j+ap))) (show (S.val nq (fun j=>tq (j+aq)))≠0 by omega)
       have m1:=Int.emod_lt_of_pos (S.val np (fun j=>tp (j+ap))) vp
       have q0:=Int.ediv_nonneg up (show 0≤(S.val nq (fun j=>tq (j+aq))) by omega)
       have q1:=Int.ediv_le_self (S.val nq (fun j=>tq (j+aq))) up
       have hw:=y4 (k:=np) (m:=80) l1
       obtain ⟨Q,hQ⟩: ∃ Q,(S.val np (fun j=>tp (j+ap))) / (S.val nq (fun j=>tq (j+aq)))=Q:=⟨_,rfl⟩
       obtain ⟨R,hR⟩: ∃ R,(S.val np (fun j=>tp (j+ap))) % (S.val nq (fun j=>tq (j+aq)))=R:=⟨_,rfl⟩
       rw [hQ] at q0 q1
       rw [hR] at m0 m1
       have lq:=z7 (v:=Q) (n:=80) (by omega)
       have lq1:=z7 (v:=Q+1) (n:=81) (by have:S.pw 81=1000000*S.pw 80:=rfl; have:=xJ (k:=80); omega)
       have lr:=z7 (v:=R) (n:=nq) (by omega)
       have lr1:=z7 (v:=(S.val nq (fun j=>tq (j+aq)))-R) (n:=nq+1) (by have:S.pw (nq+1)=1000000*S.pw nq:=rfl; omega)
       have vQ:=z4 q0
       have vR:=z4 m0
       have vQ1:=z4 (v:=Q+1) (by omega)
       have vR1:=z4 (v:=(S.val nq (fun j=>tq (j+aq)))-R) (by omega)
       have a1:(0+(S.fX Q).length≤(S.fX Q).length∧1≤1)∧((S.fX Q).length≤1000∧1≤1000)∧(S.fF (S.fX Q).length fun j=>S.at' (S.fX Q) j)=true∧true=true:=⟨⟨by omega,by omega⟩,⟨by omega,by omega⟩,yH,rfl⟩
       have a2:(aq+nq≤mq∧0+(S.fX R).length≤(S.fX R).length)∧(nq≤1000∧(S.fX R).length≤1000)∧S.fF nq (fun j=>tq (j+aq))=true∧(S.fF (S.fX R).length fun j=>S.at' (S.fX R) j)=true∧R≤(S.val nq (fun j=>tq (j+aq))):=⟨⟨hp3,by omega⟩,⟨by omega,by omega⟩,k2,yH,by omega⟩
       have b1:0+(S.fX Q).length≤(S.fX Q).length∧(S.fX Q).length≤1000000∧(S.fG (S.fX Q).length fun j=>S.at' (S.fX Q) j)=true:=⟨by omega,by omega,zj yH⟩
       have b2:0+(S.fX R).length≤(S.fX R).length∧(S.fX R).length≤1000000∧(S.fG (S.fX R).length fun j=>S.at' (S.fX R) j)=true:=⟨by omega,by omega,zj yH⟩
       have b3:0+(S.fX (Q+1)).length≤(S.fX (Q+1)).length∧(S.fX (Q+1)).length≤1000000∧(S.fG (S.fX (Q+1)).length fun j=>S.at' (S.fX (Q+1)) j)=true:=⟨by omega,by omega,zj yH⟩
       have b4:0+(S.fX ((S.val nq (fun j=>tq (j+aq)))-R)).length≤(S.fX ((S.val nq (fun j=>tq (j+aq)))-R)).length∧(S.fX ((S.val nq (fun j=>tq (j+aq)))-R)).length≤1000000∧(S.fG (S.fX ((S.val nq (fun j=>tq (j+aq)))-R)).length fun j=>S.at' (S.fX ((S.val nq (fun j=>tq (j+aq)))-R)) j)=true:=⟨by omega,by omega,zj yH⟩
       unfold p30
       simp only [-eq_self,g1,g2,decide_eq_true d1,decide_eq_true d2,cond_true,cond_false,e0,decide_eq_true hq,c30_e_0,c30_e_1,c30_e_2,c30_e_3,c30_e_4,c30_e_5,c30_e_6,c30_e_7,c30_e_8,c30_e_9,c30_e_10,c30_e_11,c30_e_12,c30_e_13,c30_e_14,c30_e_15,c30_e_16,c30_e_17,c30_e_18,c30_e_19,c30_e_20,c30_e_21,c30_e_22,c30_e_23,S.fg,hQ,hR,vQ,vR,decide_eq_true a1,decide_eq_true a2,vQ1,vR1,decide_eq_true b1,decide_eq_true b2,decide_eq_true b3,decide_eq_true b4]
       have hR0:((S.fX R).length:Int)>0↔R>0:=by
        have:= @yy R
        omega
       have key: ∀ (c:Bool) (q r:Int),0≤q→(S.dq n1 (S.val np (fun j=>tp (j+ap))) (S.val nq (fun j=>tq (j+aq)))=q)→S.dr n1 (S.val np (fun j=>tp (j+ap))) (S.val nq (fun j=>tq (j+aq)))=r→(n1 != n2)=c→((if (S.fX (S.dq n1 (S.val np (fun j=>tp (j+ap))) (S.val nq (fun j=>tq (j+aq))))).length>80 then ((false,3,[],[]):Bool×Int×List Int×List Int) else (S.fW (n1 != n2) (S.dq n1 (S.val np (fun j=>tp (j+ap))) (S.val nq (fun j=>tq (j+aq)))),0,S.fX (S.dr n1 (S.val np (fun j=>tp (j+ap))) (S.val nq (fun j=>tq (j+aq)))),S.fX (S.dq n1 (S.val np (fun j=>tp (j+ap))) (S.val nq (fun j=>tq (j+aq)))))))=if (S.fX q).length>80 then (false,3,[],[]) else (S.fW c q,0,S.fX r,S.fX q):=fun c q r h0 h1 h2 h3=>by rw [h1,h2,h3]
       clear hq a1 a2 b1 b2 b3 b4 vQ vR vQ1 vR1 up vp ul vl k1 k2 g1 g2 hw
       cases n1
       · have e1 :S.dq false (S.val np (fun j=>tp (j+ap))) (S.val nq (fun j=>tq (j+aq)))=Q∧S.dr false (S.val np (fun j=>tp (j+ap))) (S.val nq (fun j=>tq (j+aq)))=R:=by
          unfold S.dq S.dr
          simp only [Bool.false_eq_true,false_and,if_false]
          exact ⟨hQ,hR⟩
         cases n2<;>
         (rw [key _ (Q) (R) (by omega) e1.1 e1.2 rfl]
          simp only [cond_true,cond_false]
          repeat' first
            |with_reducible refine zN (fun h=> ?_) (fun h=> ?_)<;>(try simp only [SH] at h)
          all_goals first
            |(exfalso; omega)
            |(rw [if_pos (by omega)]; exact zG.mpr rfl)
            | (rw [if_neg (by omega)]
               refine zG.mpr ?_
               first
                 |rfl
                 |exact congrArg G0 (n7 (q:=Q) (r:=R) (by omega) (by assumption) (by assumption)).symm
                 |exact congrArg G0 (mG (q:=Q) (r:=R) (by omega) (by assumption)).symm
                 |exact congrArg G0 (nk (q:=Q) (r:=R) (by assumption) (by assumption)).symm
                 |exact congrArg G0 (nj (q:=Q) (r:=R) (by assumption)).symm))
       · by_cases hr:R>0
         · have e1 :S.dq true (S.val np (fun j=>tp (j+ap))) (S.val nq (fun j=>tq (j+aq)))=Q+1∧S.dr true (S.val np (fun j=>tp (j+ap))) (S.val nq (fun j=>tq (j+aq)))=(S.val nq (fun j=>tq (j+aq)))-R:=by
            unfold S.dq S.dr
            rw [hR,if_pos ⟨rfl,hr⟩,if_pos ⟨rfl,hr⟩]
            exact ⟨by rw [hQ],rfl⟩
           cases n2<;>
           (rw [key _ (Q+1) ((S.val nq (fun j=>tq (j+aq)))-R) (by omega) e1.1 e1.2 rfl]
            simp only [cond_true,cond_false,decide_eq_true (hR0.mpr hr)]
            repeat' first
              |with_reducible refine zN (fun h=> ?_) (fun h=> ?_)<;>(try simp only [SH] at h)
            all_goals first
              |(exfalso; omega)
              |(rw [if_pos (by omega)]; exact zG.mpr rfl)
              | (rw [if_neg (by omega)]
                 refine zG.mpr ?_
                 first
                   |rfl
                   |exact congrArg G0 (n7 (q:=Q+1) (r:=(S.val nq (fun j=>tq (j+aq)))-R) (by omega) (by assumption) (by assumption)).symm
                   |exact congrArg G0 (mG (q:=Q+1) (r:=(S.val nq (fun j=>tq (j+aq)))-R) (by omega) (by assumption)).symm
                   |exact congrArg G0 (nk (q:=Q+1) (r:=(S.val nq (fun j=>tq (j+aq)))-R) (by assumption) (by assumption)).symm
                   |exact congrArg G0 (nj (q:=Q+1) (r:=(S.val nq (fun j=>tq (j+aq)))-R) (by assumption)).symm))
         · have e1 :S.dq true (S.val np (fun j=>tp (j+ap))) (S.val nq (fun j=>tq (j+aq)))=Q∧S.dr true (S.val np (fun j=>tp (j+ap))) (S.val nq (fun j=>tq (j+aq)))=R:=by
            unfold S.dq S.dr
            rw [hR,if_neg (fun h=>hr h.2),if_neg (fun h=>hr h.2)]
            exact ⟨hQ,rfl⟩
           cases n2<;>
           (rw [key _ (Q) (R) (by omega) e1.1 e1.2 rfl]
            simp only [cond_true,cond_false,decide_eq_false (fun h=>hr (hR0.mp h))]
            repeat' first
              |with_reducible refine zN (fun h=> ?_) (fun h=> ?_)<;>(try simp only [SH] at h)
            all_goals first
              |(exfalso; omega)
              |(rw [if_pos (by omega)]; exact zG.mpr rfl)
              | (rw [if_neg (by omega)]
                 refine zG.mpr ?_
                 first
                   |rfl
                   |exact congrArg G0 (n7 (q:=Q) (r:=R) (by omega) (by assumption) (by assumption)).symm
                   |exact congrArg G0 (mG (q:=Q) (r:=R) (by omega) (by assumption)).symm
                   |exact congrArg G0 (nk (q:=Q) (r:=R) (by assumption) (by assumption)).symm
                   |exact congrArg G0 (nj (q:=Q) (r:=R) (by assumption)).symm))
   · rw [if_neg (fun h=>g2 h.2)]
     have g2:=Bool.not_eq_true _ ▸ g2
     unfold p30
     simp only [cond_true,cond_false,g1,g2,decide_eq_true d1,decide_eq_true d2]
     exact zG.mpr rfl
 · rw [if_neg (fun h=>g1 h.1)]
   have g1:=Bool.not_eq_true _ ▸ g1
   unfold p30
   simp only [cond_true,cond_false,g1,decide_eq_true d1]
   exact zG.mpr rfl
theorem k30_ok:k30.ok Tryz.prog:=by
 intro x hx
 obtain ⟨⟨n1,⟨ap,np,mp,tp,_⟩,_⟩,⟨n2,⟨aq,nq,mq,tq,_⟩,_⟩,_⟩:=x
 obtain ⟨h1,h2⟩:=a30 n1 ap np mp tp n2 aq nq mq tq (s30 n1 ap np mp tp n2 aq nq mq tq (zo hx rfl))
 exact ⟨⟨400,(by decide:2+1+2≤400),h1⟩,h2⟩
namespace S
def fd :Nat→Int→Int→Int→Int→Int→Int→Int×Int×Int×Int
  |0,_,_,p,q,r,s=>(p,q,r,s)
  | k + 1,x,y,p,q,r,s=>
   if y+r≠0∧y+s≠0 then
    if Int.tdiv (x+p) (y+r)=Int.tdiv (x+q) (y+s) then
     fd k y (x-Int.tdiv (x+p) (y+r)*y) r s (p-Int.tdiv (x+p) (y+r)*r) (q-Int.tdiv (x+p) (y+r)*s)
    else (p,q,r,s)
   else (p,q,r,s)
def fc (x y:Int):Int×Int×Int×Int:=fd (y.toNat+1) x y 1 0 0 1
end S
structure mL (x0 y0 x y p q r s:Int):Prop where
 hx:x=p*x0+q*y0
 hy:y=r*x0+s*y0
 sg:(0≤p∧q≤0∧r≤0∧0≤s∧p*s-q*r=1)∨(p≤0∧0≤q∧0≤r∧s≤0∧p*s-q*r= -1)
 yr:0≤y+r
 ys:0≤y+s
 xp:0≤x+p
 xq:0≤x+q
 b:(p.natAbs≤1000000000∧q.natAbs≤1000000000)∧r.natAbs≤1000000000∧s.natAbs≤1000000000
 yx:0≤y∧y≤x∧x≤x0∧y≤y0
 st:(p=1∧q=0∧r=0∧s=1∧x=x0∧y=y0)∨((x+p≤x0∧x+q≤x0)∧y+r<y0∧y+s<y0∧(y+r≤x+p∧y+r≤x+q)∧y+s≤x+p∧y+s≤x+q)
theorem oV {x0 y0:Int} (h:0≤y0∧y0≤x0):mL x0 y0 x0 y0 1 0 0 1 where
 hx:=by omega
 hy:=by omega
 sg:=by omega
 yr:=by omega
 ys:=by omega
 xp:=by omega
 xq:=by omega
 b:=by decide
 yx:=by omega
 st:=by omega
theorem qZ {r x y:Int} (h0:0≤r) (h1:r≤x) (h2:r*x≤y) (hy:y<1000000000000000000):r≤1000000000:=by
 refine Int.not_lt.mp fun h=> ?_
 have h3:1000000001*1000000001≤r*x:=Int.mul_le_mul (by omega) (by omega) (by decide) (by omega)
 omega
theorem rt {x y p r c:Int} (hy:0<y+r) (hx:0≤x+p) (hc:c=Int.tdiv (x+p) (y+r)):0≤c∧0≤(x-c*y)+(p-c*r)∧(x-c*y)+(p-c*r)<y+r:=by
 subst hc
 rw [Int.tdiv_eq_ediv_of_nonneg hx]
 have h1:=Int.ediv_nonneg hx (by omega:0≤y+r)
 have h2:=Int.emod_nonneg (x+p) (show y+r≠0 by omega)
 have h3:=Int.emod_lt_of_pos (x+p) hy
 have h4:=Int.mul_ediv_add_emod (x+p) (y+r)
 generalize (x+p) / (y+r)=c at*
 rw [Int.add_mul,Int.mul_comm y,Int.mul_comm r] at h4
 omega
theorem mO {x0 y0 x y p q r s c:Int} (h:mL x0 y0 x y p q r s) (hx0:x0<1000000000000000000) (hy0:y0≤x0) (hr:y+r≠0) (hs:y+s≠0) (hc:c=Int.tdiv (x+p) (y+r)) (hd:c=Int.tdiv (x+q) (y+s)):mL x0 y0 y (x-c*y) r s (p-c*r) (q-c*s):=by
 obtain ⟨hx,hy,sg,yr,ys,xp,xq,b,yx,st⟩:=h
 obtain ⟨c0,c1,c2⟩:=rt (by omega) xp hc
 obtain ⟨-,d1,d2⟩:=rt (by omega) xq hd
 have ex:x-c*y=(p-c*r)*x0+(q-c*s)*y0:=by
  rw [Int.sub_mul,Int.sub_mul,Int.mul_assoc,Int.mul_assoc,hx,hy,Int.mul_add]; omega
 have ed:r*(q-c*s)-s*(p-c*r)= -(p*s-q*r):=by grind
 have i1:(q-c*s)*y-s*(x-c*y)= -(p*s-q*r)*x0:=by rw [hx,hy]; grind
 have i2:r*(x-c*y)-(p-c*r)*y= -(p*s-q*r)*y0:=by rw [hx,hy]; grind
 have hin:y+r≤x0∧y+s≤x0:=by
  rcases st with ⟨rfl,rfl,rfl,rfl,rfl,rfl⟩|st
  · have h1:1≤c:=by
     refine Int.not_lt.mp fun h=> ?_
     obtain rfl:c=0:=by omega
     omega
    have h2:1*y≤c*y:=Int.mul_le_mul_of_nonneg_right h1 (by omega)
    omega
  · omega
 have hcr: ∀ z:Int,z≤0→c*z≤0:=fun z hz=>by
  have:=Int.mul_le_mul_of_nonneg_left hz c0
  omega
 have hcs: ∀ z:Int,0≤z→0≤c*z:=fun z hz=>Int.mul_nonneg c0 hz
 rcases sg with ⟨p0,q0,r0,s0,dt⟩|⟨p0,q0,r0,s0,dt⟩
 · have e1:=hcr r r0
   have e2:=hcs s s0
   generalize hR:p-c*r=R at*
   generalize hS:q-c*s=T at*
   generalize hY:x-c*y=Y at*
   have R0:0≤R:=by omega
   have S0:T≤0:=by omega
   have Y0:0≤Y:=by omega
   rw [dt] at i1 i2
   have m1:0≤s*Y:=Int.mul_nonneg s0 Y0
   have m2:r*Y≤0:=by have:=Int.mul_le_mul_of_nonneg_right r0 Y0; omega
   have n1:(-T)*y= -(T*y):=Int.neg_mul _ _
   refine ⟨hy,ex,.inr ⟨r0,s0,R0,S0,by rw [ed,dt]⟩,by omega,by omega,by omega,by omega,⟨⟨b.2.1,b.2.2⟩,?_,?_⟩,by omega,.inr (by omega)⟩
   · have:=qZ (r:=R) (x:=y) (y:=y0) R0 (by omega) (by omega) (by omega)
     omega
   · have:=qZ (r:= -T) (x:=y) (y:=x0) (by omega) (by omega) (by omega) hx0
     omega
 · have e1:=hcs r r0
   have e2:=hcr s s0
   generalize hR:p-c*r=R at*
   generalize hS:q-c*s=T at*
   generalize hY:x-c*y=Y at*
   have R0:R≤0:=by omega
   have S0:0≤T:=by omega
   have Y0:0≤Y:=by omega
   rw [dt] at i1 i2
   have m1:s*Y≤0:=by have:=Int.mul_le_mul_of_nonneg_right s0 Y0; omega
   have m2:0≤r*Y:=Int.mul_nonneg r0 Y0
   have n1:(-R)*y= -(R*y):=Int.neg_mul _ _
   refine ⟨hy,ex,.inl ⟨r0,s0,R0,S0,by rw [ed,dt]; rfl⟩,by omega,by omega,by omega,by omega,⟨⟨b.2.1,b.2.2⟩,?_,?_⟩,by omega,.inr (by omega)⟩
   · have:=qZ (r:= -R) (x:=y) (y:=y0) (by omega) (by omega) (by omega) (by omega)
     omega
   · have:=qZ (r:=T) (x:=y) (y:=x0) S0 (by omega) (by omega) hx0
     omega
theorem py {x0 y0:Int} (hx0:x0<1000000000000000000) (hy0:y0≤x0): ∀ {k:Nat} {x y p q r s:Int},mL x0 y0 x y p q r s→ ∃ x' y',mL x0 y0 x' y' (S.fd k x y p q r s).1 (S.fd k x y p q r s).2.1 (S.fd k x y p q r s).2.2.1 (S.fd k x y p q r s).2.2.2
  |0,x,y,_,_,_,_,h=>⟨x,y,h⟩
  | k + 1,x,y,p,q,r,s,h=>by
   simp only [S.fd]
   split
   · rename_i h1
     split
     · rename_i h2
       exact py hx0 hy0 (mO h hx0 hy0 h1.1 h1.2 rfl h2)
     · exact ⟨x,y,h⟩
   · exact ⟨x,y,h⟩
theorem nD {A B p q r s:Int} (h:p*s-q*r=1∨p*s-q*r= -1):Int.gcd (p*A+q*B) (r*A+s*B)=Int.gcd A B:=by
 have e1:s*(p*A+q*B)-q*(r*A+s*B)=(p*s-q*r)*A:=by grind
 have e2:p*(r*A+s*B)-r*(p*A+q*B)=(p*s-q*r)*B:=by grind
 apply Nat.dvd_antisymm
 · have g1:((Int.gcd (p*A+q*B) (r*A+s*B):Nat):Int) ∣ p*A+q*B:=Int.gcd_dvd_left ..
   have g2:((Int.gcd (p*A+q*B) (r*A+s*B):Nat):Int) ∣ r*A+s*B:=Int.gcd_dvd_right ..
   have h1:=Int.dvd_sub (Int.dvd_mul_of_dvd_right g1 (b:=s)) (Int.dvd_mul_of_dvd_right g2 (b:=q))
   have h2:=Int.dvd_sub (Int.dvd_mul_of_dvd_right g2 (b:=p)) (Int.dvd_mul_of_dvd_right g1 (b:=r))
   rw [e1] at h1
   rw [e2] at h2
   rcases h with h|h<;>rw [h] at h1 h2
   · rw [Int.one_mul] at h1 h2
     exact Int.dvd_gcd h1 h2
   · rw [Int.neg_one_mul,Int.dvd_neg] at h1 h2
     exact Int.dvd_gcd h1 h2
 · have g1:((Int.gcd A B:Nat):Int) ∣ A:=Int.gcd_dvd_left ..
   have g2:((Int.gcd A B:Nat):Int) ∣ B:=Int.gcd_dvd_right ..
   exact Int.dvd_gcd (Int.dvd_add (Int.dvd_mul_of_dvd_right g1) (Int.dvd_mul_of_dvd_right g2)) (Int.dvd_add (Int.dvd_mul_of_dvd_right g1) (Int.dvd_mul_of_dvd_right g2))
theorem iG {P x y a b r s:Int} (hP:0<P) (ha:0≤a∧a<P) (hb:0≤b∧b<P) (hs:(r≤0∧0≤s)∨(0≤r∧s≤0)):(P*(r*x+s*y+r)≤r*(P*x+a)+s*(P*y+b)∨P*(r*x+s*y+s)≤r*(P*x+a)+s*(P*y+b))∧(r*(P*x+a)+s*(P*y+b)≤P*(r*x+s*y+r)∨r*(P*x+a)+s*(P*y+b)≤P*(r*x+s*y+s)):=by
 have e:r*(P*x+a)+s*(P*y+b)=P*(r*x+s*y)+r*a+s*b:=by grind
 rw [e,Int.mul_add P _ r,Int.mul_add P _ s,Int.mul_comm P r,Int.mul_comm P s]
 generalize P*(r*x+s*y)=w
 rcases hs with ⟨h1,h2⟩|⟨h1,h2⟩
 · have a1:r*P≤r*a:=Int.mul_le_mul_of_nonpos_left h1 (by omega)
   have a2:0≤s*b:=Int.mul_nonneg h2 hb.1
   have a3:s*b≤s*P:=Int.mul_le_mul_of_nonneg_left (by omega) h2
   have a4:r*a≤0:=by have:=Int.mul_le_mul_of_nonneg_right h1 ha.1; omega
   exact ⟨.inl (by omega),.inr (by omega)⟩
 · have a1:s*P≤s*b:=Int.mul_le_mul_of_nonpos_left h2 (by omega)
   have a2:0≤r*a:=Int.mul_nonneg h1 ha.1
   have a3:r*a≤r*P:=Int.mul_le_mul_of_nonneg_left (by omega) h1
   have a4:s*b≤0:=by have:=Int.mul_le_mul_of_nonneg_right h2 hb.1; omega
   exact ⟨.inr (by omega),.inl (by omega)⟩
theorem jP {A B P x y:Int} (hP:0<P) (hA:P*x≤A∧A<P*x+P) (hB:P*y≤B∧B<P*y+P) (h0:0≤y∧y≤x∧x<1000000000000000000) {p q r s:Int} (h:S.fc x y=(p,q,r,s)) (hq:q≠0):
    (0≤r*A+s*B∧r*A+s*B<B∧r*A+s*B≤p*A+q*B∧p*A+q*B≤A)∧Int.gcd (p*A+q*B) (r*A+s*B)=Int.gcd A B:=by
  obtain ⟨x',y',hi⟩:=py h0.2.2 h0.2.1 (k:=y.toNat+1) (oV ⟨h0.1,h0.2.1⟩)
  unfold S.fc at h
  rw [h] at hi
  obtain ⟨hx,hy,sg,yr,ys,xp,xq,b,yx,st⟩:=hi
  dsimp only at hx hy sg yr ys xp xq b yx st
  have sg1:(r≤0∧0≤s)∨(0≤r∧s≤0):=by omega
  have sg2:(p≤0∧0≤q)∨(0≤p∧q≤0):=by omega
  have b1:=iG (x:=x) (y:=y) hP (a:=A-P*x) (b:=B-P*y) (by omega) (by omega) sg1
  have b2:=iG (x:=x) (y:=y) hP (a:=A-P*x) (b:=B-P*y) (by omega) (by omega) sg2
  rw [show P*x+(A-P*x)=A by omega,show P*y+(B-P*y)=B by omega] at b1 b2
  rw [← hy] at b1
  rw [← hx] at b2
  refine ⟨?_,nD (by rcases sg with h|h; exact .inl h.2.2.2.2; exact .inr h.2.2.2.2)⟩
  have mono: ∀ {u v:Int},u≤v→P*u≤P*v:=fun h=>Int.mul_le_mul_of_nonneg_left h (by omega)
  rcases st with st|⟨⟨t1,t2⟩,s1,s2,⟨s3,s4⟩,s5,s6⟩
  · exact absurd st.2.1 hq
  have m0:=mono yr
  have m1:=mono ys
  have m2:=mono (Int.le_sub_one_of_lt s1)
  have m3:=mono (Int.le_sub_one_of_lt s2)
  have m4:=mono s3
  have m5:=mono s4
  have m6:=mono s5
  have m7:=mono s6
  have m8:P*(y-1)=P*y-P:=by rw [Int.mul_sub,Int.mul_one]
  have m9:=mono t1
  have m10:=mono t2
  rw [Int.mul_zero] at m0 m1
  rw [m8] at m2 m3
  clear hx hy sg yr ys xp xq b yx h m8 mono sg1 sg2 t1 t2 s1 s2 s3 s4 s5 s6 h0 hq
  generalize r*A+s*B=Z at*
  generalize p*A+q*B=Y at*
  generalize P*(y'+r)=c1 at*
  generalize P*(y'+s)=c2 at*
  generalize P*(x'+p)=c3 at*
  generalize P*(x'+q)=c4 at*
  generalize P*x=c5 at*
  generalize P*y=c6 at*
  obtain ⟨b3,b4⟩:=b1
  obtain ⟨b5,b6⟩:=b2
  refine ⟨?_,?_,?_,?_⟩
  · clear b4 b5 b6; omega
  · clear b3 b5 b6; omega
  · clear b3 b6; omega
  · clear b3 b4 b5; omega
theorem iV {x y:Int} (h0:0≤y∧y≤x∧x<1000000000000000000) {p q r s:Int} (h:S.fc x y=(p,q,r,s)):(-1000000000≤p∧p≤1000000000)∧(-1000000000≤q∧q≤1000000000)∧(-1000000000≤r∧r≤1000000000)∧ -1000000000≤s∧s≤1000000000:=by
 obtain ⟨x',y',hi⟩:=py h0.2.2 h0.2.1 (k:=y.toNat+1) (oV ⟨h0.1,h0.2.1⟩)
 unfold S.fc at h
 rw [h] at hi
 have b:=hi.b
 dsimp only at b
 omega
section
variable (g9:TT) (fA:KS) (fC:KR) (ap np mp:Nat) (tp:NI) (aq nq mq:Nat) (tq:NI)
inductive St75 where
 |h0 (x0:Int) (x1:Int) (x2:Int) (x3:Int) (x4:Int) (x5:Int)
abbrev Rt75:=Int×Int×Int×Int
noncomputable def V75 (r:Rt75):PV:= .tup [.int .i64 r.1,.int .i64 r.2.1,.int .i64 r.2.2.1,.int .i64 r.2.2.2]
noncomputable def N75 (r:Rt75):List Blk:= []
noncomputable def I75:St75→Hd
  | .h0 x0 x1 x2 x3 x4 x5=>⟨hd Tryz.f145 0,[.int .i64 x0,.int .i64 x1,.int .i64 x2,
 .int .i64 x3,.int .i64 x4,.int .i64 x5],[[],[(0,(false,CB mp tp)),(1,(false,CB mq tq))]],2⟩
noncomputable def q75 (ap np mp:Nat) (tp:NI) (aq nq mq:Nat) (tq:NI):St75→Option (St75⊕Rt75)| .h0 x0 x1 x2 x3 x4 x5=>bif (lim .i64 (x5+x2)) then (bif (x5+x2 != 0) then (bif (lim .i64 (x5+x3)) then (bif (x5+x3 != 0) then (bif (lim .i64 (x4+x0)) then (bif (decide (x5+x2=0)) then none else (bif (lim .i64 (Int.tdiv (x4+x0) (x5+x2))) then (bif (lim .i64 (x4+x1)) then (bif (decide (x5+x3=0)) then none else (bif (lim .i64 (Int.tdiv (x4+x1) (x5+x3))) then (bif (Int.tdiv (x4+x0) (x5+x2) != Int.tdiv (x4+x1) (x5+x3)) then (some (.inr (x0,x1,x2,x3))) else (bif (lim .i64 (Int.tdiv (x4+x0) (x5+x2)*x2)) then (bif (lim .i64 (x0-Int.tdiv (x4+x0) (x5+x2)*x2)) then (bif (lim .i64 (Int.tdiv (x4+x0) (x5+x2)*x3)) then (bif (lim .i64 (x1-Int.tdiv (x4+x0) (x5+x2)*x3)) then (bif (lim .i64 (Int.tdiv (x4+x0) (x5+x2)*x5)) then (bif (lim .i64 (x4-Int.tdiv (x4+x0) (x5+x2)*x5)) then (some (.inl (.h0 x2 x3 (x0-Int.tdiv (x4+x0) (x5+x2)*x2) (x1-Int.tdiv (x4+x0) (x5+x2)*x3) x5 (x4-Int.tdiv (x4+x0) (x5+x2)*x5)))) else none) else none) else none) else none) else none) else none)) else none)) else none) else none)) else none) else (some (.inr (x0,x1,x2,x3)))) else none) else (some (.inr (x0,x1,x2,x3)))) else none
noncomputable def p75 (ap np mp:Nat) (tp:NI) (aq nq mq:Nat) (tq:NI):Option (St75⊕Rt75):=bif (lim .i64 ((np:Int)-3)) then (bif (decide (ap+np≤mp∧np≤1000∧(S.fG np fun j=>tp (j+ap))=true∧(0:Int)≤(np:Int)-3∧(np:Int)-3≤1000)) then (bif (decide (aq+nq≤mq∧nq≤1000∧(S.fG nq fun j=>tq (j+aq))=true∧(0:Int)≤(np:Int)-3∧(np:Int)-3≤1000)) then (some (.inl (.h0 ((1:Int)) ((0:Int)) ((0:Int)) ((1:Int)) (S.fD (fun j=>tp (j+ap)) ((np:Int)-3).toNat (Min.min np (((np:Int)-3).toNat+3)-((np:Int)-3).toNat)) (S.fD (fun j=>tq (j+aq)) ((np:Int)-3).toNat (Min.min nq (((np:Int)-3).toNat+3)-((np:Int)-3).toNat))))) else none) else none) else none
def Te75:Prop:=g9 (lim .i64 ((np:Int)-3)) (g9 (decide (ap+np≤mp∧np≤1000∧(S.fG np (FS tp ap))=true∧(0:Int)≤(np:Int)-3∧(np:Int)-3≤1000)) (g9 (decide (aq+nq≤mq∧nq≤1000∧(S.fG nq (FS tq aq))=true∧(0:Int)≤(np:Int)-3∧(np:Int)-3≤1000)) (fA (hd Tryz.f145 0) ([.int .i64 1,.int .i64 0,.int .i64 0,.int .i64 1,.int .i64 (S.fD (FS tp ap) ((np:Int)-3).toNat (Min.min np (((np:Int)-3).toNat+3)-((np:Int)-3).toNat)),.int .i64 (S.fD (FS tq aq) ((np:Int)-3).toNat (Min.min nq (((np:Int)-3).toNat+3)-((np:Int)-3).toNat))]) ([[(1,false,CB mq tq),(0,false,CB mp tp)]]) 4) False) False) False
theorem te75:run g9 Tryz.env true (xF3 g9) true 400 ⟨145,[.cd (zS Tryz.f145).body],yD 0 [.loose ⟨0,1,ap,0⟩ np,.loose ⟨1,1,aq,0⟩ nq],[[],[(0,(false,CB mp tp)),(1,(false,CB mq tq))]],2⟩ (zq 2 [4,5,6,7,9,10] fA fC)=
 Te75 g9 fA ap np mp tp aq nq mq tq:=by kernel_rfl
noncomputable abbrev u75_0_0:=([[(1,false,Blk.cols mq [Col.int IntKind.i64 tq]),(0,false,Blk.cols mp [Col.int IntKind.i64 tp])]])
def T75_0 (x0 x1 x2 x3 x4 x5:Int):Prop:=g9 (lim .i64 (x5+x2)) (g9 (x5+x2 != 0) (g9 (lim .i64 (x5+x3)) (g9 (x5+x3 != 0) (g9 (lim .i64 (x4+x0)) (g9 (lim .i64 (x5+x2)) (g9 (decide (x5+x2=0)) False (g9 (lim .i64 (Int.tdiv (x4+x0) (x5+x2))) (g9 (lim .i64 (x4+x1)) (g9 (lim .i64 (x5+x3)) (g9 (decide (x5+x3=0)) False (g9 (lim .i64 (Int.tdiv (x4+x1) (x5+x3))) (g9 (Int.tdiv (x4+x0) (x5+x2) != Int.tdiv (x4+x1) (x5+x3)) (fC (.tup [.int .i64 x0,.int .i64 x1,.int .i64 x2,.int .i64 x3]) (u75_0_0 mp tp mq tq) 2) (g9 (lim .i64 (Int.tdiv (x4+x0) (x5+x2)*x2)) (g9 (lim .i64 (x0-Int.tdiv (x4+x0) (x5+x2)*x2)) (g9 (lim .i64 (Int.tdiv (x4+x0) (x5+x2)*x3)) (g9 (lim .i64 (x1-Int.tdiv (x4+x0) (x5+x2)*x3)) (g9 (lim .i64 (Int.tdiv (x4+x0) (x5+x2)*x5)) (g9 (lim .i64 (x4-Int.tdiv (x4+x0) (x5+x2)*x5)) (fA (hd Tryz.f145 0) ([.int .i64 x2,.int .i64 x3,.int .i64 (x0-Int.tdiv (x4+x0) (x5+x2)*x2),.int .i64 (x1-Int.tdiv (x4+x0) (x5+x2)*x3),.int .i64 x5,.int .i64 (x4-Int.tdiv (x4+x0) (x5+x2)*x5)]) (u75_0_0 mp tp mq tq) 2) False) False) False) False) False) False)) False)) False) False) False)) False) False) (fC (.tup [.int .i64 x0,.int .i64 x1,.int .i64 x2,.int .i64 x3]) (u75_0_0 mp tp mq tq) 2)) False) (fC (.tup [.int .i64 x0,.int .i64 x1,.int .i64 x2,.int .i64 x3]) (u75_0_0 mp tp mq tq) 2)) False
theorem t75_0 (x0 x1 x2 x3 x4 x5:Int):run g9 Tryz.env true (xF3 g9) true 400 ⟨145,hd Tryz.f145 0,yc [4,5,6,7,9,10] [.int .i64 x0,.int .i64 x1,.int .i64 x2,
 .int .i64 x3,.int .i64 x4,.int .i64 x5],[[],[(0,(false,CB mp tp)),(1,(false,CB mq tq))]],2⟩ (zq 2 [4,5,6,7,9,10] fA fC)=
  T75_0 g9 fA fC mp tp mq tq x0 x1 x2 x3 x4 x5:=by kernel_rfl
noncomputable abbrev J75:Rt75→zQ:=fun r=> [yJ (2+1) ((N75) r)++ [(0,(false,CB mp tp)),(1,(false,CB mq tq))]]
attribute [local irreducible] Int.subNatNat in
theorem a75 {r:Rt75} (h:zX ((q75 ap np mp tp aq nq mq tq)) ((p75 ap np mp tp aq nq mq tq)) r):zn Tryz.prog 145 [.loose ⟨0,1,ap,0⟩ np,.loose ⟨1,1,aq,0⟩ nq] [[(0,(false,CB mp tp)),(1,(false,CB mq tq))]] 2 ((V75) r) ((J75 mp tp mq tq) r) 400∧HB Tryz.prog 145:=by
 refine zf Tryz.envOk Tryz.mixed lM ((I75 mp tp mq tq)) ((V75)) (J75 mp tp mq tq) (fn:=zS Tryz.f145) (ts:= [4,5,6,7,9,10]) (n:=400) rfl (by decide) (by simp) (zV rfl) ?_ ?_ ?_ h
 · intro s; cases s<;>exact ⟨ym _ _,by simp [I75],zV rfl,Nat.le_of_ble_eq_true rfl⟩
 · intro fA fC x hS hR h
   refine Holds.eq (te75 cond fA fC ap np mp tp aq nq mq tq) ?_
   unfold Te75
   unfold p75 at h
   exact zA h (fun c0 h=>zA h (fun c1 h=>zA h (fun c2 h=>zb hS _ h (fun n=>n) rfl rfl rfl ⟨(zH rfl),⟨(zH rfl),⟨(zH rfl),⟨(zH rfl),⟨(zH rfl),⟨(zH rfl),trivial⟩⟩⟩⟩⟩⟩ rfl (zB (zC rfl) rfl rfl (zB (zC rfl) rfl rfl zE))) (fun c2 h=>zF h)) (fun c1 h=>zF h)) (fun c0 h=>zF h)
 · intro fA fC x hS hR s h
   cases s with
   | h0 x0 x1 x2 x3 x4 x5=>
    refine Holds.eq (t75_0 cond fA fC mp tp mq tq x0 x1 x2 x3 x4 x5) ?_
    unfold T75_0
    rw [q75] at h
    refine zA h (fun c0 h=>zA h (fun c1 h=>zA h (fun c2 h=>zA h (fun c3 h=>zA h (fun c4 h=>zJ c0 (zA h (fun c5 h=> ?_) (fun c5 h=>zA h (fun c6 h=>zA h (fun c7 h=>zJ c2 (zA h (fun c8 h=> ?_) (fun c8 h=>zA h (fun c9 h=>zA h (fun c10 h=> ?_) (fun c10 h=>zA h (fun c11 h=>zA h (fun c12 h=>zA h (fun c13 h=>zA h (fun c14 h=>zA h (fun c15 h=>zA h (fun c16 h=>zb hS _ h (fun n=>n) rfl rfl rfl ⟨(zH rfl),⟨(zH rfl),⟨(zH rfl),⟨(zH rfl),⟨(zH rfl),⟨(zH rfl),trivial⟩⟩⟩⟩⟩⟩ rfl (zB (zC rfl) rfl rfl (zB (zC rfl) rfl rfl zE))) (fun c16 h=> ?_)) (fun c15 h=> ?_)) (fun c14 h=> ?_)) (fun c13 h=> ?_)) (fun c12 h=> ?_)) (fun c11 h=> ?_))) (fun c9 h=> ?_)))) (fun c7 h=> ?_)) (fun c6 h=> ?_)))) (fun c4 h=> ?_)) (fun c3 h=> ?_)) (fun c2 h=> ?_)) (fun c1 h=> ?_)) (fun c0 h=> ?_)
    all_goals first
      |exact zF h
      |exact zU hR _ h (fun n=>n) rfl rfl rfl (zm ⟨(zH rfl),(zH rfl),(zH rfl),(zH rfl),trivial⟩) rfl (zB (zC rfl) rfl rfl (zB (zC rfl) rfl rfl zE))
end
noncomputable def k75:Con:=⟨145,[.one (.list [.int .i64]),.one (.list [.int .i64])],w60 (fun ap np mp tp aq nq mq tq=>decide ((ap+np≤mp∧aq+nq≤mq)∧(3<np∧np≤900∧nq≤np)∧S.fG np (FS tp ap)=true∧S.fG nq (FS tq aq)=true∧(S.val nq (FS tq aq))≤(S.val np (FS tp ap)))),w60 (fun ap np mp tp aq nq mq tq=>(V75) ((S.fc (S.fD (FS tp ap) (np-3) 3) (S.fD (FS tq aq) (np-3) (nq-(np-3)))))),w60 (fun ap np mp tp aq nq mq tq=>(N75) ((S.fc (S.fD (FS tp ap) (np-3) 3) (S.fD (FS tq aq) (np-3) (nq-(np-3)))))),fun _ _=> .dead⟩
theorem s75' (ap np mp:Nat) (tp:Nat→Int) (aq nq mq:Nat) (tq:Nat→Int) {x0 y0:Int} (hx0:x0<1000000000000000000) (hy0:y0≤x0): ∀ (k:Nat) (x y p q r s:Int),mL x0 y0 x y p q r s→y.toNat<k→Comes (q75 ap np mp tp aq nq mq tq) (.h0 p q r s x y) (S.fd k x y p q r s):=by
 intro k
 induction k with
 |zero=>intro x y p q r s _ h; omega
 | succ k ih=>
  intro x y p q r s h hk
  have hb:=h.b
  have hyx:=h.yx
  have hyr:=h.yr
  have hys:=h.ys
  have hxp:=h.xp
  have hxq:=h.xq
  have bb:(-1000000000≤p∧p≤1000000000)∧(-1000000000≤q∧q≤1000000000)∧(-1000000000≤r∧r≤1000000000)∧ -1000000000≤s∧s≤1000000000:=by omega
  simp only [S.fd]
  apply Comes.of
  by_cases h1:y+r≠0∧y+s≠0
  · rw [if_pos h1]
    have c1:Int.tdiv (x+p) (y+r)≤x+p∧0≤Int.tdiv (x+p) (y+r):=by
     rw [Int.tdiv_eq_ediv_of_nonneg hxp]
     exact ⟨Int.ediv_le_self _ hxp,Int.ediv_nonneg hxp hyr⟩
    have c2:Int.tdiv (x+q) (y+s)≤x+q∧0≤Int.tdiv (x+q) (y+s):=by
     rw [Int.tdiv_eq_ediv_of_nonneg hxq]
     exact ⟨Int.ediv_le_self _ hxq,Int.ediv_nonneg hxq hys⟩
    by_cases h2:Int.tdiv (x+p) (y+r)=Int.tdiv (x+q) (y+s)
    · rw [if_pos h2]
      have hn:=mO h hx0 hy0 h1.1 h1.2 rfl h2
      have hl:x-Int.tdiv (x+p) (y+r)*y<y:=by
       have c:=rt (x:=x) (y:=y) (p:=p) (r:=r) (by omega) hxp rfl
       have d:=rt (x:=x) (y:=y) (p:=q) (r:=s) (by omega) hxq h2
       have sg:=h.sg
       have sg':=hn.sg
       omega
      have nb:=hn.b
      have nyx:=hn.yx
      have hm:=ih _ _ _ _ _ _ hn (by omega)
      clear hn ih h hb
      rw [q75]
      repeat' first
        |with_reducible exact hm
        |(with_reducible refine zK ?_ ?_; focus (first|exact bne_iff_ne.mpr h1.1|exact bne_iff_ne.mpr h1.2|(rw [yu]; apply decide_eq_true; omega)))
        |(with_reducible refine zd ?_ ?_; focus (first|exact decide_eq_false h1.1|exact decide_eq_false h1.2|(rw [h2]; exact bne_self_eq_false _)))
      exact hm
    · rw [if_neg h2]
      clear ih h hb
      rw [q75]
      repeat' first
        |with_reducible exact zG.mpr rfl
        |(with_reducible refine zK ?_ ?_; focus (first|exact bne_iff_ne.mpr h1.1|exact bne_iff_ne.mpr h1.2|exact bne_iff_ne.mpr h2|(rw [yu]; apply decide_eq_true; omega)))
        |(with_reducible refine zd ?_ ?_; focus (first|exact decide_eq_false h1.1|exact decide_eq_false h1.2))
  · rw [if_neg h1]
    clear ih h hb
    rw [q75]
    by_cases h3:y+r=0
    · refine zK (by rw [yu]; apply decide_eq_true; omega) (zd (by rw [h3]; rfl) (zG.mpr rfl))
    · have h4:y+s=0:=by omega
      refine zK (by rw [yu]; apply decide_eq_true; omega) (zK (bne_iff_ne.mpr h3) (zK (by rw [yu]; apply decide_eq_true; omega) (zd (by rw [h4]; rfl) (zG.mpr rfl))))
theorem o9 {n m:Nat} {t u:Nat→Int} (hn:3<n) (hm:m≤n) (ht:S.fG n t=true) (hu:S.fG m u=true) (hv:S.val m u≤S.val n t):(S.pw (n-3)*S.fD t (n-3) 3≤S.val n t∧S.val n t<S.pw (n-3)*S.fD t (n-3) 3+S.pw (n-3))∧(S.pw (n-3)*S.fD u (n-3) (m-(n-3))≤S.val m u∧S.val m u<S.pw (n-3)*S.fD u (n-3) (m-(n-3))+S.pw (n-3))∧0≤S.fD u (n-3) (m-(n-3))∧S.fD u (n-3) (m-(n-3))≤S.fD t (n-3) 3∧S.fD t (n-3) 3<1000000000000000000:=by
 have dt:=yO.mp ht
 have du:=yO.mp hu
 have pp:=xJ (k:=n-3)
 have e1:S.val n t=S.fD t 0 (n-3)+S.pw (n-3)*S.fD t (n-3) 3:=by
  have h:=yg (t:=t) (a:=n-3) (b:=3) (i:=0)
  rw [show n-3+3=n by omega,Nat.zero_add] at h
  exact h
 have l1:=yw (t:=t) (k:=n-3) (i:=0) fun j _ h=>dt j (by omega)
 have n1:=yI (t:=t) (k:=n-3) (i:=0) fun j _ h=>(dt j (by omega)).1
 have l3:=yw (t:=t) (k:=3) (i:=n-3) fun j _ h=>dt j (by omega)
 have p3:S.pw 3=1000000000000000000:=rfl
 have nu:=yI (t:=u) (k:=m-(n-3)) (i:=n-3) fun j _ h=>(du j (by omega)).1
 have key:S.pw (n-3)*S.fD u (n-3) (m-(n-3))≤S.val m u∧S.val m u<S.pw (n-3)*S.fD u (n-3) (m-(n-3))+S.pw (n-3):=by
  by_cases h:n-3≤m
  · have e2:S.val m u=S.fD u 0 (n-3)+S.pw (n-3)*S.fD u (n-3) (m-(n-3)):=by
     have h:=yg (t:=u) (a:=n-3) (b:=m-(n-3)) (i:=0)
     rw [show n-3+(m-(n-3))=m by omega,Nat.zero_add] at h
     exact h
    have l2:=yw (t:=u) (k:=n-3) (i:=0) fun j _ h=>du j (by omega)
    have n2:=yI (t:=u) (k:=n-3) (i:=0) fun j _ h=>(du j (by omega)).1
    omega
  · have e3:m-(n-3)=0:=by omega
    rw [e3]
    have v0:=yU hu
    have v1:=yF hu (show m≤n-3 by omega)
    simp only [S.fD]
    omega
 refine ⟨⟨by omega,by omega⟩,key,nu,?_,by omega⟩
 refine Int.not_lt.mp fun h=> ?_
 have:S.pw (n-3)*(S.fD t (n-3) 3+1)≤S.pw (n-3)*S.fD u (n-3) (m-(n-3)):=Int.mul_le_mul_of_nonneg_left (by omega) (by omega)
 rw [Int.mul_add] at this
 omega
theorem s75 (ap np mp:Nat) (tp:Nat→Int) (aq nq mq:Nat) (tq:Nat→Int) (hp:(ap+np≤mp∧aq+nq≤mq)∧(3<np∧np≤900∧nq≤np)∧S.fG np (fun j=>tp (j+ap))=true∧S.fG nq (fun j=>tq (j+aq))=true∧(S.val nq (fun j=>tq (j+aq)))≤(S.val np (fun j=>tp (j+ap)))):zX ((q75 ap np mp tp aq nq mq tq)) ((p75 ap np mp tp aq nq mq tq)) (((S.fc (S.fD (fun j=>tp (j+ap)) (np-3) 3) (S.fD (fun j=>tq (j+aq)) (np-3) (nq-(np-3)))).1,(S.fc (S.fD (fun j=>tp (j+ap)) (np-3) 3) (S.fD (fun j=>tq (j+aq)) (np-3) (nq-(np-3)))).2.1,(S.fc (S.fD (fun j=>tp (j+ap)) (np-3) 3) (S.fD (fun j=>tq (j+aq)) (np-3) (nq-(np-3)))).2.2.1,(S.fc (S.fD (fun j=>tp (j+ap)) (np-3) 3) (S.fD (fun j=>tq (j+aq)) (np-3) (nq-(np-3)))).2.2.2)):=by
 obtain ⟨⟨hp1,hp2⟩,⟨hp3,hp4,hp5⟩,hp6,hp7,hp8⟩:=hp
 obtain ⟨-,-,y0,yx,x1⟩:=o9 hp3 hp5 hp6 hp7 hp8
 have hm:=s75' ap np mp tp aq nq mq tq x1 yx ((S.fD (fun j=>tq (j+aq)) (np-3) (nq-(np-3))).toNat+1) (S.fD (fun j=>tp (j+ap)) (np-3) 3) (S.fD (fun j=>tq (j+aq)) (np-3) (nq-(np-3))) 1 0 0 1 (oV ⟨y0,yx⟩) (by omega)
 have e1:(((np:Int)-3)).toNat=np-3:=by omega
 have e2:min np (np-3+3)-(np-3)=3:=by omega
 have e3:min nq (np-3+3)-(np-3)=nq-(np-3):=by omega
 clear y0 yx x1
 unfold p75
 with_reducible refine zK ?_ ?_
 · rw [yu]; apply decide_eq_true; omega
 with_reducible refine zK ?_ ?_
 · exact decide_eq_true ⟨hp1,by omega,hp6,by omega,by omega⟩
 with_reducible refine zK ?_ ?_
 · exact decide_eq_true ⟨hp2,by omega,hp7,by omega,by omega⟩
 rw [e1,e2,e3]
 exact hm
theorem k75_ok:k75.ok Tryz.prog:=by
 intro x hx
 obtain ⟨⟨ap,np,mp,tp,_⟩,⟨aq,nq,mq,tq,_⟩,_⟩:=x
 obtain ⟨h1,h2⟩:=a75 ap np mp tp aq nq mq tq (s75 ap np mp tp aq nq mq tq (zo hx rfl))
 exact ⟨⟨400,(by decide:2+1+0≤400),h1⟩,h2⟩
theorem iB (t:Int):(Int.tmod t 1000000<0→t % 1000000=Int.tmod t 1000000+1000000∧t / 1000000=Int.tdiv t 1000000-1)∧(¬ Int.tmod t 1000000<0→t % 1000000=Int.tmod t 1000000∧t / 1000000=Int.tdiv t 1000000):=by
 rcases Int.le_total 0 t with h|h
 · rw [Int.tdiv_eq_ediv_of_nonneg h,Int.tmod_eq_emod_of_nonneg h]; omega
 · obtain ⟨u,rfl⟩: ∃ u,t= -u:=⟨-t,by omega⟩
   rw [Int.neg_tdiv,Int.neg_tmod,Int.tdiv_eq_ediv_of_nonneg (by omega),Int.tmod_eq_emod_of_nonneg (by omega)]
   omega
theorem nI {a g:Int} (ha: -1000000000≤a∧a≤1000000000) (hg:0≤g∧g<1000000): -(1000000000*1000000)≤a*g∧a*g≤1000000000*1000000:=by
 have h1:a*g≤1000000000*g:=Int.mul_le_mul_of_nonneg_right ha.2 hg.1
 have h2: -1000000000*g≤a*g:=Int.mul_le_mul_of_nonneg_right ha.1 hg.1
 omega
theorem ql {i j:Nat} {d e:Int}:(bif Nat.beq j i then d else e)=if j=i then d else e:=by
 by_cases h:j=i
 · subst h; rw [if_pos rfl,Nat.beq_refl]; rfl
 · rw [if_neg h,show Nat.beq j i=false by cases hb:Nat.beq j i; rfl; exact absurd (Nat.eq_of_beq_eq_true hb) h]; rfl
section
variable (g9:TT) (fA:KS) (fC:KR) (ap np mp:Nat) (tp:NI) (aq nq mq:Nat) (tq:NI) (fp fq:Int)
inductive St76 where
 |h0 (x0:Int) (x1:Int) (x2:List Int)
abbrev Rt76:=List Int
noncomputable def V76 (r:Rt76):PV:= .own 3 1 r.length
noncomputable def N76 (r:Rt76):List Blk:= [CI r]
noncomputable def I76:St76→Hd
  | .h0 x0 x1 x2=>⟨hd Tryz.f146 0,[.loose ⟨1,1,aq,0⟩ nq,.int .i64 fp,
 .int .i64 fq,.own 2 1 x2.length,.int .i64 x0,
 .loose ⟨0,1,ap,0⟩ np,.int .i64 (np:Int),
 .int .i64 x1],[[(2,(true,CI x2))],[(0,(false,CB mp tp)),(1,(false,CB mq tq))]],3⟩
noncomputable def q76 (ap np mp:Nat) (tp:NI) (aq nq mq:Nat) (tq:NI) (fp fq:Int):St76→Option (St76⊕Rt76)| .h0 x0 x1 x2=>bif (decide (x1<(np:Int))) then (bif (decide ((0:Int)≤x1∧x1<(np:Int))) then (bif (decide (x1.toNat+ap<mp)) then (bif (lim .i64 (fp*tp (x1.toNat+ap))) then (bif (lim .i64 (x0+fp*tp (x1.toNat+ap))) then (bif (decide (x1<(nq:Int))) then (bif (decide ((0:Int)≤x1∧x1<(nq:Int))) then (bif (decide (x1.toNat+aq<mq)) then (bif (lim .i64 (fq*tq (x1.toNat+aq))) then (bif (lim .i64 (x0+fp*tp (x1.toNat+ap)+fq*tq (x1.toNat+aq))) then (bif (decide ((0:Int)≤x1∧x1<(↑(x2.length):Int))) then (bif (decide (x1.toNat<x2.length)) then (bif (lim .i64 (Int.tdiv (x0+fp*tp (x1.toNat+ap)+fq*tq (x1.toNat+aq)) (1000000:Int))) then (bif (decide ((bif Nat.beq x1.toNat x1.toNat then Int.tmod (x0+fp*tp (x1.toNat+ap)+fq*tq (x1.toNat+aq)) (1000000:Int) else S.at' x2 x1.toNat)<0)) then (bif (lim .i64 ((bif Nat.beq x1.toNat x1.toNat then Int.tmod (x0+fp*tp (x1.toNat+ap)+fq*tq (x1.toNat+aq)) (1000000:Int) else S.at' x2 x1.toNat)+1000000)) then (bif (lim .i64 (Int.tdiv (x0+fp*tp (x1.toNat+ap)+fq*tq (x1.toNat+aq)) (1000000:Int)-1)) then (bif (lim .i64 (x1+1)) then (some (.inl (.h0 (Int.tdiv (x0+fp*tp (x1.toNat+ap)+fq*tq (x1.toNat+aq)) (1000000:Int)-1) (x1+1) (S.fJ x2.length fun j=>bif Nat.beq j x1.toNat then (bif Nat.beq x1.toNat x1.toNat then Int.tmod (x0+fp*tp (x1.toNat+ap)+fq*tq (x1.toNat+aq)) (1000000:Int) else S.at' x2 x1.toNat)+1000000 else bif Nat.beq j x1.toNat then Int.tmod (x0+fp*tp (x1.toNat+ap)+fq*tq (x1.toNat+aq)) (1000000:Int) else S.at' x2 j)))) else none) else none) else none) else (bif (lim .i64 (x1+1)) then (some (.inl (.h0 (Int.tdiv (x0+fp*tp (x1.toNat+ap)+fq*tq (x1.toNat+aq)) (1000000:Int)) (x1+1) (S.fJ x2.length fun j=>bif Nat.beq j x1.toNat then Int.tmod (x0+fp*tp (x1.toNat+ap)+fq*tq (x1.toNat+aq)) (1000000:Int) else S.at' x2 j)))) else none)) else none) else none) else none) else none) else none) else none) else none) else (bif (decide ((0:Int)≤x1∧x1<(↑(x2.length):Int))) then (bif (decide (x1.toNat<x2.length)) then (bif (lim .i64 (Int.tdiv (x0+fp*tp (x1.toNat+ap)) (1000000:Int))) then (bif (decide ((bif Nat.beq x1.toNat x1.toNat then Int.tmod (x0+fp*tp (x1.toNat+ap)) (1000000:Int) else S.at' x2 x1.toNat)<0)) then (bif (lim .i64 ((bif Nat.beq x1.toNat x1.toNat then Int.tmod (x0+fp*tp (x1.toNat+ap)) (1000000:Int) else S.at' x2 x1.toNat)+1000000)) then (bif (lim .i64 (Int.tdiv (x0+fp*tp (x1.toNat+ap)) (1000000:Int)-1)) then (bif (lim .i64 (x1+1)) then (some (.inl (.h0 (Int.tdiv (x0+fp*tp (x1.toNat+ap)) (1000000:Int)-1) (x1+1) (S.fJ x2.length fun j=>bif Nat.beq j x1.toNat then (bif Nat.beq x1.toNat x1.toNat then Int.tmod (x0+fp*tp (x1.toNat+ap)) (1000000:Int) else S.at' x2 x1.toNat)+1000000 else bif Nat.beq j x1.toNat then Int.tmod (x0+fp*tp (x1.toNat+ap)) (1000000:Int) else S.at' x2 j)))) else none) else none) else none) else (bif (lim .i64 (x1+1)) then (some (.inl (.h0 (Int.tdiv (x0+fp*tp (x1.toNat+ap)) (1000000:Int)) (x1+1) (S.fJ x2.length fun j=>bif Nat.beq j x1.toNat then Int.tmod (x0+fp*tp (x1.toNat+ap)) (1000000:Int) else S.at' x2 j)))) else none)) else none) else none) else none)) else none) else none) else none) else none) else (bif (decide (x2.length≤x2.length)) then (bif (decide (x2.length≤1000000)) then (some (.inr (S.trim (S.fJ x2.length fun j=>S.at' x2 j)))) else none) else none)
noncomputable def p76 (ap np mp:Nat) (tp:NI) (aq nq mq:Nat) (tq:NI) (fp fq:Int):Option (St76⊕Rt76):=bif (decide ((0:Int)≤(np:Int)∧(np:Int)≤(np:Int)∧(np:Int)≤1000000)) then (some (.inl (.h0 ((0:Int)) ((0:Int)) (S.fJ np fun j=>0)))) else none
def Te76:Prop:=g9 (decide ((0:Int)≤(np:Int)∧(np:Int)≤(np:Int)∧(np:Int)≤1000000)) (fA (hd Tryz.f146 0) ([.loose ⟨1,1,aq,0⟩ nq,.int .i64 fp,.int .i64 fq,.own 2 1 np,.int .i64 0,.loose ⟨0,1,ap,0⟩ np,.int .i64 (np:Int),.int .i64 0]) ([[(1,false,CB mq tq),(0,false,CB mp tp),(2,true,.cols np [.int .i64 fun (x:Nat)=>0])]]) 3) False
theorem te76:run g9 Tryz.env true (xF3 g9) true 400 ⟨146,[.cd (zS Tryz.f146).body],yD 0 [.loose ⟨0,1,ap,0⟩ np,.loose ⟨1,1,aq,0⟩ nq,.int .i64 fp,.int .i64 fq],[[],[(0,(false,CB mp tp)),(1,(false,CB mq tq))]],2⟩ (zq 2 [1,2,3,9,10,16,17,18] fA fC)=
 Te76 g9 fA ap np mp tp aq nq mq tq fp fq:=by kernel_rfl
noncomputable abbrev u76_0_0 (x1:Int) (x2:List Int):=decide ((0:Int)≤x1∧x1<(↑(x2.length):Int))
noncomputable abbrev u76_0_1 (x0 x1:Int):=x0+fp*tp (x1.toNat+ap)+fq*tq (x1.toNat+aq)
def T76_0 (x0 x1:Int) (x2:List Int):Prop:=g9 (decide (x1<(np:Int))) (g9 (decide ((0:Int)≤x1∧x1<(np:Int))) (g9 (decide (x1.toNat+ap<mp)) (g9 (lim .i64 (fp*tp (x1.toNat+ap))) (g9 (lim .i64 (x0+fp*tp (x1.toNat+ap))) (g9 (decide (x1<(nq:Int))) (g9 (decide ((0:Int)≤x1∧x1<(nq:Int))) (g9 (decide (x1.toNat+aq<mq)) (g9 (lim .i64 (fq*tq (x1.toNat+aq))) (g9 (lim .i64 (u76_0_1 ap tp aq tq fp fq x0 x1)) (g9 false False (g9 (u76_0_0 x1 x2) (g9 (decide (x1.toNat<x2.length)) (g9 false False (g9 (lim .i64 (Int.tdiv (u76_0_1 ap tp aq tq fp fq x0 x1) (1000000:Int))) (g9 (u76_0_0 x1 x2) (g9 (decide (x1.toNat<x2.length)) (g9 (decide ((bif Nat.beq x1.toNat x1.toNat then Int.tmod (u76_0_1 ap tp aq tq fp fq x0 x1) (1000000:Int) else S.at' x2 x1.toNat)<0)) (g9 (u76_0_0 x1 x2) (g9 (decide (x1.toNat<x2.length)) (g9 (lim .i64 ((bif Nat.beq x1.toNat x1.toNat then Int.tmod (u76_0_1 ap tp aq tq fp fq x0 x1) (1000000:Int) else S.at' x2 x1.toNat)+1000000)) (g9 (u76_0_0 x1 x2) (g9 (decide (x1.toNat<x2.length)) (g9 (lim .i64 (Int.tdiv (u76_0_1 ap tp aq tq fp fq x0 x1) (1000000:Int)-1)) (g9 (lim .i64 (x1+1)) (fA (hd Tryz.f146 0) ([.loose ⟨1,1,aq,0⟩ nq,.int .i64 fp,.int .i64 fq,.own 2 1 x2.length,.int .i64 (Int.tdiv (u76_0_1 ap tp aq tq fp fq x0 x1) (1000000:Int)-1),.loose ⟨0,1,ap,0⟩ np,.int .i64 (np:Int),.int .i64 (x1+1)]) ([[(1,false,CB mq tq),(0,false,CB mp tp),(2,true,.cols x2.length [.int .i64 fun j=>bif Nat.beq j x1.toNat then (bif Nat.beq x1.toNat x1.toNat then Int.tmod (u76_0_1 ap tp aq tq fp fq x0 x1) (1000000:Int) else S.at' x2 x1.toNat)+1000000 else bif Nat.beq j x1.toNat then Int.tmod (u76_0_1 ap tp aq tq fp fq x0 x1) (1000000:Int) else S.at' x2 j])]]) 3) False) False) False) False) False) False) False) (g9 (lim .i64 (x1+1)) (fA (hd Tryz.f146 0) ([.loose ⟨1,1,aq,0⟩ nq,.int .i64 fp,.int .i64 fq,.own 2 1 x2.length,.int .i64 (Int.tdiv (u76_0_1 ap tp aq tq fp fq x0 x1) (1000000:Int)),.loose ⟨0,1,ap,0⟩ np,.int .i64 (np:Int),.int .i64 (x1+1)]) ([[(1,false,CB mq tq),(0,false,CB mp tp),(2,true,.cols x2.length [.int .i64 fun j=>bif Nat.beq j x1.toNat then Int.tmod (u76_0_1 ap tp aq tq fp fq x0 x1) (1000000:Int) else S.at' x2 j])]]) 3) False)) False) False) False)) False) False)) False) False) False) False) (g9 false False (g9 (u76_0_0 x1 x2) (g9 (decide (x1.toNat<x2.length)) (g9 false False (g9 (lim .i64 (Int.tdiv (x0+fp*tp (x1.toNat+ap)) (1000000:Int))) (g9 (u76_0_0 x1 x2) (g9 (decide (x1.toNat<x2.length)) (g9 (decide ((bif Nat.beq x1.toNat x1.toNat then Int.tmod (x0+fp*tp (x1.toNat+ap)) (1000000:Int) else S.at' x2 x1.toNat)<0)) (g9 (u76_0_0 x1 x2) (g9 (decide (x1.toNat<x2.length)) (g9 (lim .i64 ((bif Nat.beq x1.toNat x1.toNat then Int.tmod (x0+fp*tp (x1.toNat+ap)) (1000000:Int) else S.at' x2 x1.toNat)+1000000)) (g9 (u76_0_0 x1 x2) (g9 (decide (x1.toNat<x2.length)) (g9 (lim .i64 (Int.tdiv (x0+fp*tp (x1.toNat+ap)) (1000000:Int)-1)) (g9 (lim .i64 (x1+1)) (fA (hd Tryz.f146 0) ([.loose ⟨1,1,aq,0⟩ nq,.int .i64 fp,.int .i64 fq,.own 2 1 x2.length,.int .i64 (Int.tdiv (x0+fp*tp (x1.toNat+ap)) (1000000:Int)-1),.loose ⟨0,1,ap,0⟩ np,.int .i64 (np:Int),.int .i64 (x1+1)]) ([[(1,false,CB mq tq),(0,false,CB mp tp),(2,true,.cols x2.length [.int .i64 fun j=>bif Nat.beq j x1.toNat then (bif Nat.beq x1.toNat x1.toNat then Int.tmod (x0+fp*tp (x1.toNat+ap)) (1000000:Int) else S.at' x2 x1.toNat)+1000000 else bif Nat.beq j x1.toNat then Int.tmod (x0+fp*tp (x1.toNat+ap)) (1000000:Int) else S.at' x2 j])]]) 3) False) False) False) False) False) False) False) (g9 (lim .i64 (x1+1)) (fA (hd Tryz.f146 0) ([.loose ⟨1,1,aq,0⟩ nq,.int .i64 fp,.int .i64 fq,.own 2 1 x2.length,.int .i64 (Int.tdiv (x0+fp*tp (x1.toNat+ap)) (1000000:Int)),.loose ⟨0,1,ap,0⟩ np,.int .i64 (np:Int),.int .i64 (x1+1)]) ([[(1,false,CB mq tq),(0,false,CB mp tp),(2,true,.cols x2.length [.int .i64 fun j=>bif Nat.beq j x1.toNat then Int.tmod (x0+fp*tp (x1.toNat+ap)) (1000000:Int) else S.at' x2 j])]]) 3) False)) False) False) False)) False) False))) False) False) False) False) (g9 (decide (x2.length≤x2.length)) (g9 (decide (x2.length≤1000000)) (fC (.own 2 1 (S.trim (S.fJ x2.length fun j=>S.at' x2 j)).length) ([[(1,false,CB mq tq),(0,false,CB mp tp),(2,true,CI (S.trim (S.fJ x2.length fun j=>S.at' x2 j)))]]) 4) False) False)
theorem t76_0 (x0 x1:Int) (x2:List Int):run g9 Tryz.env true (xF3 g9) true 400 ⟨146,hd Tryz.f146 0,yc [1,2,3,9,10,16,17,18] [.loose ⟨1,1,aq,0⟩ nq,.int .i64 fp,
 .int .i64 fq,.own 2 1 x2.length,.int .i64 x0,
 .loose ⟨0,1,ap,0⟩ np,.int .i64 (np:Int),
 .int .i64 x1],[[(2,(true,CI x2))],[(0,(false,CB mp tp)),(1,(false,CB mq tq))]],3⟩ (zq 2 [1,2,3,9,10,16,17,18] fA fC)=
  T76_0 g9 fA fC ap np mp tp aq nq mq tq fp fq x0 x1 x2:=by kernel_rfl
noncomputable abbrev J76:Rt76→zQ:=fun r=> [yJ (2+1) ((N76) r)++ [(0,(false,CB mp tp)),(1,(false,CB mq tq))]]
attribute [local irreducible] Int.subNatNat in
theorem a76 {r:Rt76} (h:zX ((q76 ap np mp tp aq nq mq tq fp fq)) ((p76 ap np mp tp aq nq mq tq fp fq)) r):zn Tryz.prog 146 [.loose ⟨0,1,ap,0⟩ np,.loose ⟨1,1,aq,0⟩ nq,.int .i64 fp,.int .i64 fq] [[(0,(false,CB mp tp)),(1,(false,CB mq tq))]] 2 ((V76) r) ((J76 mp tp mq tq) r) 400∧HB Tryz.prog 146:=by
 refine zf Tryz.envOk Tryz.mixed lM ((I76 ap np mp tp aq nq mq tq fp fq)) ((V76)) (J76 mp tp mq tq) (fn:=zS Tryz.f146) (ts:= [1,2,3,9,10,16,17,18]) (n:=400) rfl (by decide) (by simp) (zV rfl) ?_ ?_ ?_ h
 · intro s; cases s<;>exact ⟨ym _ _,by simp [I76],zV rfl,Nat.le_of_ble_eq_true rfl⟩
 · intro fA fC x hS hR h
   refine Holds.eq (te76 cond fA fC ap np mp tp aq nq mq tq fp fq) ?_
   unfold Te76
   unfold p76 at h
   exact zA h (fun c0 h=>zb hS _ h (fun n=>bif Nat.beq n 2 then 2 else n) rfl rfl rfl ⟨(zM (zC rfl) rfl rfl rfl),⟨(zH rfl),⟨(zH rfl),⟨(zZ (zD rfl) rfl zW),⟨(zH rfl),⟨(zM (zC rfl) rfl rfl rfl),⟨(zH rfl),⟨(zH rfl),trivial⟩⟩⟩⟩⟩⟩⟩⟩ rfl (zL (zD rfl) rfl (Nat.le_of_eq zW) (zO (fun _ hj=>z3 (fun (t:Int)=>t) hj) zP) (zB (zC rfl) rfl rfl (zB (zC rfl) rfl rfl zE)))) (fun c0 h=>zF h)
 · intro fA fC x hS hR s h
   cases s with
   | h0 x0 x1 x2=>
    refine Holds.eq (t76_0 cond fA fC ap np mp tp aq nq mq tq fp fq x0 x1 x2) ?_
    unfold T76_0
    rw [q76] at h
    refine zA h (fun c0 h=>zA h (fun c1 h=>zA h (fun c2 h=>zA h (fun c3 h=>zA h (fun c4 h=>zA h (fun c5 h=>zA h (fun c6 h=>zA h (fun c7 h=>zA h (fun c8 h=>zA h (fun c9 h=>za rfl (zA h (fun c10 h=>zA h (fun c11 h=>za rfl (zA h (fun c12 h=>zJ c10 (zJ c11 (zA h (fun c13 h=>zJ c10 (zJ c11 (zA h (fun c14 h=>zJ c10 (zJ c11 (zA h (fun c15 h=>zA h (fun c16 h=> ?_) (fun c16 h=> ?_)) (fun c15 h=> ?_)))) (fun c14 h=> ?_)))) (fun c13 h=>zA h (fun c14 h=> ?_) (fun c14 h=> ?_))))) (fun c12 h=> ?_))) (fun c11 h=> ?_)) (fun c10 h=> ?_))) (fun c9 h=> ?_)) (fun c8 h=> ?_)) (fun c7 h=> ?_)) (fun c6 h=> ?_)) (fun c5 h=>za rfl (zA h (fun c6 h=>zA h (fun c7 h=>za rfl (zA h (fun c8 h=>zJ c6 (zJ c7 (zA h (fun c9 h=>zJ c6 (zJ c7 (zA h (fun c10 h=>zJ c6 (zJ c7 (zA h (fun c11 h=>zA h (fun c12 h=> ?_) (fun c12 h=> ?_)) (fun c11 h=> ?_)))) (fun c10 h=> ?_)))) (fun c9 h=>zA h (fun c10 h=> ?_) (fun c10 h=> ?_))))) (fun c8 h=> ?_))) (fun c7 h=> ?_)) (fun c6 h=> ?_)))) (fun c4 h=> ?_)) (fun c3 h=> ?_)) (fun c2 h=> ?_)) (fun c1 h=> ?_)) (fun c0 h=>zA h (fun c1 h=>zA h (fun c2 h=>zU hR _ h (fun n=>bif Nat.beq n 3 then 2 else n) rfl rfl rfl (zZ (zD rfl) rfl rfl) rfl (zL (zD rfl) rfl (Nat.le_of_eq rfl) (zO (fun _ _=>rfl) zP) (zB (zC rfl) rfl rfl (zB (zC rfl) rfl rfl zE)))) (fun c2 h=> ?_)) (fun c1 h=> ?_))
    all_goals first
      |exact zF h
      |exact zb hS _ h (fun n=>bif Nat.beq n 2 then 2 else n) rfl rfl rfl ⟨(zM (zC rfl) rfl rfl rfl),⟨(zH rfl),⟨(zH rfl),⟨(zZ (zD rfl) rfl zW),⟨(zH rfl),⟨(zM (zC rfl) rfl rfl rfl),⟨(zH rfl),⟨(zH rfl),trivial⟩⟩⟩⟩⟩⟩⟩⟩ rfl (zL (zD rfl) rfl (Nat.le_of_eq zW) (zO (fun _ hj=>z3 (fun (t:Int)=>t) hj) zP) (zB (zC rfl) rfl rfl (zB (zC rfl) rfl rfl zE)))
end
noncomputable abbrev w76 {α:Type} (g:Nat→Nat→Nat→(Nat→Int)→Nat→Nat→Nat→(Nat→Int)→Int→Int→α) (x:(Nat×Nat×Nat×(Nat→Int)×Unit)×(Nat×Nat×Nat×(Nat→Int)×Unit)×Int×Int×Unit):α:=g x.1.1 x.1.2.1 x.1.2.2.1 x.1.2.2.2.1 x.2.1.1 x.2.1.2.1 x.2.1.2.2.1 x.2.1.2.2.2.1 x.2.2.1 x.2.2.2.1
noncomputable def k76:Con:=⟨146,[.one (.list [.int .i64]),.one (.list [.int .i64]),.one (.plain (.int .i64)),.one (.plain (.int .i64))],w76 (fun ap np mp tp aq nq mq tq fp fq=>decide ((ap+np≤mp∧aq+nq≤mq)∧(np≤900∧nq≤np)∧(S.fG np (FS tp ap)=true∧S.fG nq (FS tq aq)=true)∧(-1000000000≤fp∧fp≤1000000000)∧(-1000000000≤fq∧fq≤1000000000)∧0≤fp*(S.val np (FS tp ap))+fq*(S.val nq (FS tq aq))∧fp*(S.val np (FS tp ap))+fq*(S.val nq (FS tq aq))≤(S.val np (FS tp ap)))),w76 (fun ap np mp tp aq nq mq tq fp fq=>(V76) (S.fX (fp*(S.val np (FS tp ap))+fq*(S.val nq (FS tq aq))))),w76 (fun ap np mp tp aq nq mq tq fp fq=>(N76) (S.fX (fp*(S.val np (FS tp ap))+fq*(S.val nq (FS tq aq))))),fun _ _=> .dead⟩
theorem s76' (ap np mp:Nat) (tp:Nat→Int) (aq nq mq:Nat) (tq:Nat→Int) (fp fq:Int) (hp:(ap+np≤mp∧aq+nq≤mq)∧(np≤900∧nq≤np)∧(S.fG np (fun j=>tp (j+ap))=true∧S.fG nq (fun j=>tq (j+aq))=true)∧(-1000000000≤fp∧fp≤1000000000)∧(-1000000000≤fq∧fq≤1000000000)∧0≤fp*(S.val np (fun j=>tp (j+ap)))+fq*(S.val nq (fun j=>tq (j+aq)))∧fp*(S.val np (fun j=>tp (j+ap)))+fq*(S.val nq (fun j=>tq (j+aq)))≤(S.val np (fun j=>tp (j+ap)))): ∀ (k i:Nat) (c:Int) (R:List Int),i+k=np→R.length=np→(∀ j,j<i→0≤S.at' R j∧S.at' R j<1000000)→(-3000000000≤c∧c≤3000000000)→S.fD (S.at' R) 0 i+S.pw i*c=fp*S.fD (fun j=>tp (j+ap)) 0 i+fq*S.fD (fun j=>tq (j+aq)) 0 (min i nq)→Comes (q76 ap np mp tp aq nq mq tq fp fq) (.h0 c (i:Int) R) (S.fX (fp*(S.val np (fun j=>tp (j+ap)))+fq*(S.val nq (fun j=>tq (j+aq))))):=by
 obtain ⟨⟨hp1,hp2⟩,⟨hp3,hp4⟩,⟨hp5,hp6⟩,hp7,hp8,hp9,hp10⟩:=hp
 have dP:=yO.mp hp5
 have dQ:=yO.mp hp6
 intro k
 induction k with
 | zero=>
  intro i c R hi hl hd hc he
  obtain rfl:i=np:=by omega
  rw [Nat.min_eq_right hp4] at he
  have he:S.fD (S.at' R) 0 i+S.pw i*c=fp*S.val i (fun j=>tp (j+ap))+fq*(S.val nq (fun j=>tq (j+aq))):=he
  have oD:=yO.mpr hd
  have v0:=yU oD
  have v1:=yF oD (Nat.le_refl i)
  have w1:=yF hp5 (Nat.le_refl i)
  have pp:=xJ (k:=i)
  have he':S.val i (S.at' R)+S.pw i*c=fp*S.val i (fun j=>tp (j+ap))+fq*(S.val nq (fun j=>tq (j+aq))):=he
  have c0:c=0:=by
   rcases Int.lt_trichotomy c 0 with h|h|h
   · have:S.pw i*c≤S.pw i*(-1):=Int.mul_le_mul_of_nonneg_left (by omega) (by omega)
     omega
   · exact h
   · have:S.pw i*1≤S.pw i*c:=Int.mul_le_mul_of_nonneg_left (by omega) (by omega)
     omega
  rw [c0,Int.mul_zero,Int.add_zero] at he'
  rw [← he']
  have e:=vC (n:=i) (t:=S.at' R) oD
  clear v0 v1 w1 pp he he' hp9 hp10
  apply Comes.of
  rw [q76]
  refine zd (decide_eq_false (by omega)) (zK (decide_eq_true (Nat.le_refl _)) (zK (decide_eq_true (by omega)) (zG.mpr ?_)))
  rw [hl]; exact e
 | succ k ih=>
  intro i c R hi hl hd hc he
  have gp:0≤tp (i+ap)∧tp (i+ap)<1000000:=dP i (by omega)
  have step: ∀ (t G:Int),t=c+fp*tp (i+ap)+fq*G→(0≤G∧G<1000000)→S.fD (fun j=>tq (j+aq)) 0 (min (i+1) nq)=S.fD (fun j=>tq (j+aq)) 0 (min i nq)+S.pw i*G→Comes (q76 ap np mp tp aq nq mq tq fp fq) (.h0 (t / 1000000) (((i+1:Nat):Int)) (S.fJ np fun j=>bif Nat.beq j i then t % 1000000 else S.at' R j)) (S.fX (fp*(S.val np (fun j=>tp (j+ap)))+fq*(S.val nq (fun j=>tq (j+aq))))):=by
   intro t G ht hG hv
   have b1: -(1000000000*1000000)≤fp*tp (i+ap)∧fp*tp (i+ap)≤1000000000*1000000:=nI hp7 gp
   have b2: -(1000000000*1000000)≤fq*G∧fq*G≤1000000000*1000000:=nI hp8 hG
   refine ih (i+1) _ _ (by omega) zW (fun j hj=> ?_) (by omega) ?_
   · rw [y7 (by omega),ql]
     split
     · omega
     · exact hd j (by omega)
   · have e1:S.fD (S.at' (S.fJ np fun j=>bif Nat.beq j i then t % 1000000 else S.at' R j)) 0 (i+1)=S.fD (S.at' R) 0 i+S.pw i*(t % 1000000):=by
      rw [yS,Nat.zero_add,y7 (by omega),ql,if_pos rfl,yA (u:=S.at' R) fun j _ h=>by rw [y7 (by omega),ql,if_neg (by omega)]]
     have e2:S.fD (fun j=>tp (j+ap)) 0 (i+1)=S.fD (fun j=>tp (j+ap)) 0 i+S.pw i*tp (i+ap):=by
      rw [yS,Nat.zero_add]
     have e3:S.pw (i+1)=S.pw i*1000000:=Int.mul_comm _ _
     have e4:t % 1000000+1000000*(t / 1000000)=t:=Int.emod_add_mul_ediv t 1000000
     have e5:S.pw i*(t % 1000000)+S.pw i*(1000000*(t / 1000000))=S.pw i*c+S.pw i*(fp*tp (i+ap))+S.pw i*(fq*G):=by
      rw [← Int.mul_add,e4,ht,Int.mul_add,Int.mul_add]
     rw [e1,e2,e3,hv,Int.mul_assoc,Int.mul_add,Int.mul_add,Int.mul_left_comm fp,Int.mul_left_comm fq]
     omega
  have b1: -(1000000000*1000000)≤fp*tp (i+ap)∧fp*tp (i+ap)≤1000000000*1000000:=nI hp7 gp
  have ei:((i+1:Nat):Int)=(i:Int)+1:=by omega
  have hx:i+ap<mp:=by omega
  have hw:i<np:=by omega
  have hv:(0:Int)≤(i:Int)∧(i:Int)<(np:Int):=by omega
  clear ih hp9 hp10 hp5 hp6 dP he
  by_cases hn:i<nq
  · have gq:0≤tq (i+aq)∧tq (i+aq)<1000000:=dQ i (by omega)
    have hy:i+aq<mq:=by omega
    have hs:=step _ (tq (i+aq)) rfl gq (by rw [Nat.min_eq_left (by omega:i+1≤nq),Nat.min_eq_left (by omega:i≤nq),yS,Nat.zero_add])
    have b2: -(1000000000*1000000)≤fq*tq (i+aq)∧fq*tq (i+aq)≤1000000000*1000000:=nI hp8 gq
    clear step dQ
    have hT:=iB (c+fp*tp (i+ap)+fq*tq (i+aq))
    have bT: -2000003000000000≤c+fp*tp (i+ap)+fq*tq (i+aq)∧c+fp*tp (i+ap)+fq*tq (i+aq)≤2000003000000000:=by omega
    rw [ei] at hs
    subst hl
    have hb: ∀ x y:Int,(bif Nat.beq i i then x else y)=x:=fun x y=>by rw [Nat.beq_refl]; rfl
    have hz:(0:Int)≤(i:Int)∧(i:Int)<(nq:Int):=by omega
    apply Comes.of
    rw [q76,Int.toNat_natCast]
    by_cases hm:Int.tmod (c+fp*tp (i+ap)+fq*tq (i+aq)) 1000000<0
    · obtain ⟨h1,h2⟩:=hT.1 hm
      clear hT
      rw [h1,h2] at hs
      have eL:(S.fJ R.length fun j=>bif Nat.beq j i then Int.tmod (c+fp*tp (i+ap)+fq*tq (i+aq)) 1000000+1000000 else bif Nat.beq j i then Int.tmod (c+fp*tp (i+ap)+fq*tq (i+aq)) 1000000 else S.at' R j)=S.fJ R.length fun j=>bif Nat.beq j i then Int.tmod (c+fp*tp (i+ap)+fq*tq (i+aq)) 1000000+1000000 else S.at' R j:=xk fun j _=>by
       cases Nat.beq j i<;>rfl
      rw [← eL] at hs
      clear eL
      repeat' first
        |(with_reducible refine zK ?_ ?_; focus (first|with_reducible exact decide_eq_true hx|with_reducible exact decide_eq_true hw|with_reducible exact decide_eq_true hv|with_reducible exact decide_eq_true hy|with_reducible exact decide_eq_true hz|(apply decide_eq_true; rw [hb]; exact hm)|(rw [yu]; apply decide_eq_true; omega)|(rw [hb,yu]; apply decide_eq_true; omega)|(apply decide_eq_true; omega)))
        |(with_reducible refine zd ?_ ?_; focus (first|(apply decide_eq_false; rw [hb]; exact hm)|(apply decide_eq_false; omega)))
      rw [hb]
      exact hs
    · obtain ⟨h1,h2⟩:=hT.2 hm
      clear hT
      rw [h1,h2] at hs
      repeat' first
        |(with_reducible refine zK ?_ ?_; focus (first|with_reducible exact decide_eq_true hx|with_reducible exact decide_eq_true hw|with_reducible exact decide_eq_true hv|with_reducible exact decide_eq_true hy|with_reducible exact decide_eq_true hz|(apply decide_eq_true; rw [hb]; exact hm)|(rw [yu]; apply decide_eq_true; omega)|(rw [hb,yu]; apply decide_eq_true; omega)|(apply decide_eq_true; omega)))
        |(with_reducible refine zd ?_ ?_; focus (first|(apply decide_eq_false; rw [hb]; exact hm)|(apply decide_eq_false; omega)))
      exact hs
  · have hs:=step (c+fp*tp (i+ap)) 0 (by rw [Int.mul_zero,Int.add_zero]) (by omega) (by rw [Nat.min_eq_right (by omega:nq≤i+1),Nat.min_eq_right (by omega:nq≤i),Int.mul_zero,Int.add_zero])
    clear step dQ
    have hT:=iB (c+fp*tp (i+ap))
    have bT: -2000003000000000≤c+fp*tp (i+ap)∧c+fp*tp (i+ap)≤2000003000000000:=by omega
    rw [ei] at hs
    subst hl
    have hb: ∀ x y:Int,(bif Nat.beq i i then x else y)=x:=fun x y=>by rw [Nat.beq_refl]; rfl
    skip
    apply Comes.of
    rw [q76,Int.toNat_natCast]
    by_cases hm:Int.tmod (c+fp*tp (i+ap)) 1000000<0
    · obtain ⟨h1,h2⟩:=hT.1 hm
      clear hT
      rw [h1,h2] at hs
      have eL:(S.fJ R.length fun j=>bif Nat.beq j i then Int.tmod (c+fp*tp (i+ap)) 1000000+1000000 else bif Nat.beq j i then Int.tmod (c+fp*tp (i+ap)) 1000000 else S.at' R j)=S.fJ R.length fun j=>bif Nat.beq j i then Int.tmod (c+fp*tp (i+ap)) 1000000+1000000 else S.at' R j:=xk fun j _=>by
       cases Nat.beq j i<;>rfl
      rw [← eL] at hs
      clear eL
      repeat' first
        |(with_reducible refine zK ?_ ?_; focus (first|with_reducible exact decide_eq_true hx|with_reducible exact decide_eq_true hw|with_reducible exact decide_eq_true hv|(apply decide_eq_true; rw [hb]; exact hm)|(rw [yu]; apply decide_eq_true; omega)|(rw [hb,yu]; apply decide_eq_true; omega)|(apply decide_eq_true; omega)))
        |(with_reducible refine zd ?_ ?_; focus (first|(apply decide_eq_false; rw [hb]; exact hm)|(apply decide_eq_false; omega)))
      rw [hb]
      exact hs
    · obtain ⟨h1,h2⟩:=hT.2 hm
      clear hT
      rw [h1,h2] at hs
      repeat' first
        |(with_reducible refine zK ?_ ?_; focus (first|with_reducible exact decide_eq_true hx|with_reducible exact decide_eq_true hw|with_reducible exact decide_eq_true hv|(apply decide_eq_true; rw [hb]; exact hm)|(rw [yu]; apply decide_eq_true; omega)|(rw [hb,yu]; apply decide_eq_true; omega)|(apply decide_eq_true; omega)))
        |(with_reducible refine zd ?_ ?_; focus (first|(apply decide_eq_false; rw [hb]; exact hm)|(apply decide_eq_false; omega)))
      exact hs
theorem s76 (ap np mp:Nat) (tp:Nat→Int) (aq nq mq:Nat) (tq:Nat→Int) (fp fq:Int) (hp:(ap+np≤mp∧aq+nq≤mq)∧(np≤900∧nq≤np)∧(S.fG np (fun j=>tp (j+ap))=true∧S.fG nq (fun j=>tq (j+aq))=true)∧(-1000000000≤fp∧fp≤1000000000)∧(-1000000000≤fq∧fq≤1000000000)∧0≤fp*(S.val np (fun j=>tp (j+ap)))+fq*(S.val nq (fun j=>tq (j+aq)))∧fp*(S.val np (fun j=>tp (j+ap)))+fq*(S.val nq (fun j=>tq (j+aq)))≤(S.val np (fun j=>tp (j+ap)))):zX ((q76 ap np mp tp aq nq mq tq fp fq)) ((p76 ap np mp tp aq nq mq tq fp fq)) (S.fX (fp*(S.val np (fun j=>tp (j+ap)))+fq*(S.val nq (fun j=>tq (j+aq))))):=by
 have hp':=hp
 obtain ⟨⟨hp1,hp2⟩,⟨hp3,hp4⟩,-⟩:=hp
 have hm:=s76' ap np mp tp aq nq mq tq fp fq hp' np 0 0 (S.fJ np fun _=>0) (by omega) zW (fun j hj=>by omega) (by omega) (by
  rw [Nat.min_eq_left (Nat.zero_le _)]
  simp only [S.fD,Int.mul_zero,Int.add_zero])
 unfold p76
 with_reducible refine zK ?_ ?_
 · apply decide_eq_true; omega
 exact hm
theorem k76_ok:k76.ok Tryz.prog:=by
 intro x hx
 obtain ⟨⟨ap,np,mp,tp,_⟩,⟨aq,nq,mq,tq,_⟩,fp,fq,_⟩:=x
 obtain ⟨h1,h2⟩:=a76 ap np mp tp aq nq mq tq fp fq (s76 ap np mp tp aq nq mq tq fp fq (zo hx rfl))
 exact ⟨⟨400,(by decide:2+1+1≤400),h1⟩,h2⟩
noncomputable def xG5 (g9:Bool→Prop→Prop→Prop):Ext:=xK g9 [k65v,k60,k61,k44,k55,k54,k74,k77,k75,k76,k45]
theorem gZ:yZ Tryz.prog (xG5 cond):=yN ⟨k65v_ok,k60_ok,k61_ok,k44_ok,k55_ok,k54_ok,k74_ok,k77_ok,k75_ok,k76_ok,k45_ok,trivial⟩
namespace S
noncomputable def fO (a b:Int):Int:=((Int.gcd a b:Nat):Int)
end S
theorem vL {a b:Int}:S.fO b (a % b)=S.fO a b:=by
 unfold S.fO
 have h:=nD (A:=a) (B:=b) (p:=0) (q:=1) (r:=1) (s:= -(a / b)) (.inr (by omega))
 have e:=Int.mul_ediv_add_emod a b
 rw [show 0*a+1*b=b by omega,show 1*a+ -(a / b)*b=a % b by have e2:a / b*b=b*(a / b):=Int.mul_comm _ _; rw [Int.neg_mul]; omega] at h
 rw [h]
theorem wa {a:Int} (h:0≤a):S.fO a 0=a:=by
 unfold S.fO
 rw [Int.gcd_zero_right]; omega
theorem nx {a b:Int}:S.fO a b=S.fO b a:=by
 unfold S.fO
 rw [Int.gcd_comm]
theorem g6 {x:Int} (h:0≤x∧x<9223372036854775808):IntKind.u64.wrap x=x:=by
 first|(rw [IntKind.wrap_u64]; omega)|(show x % 18446744073709551616=x; omega)|(simp [IntKind.wrap]; omega)
theorem jv: ∀ {n:Nat} {t:Nat→Int},S.fF n t=true→S.fJ n t=S.trim (S.fJ n t)
  |0,_,_=>rfl
  |n+1,t,h=>by
   rcases (zl.mp h).2 with h|h
   · omega
   · exact (tG h).symm
section
variable (g9:TT) (fA:KS) (fC:KR) (ap np mp:Nat) (tp:NI) (aq nq mq:Nat) (tq:NI)
noncomputable abbrev c63_0_0 (x0 x1:List Int):=S.fc (S.fD (fun j=>S.at' x0 j) (x0.length-3) 3) (S.fD (fun j=>S.at' x1 j) (x0.length-3) (x1.length-(x0.length-3)))
noncomputable abbrev c63_0_1 (x0 x1:List Int):=decide ((0+x0.length≤x0.length∧0+x1.length≤x1.length)∧(x0.length≤900∧x1.length≤x0.length)∧((S.fG x0.length fun j=>S.at' x0 j)=true∧(S.fG x1.length fun j=>S.at' x1 j)=true)∧((-1000000000:Int)≤Prod.fst (Prod.snd (Prod.snd (c63_0_0 x0 x1)))∧Prod.fst (Prod.snd (Prod.snd (c63_0_0 x0 x1)))≤1000000000)∧((-1000000000:Int)≤Prod.snd (Prod.snd (Prod.snd (c63_0_0 x0 x1)))∧Prod.snd (Prod.snd (Prod.snd (c63_0_0 x0 x1)))≤1000000000)∧((0:Int)≤(Prod.fst (Prod.snd (Prod.snd (c63_0_0 x0 x1)))*S.val x0.length fun j=>S.at' x0 j)+Prod.snd (Prod.snd (Prod.snd (c63_0_0 x0 x1)))*S.val x1.length fun j=>S.at' x1 j)∧((Prod.fst (Prod.snd (Prod.snd (c63_0_0 x0 x1)))*S.val x0.length fun j=>S.at' x0 j)+Prod.snd (Prod.snd (Prod.snd (c63_0_0 x0 x1)))*S.val x1.length fun j=>S.at' x1 j)≤S.val x0.length fun j=>S.at' x0 j)
noncomputable abbrev c63_0_2 (x0 x1:List Int):=decide ((0+x0.length≤x0.length∧0+x1.length≤x1.length)∧(x0.length≤900∧x1.length≤x0.length)∧((S.fG x0.length fun j=>S.at' x0 j)=true∧(S.fG x1.length fun j=>S.at' x1 j)=true)∧((-1000000000:Int)≤Prod.fst (c63_0_0 x0 x1)∧Prod.fst (c63_0_0 x0 x1)≤1000000000)∧((-1000000000:Int)≤Prod.fst (Prod.snd (c63_0_0 x0 x1))∧Prod.fst (Prod.snd (c63_0_0 x0 x1))≤1000000000)∧((0:Int)≤(Prod.fst (c63_0_0 x0 x1)*S.val x0.length fun j=>S.at' x0 j)+Prod.fst (Prod.snd (c63_0_0 x0 x1))*S.val x1.length fun j=>S.at' x1 j)∧((Prod.fst (c63_0_0 x0 x1)*S.val x0.length fun j=>S.at' x0 j)+Prod.fst (Prod.snd (c63_0_0 x0 x1))*S.val x1.length fun j=>S.at' x1 j)≤S.val x0.length fun j=>S.at' x0 j)
noncomputable abbrev c63_0_3 (x0 x1:List Int):=S.fc (S.fD (fun j=>S.at' x0 j) (x0.length-3) 3) (S.fD (fun j=>S.at' x1 j) (x0.length-3) (x1.length-(x0.length-3)))
inductive St63 where
 |h0 (x0:List Int) (x1:List Int)
 |h1 (x0:Int) (x1:Int)
abbrev Rt63:=List Int
noncomputable def V63 (r:Rt63):PV:= .own 3 1 r.length
noncomputable def N63 (r:Rt63):List Blk:= [CI r]
noncomputable def I63:St63→Hd
  | .h0 x0 x1=>⟨hd Tryz.f126 0,[.own 2 1 x0.length,.own 3 1 x1.length,
 .unk,.unk],[[(2,(true,CI x0)),(3,(true,CI x1))],[(0,(false,CB mp tp)),(1,(false,CB mq tq))]],4⟩
  | .h1 x0 x1=>⟨hd Tryz.f126 1,[.unk,.unk,.int .i64 x0,.int .i64 x1],[[],[(0,(false,CB mp tp)),(1,(false,CB mq tq))]],2⟩
noncomputable def q63 (ap np mp:Nat) (tp:NI) (aq nq mq:Nat) (tq:NI):St63→Option (St63⊕Rt63)| .h0 x0 x1=>bif (decide ((↑(x0.length):Int)>3)) then (bif (decide ((↑(x1.length):Int)>0)) then (bif (decide ((0+x0.length≤x0.length∧0+x1.length≤x1.length)∧(3<x0.length∧x0.length≤900∧x1.length≤x0.length)∧(S.fG x0.length fun j=>S.at' x0 j)=true∧(S.fG x1.length fun j=>S.at' x1 j)=true∧(S.val x1.length fun j=>S.at' x1 j)≤S.val x0.length fun j=>S.at' x0 j)) then (bif (Prod.fst (Prod.snd (c63_0_3 x0 x1))==0) then (bif (decide ((0+x0.length≤x0.length∧0+x1.length≤x1.length)∧(x0.length≤900∧x1.length≤900)∧(S.fF x0.length fun j=>S.at' x0 j)=true∧(S.fF x1.length fun j=>S.at' x1 j)=true∧0<x1.length)) then (some (.inl (.h0 x1 (S.fX ((S.val x0.length fun j=>S.at' x0 j) % S.val x1.length fun j=>S.at' x1 j))))) else none) else (bif (c63_0_2 x0 x1) then (bif (c63_0_1 x0 x1) then (some (.inl (.h0 (S.fX ((Prod.fst (c63_0_3 x0 x1)*S.val x0.length fun j=>S.at' x0 j)+Prod.fst (Prod.snd (c63_0_3 x0 x1))*S.val x1.length fun j=>S.at' x1 j)) (S.fX ((Prod.fst (Prod.snd (Prod.snd (c63_0_3 x0 x1)))*S.val x0.length fun j=>S.at' x0 j)+Prod.snd (Prod.snd (Prod.snd (c63_0_3 x0 x1)))*S.val x1.length fun j=>S.at' x1 j))))) else none) else none)) else none) else (bif ((↑(x1.length):Int)==0) then (some (.inr x0)) else (bif (decide (0+x0.length≤x0.length∧x0.length≤1000∧(S.fG x0.length fun j=>S.at' x0 j)=true∧(0:Int)≤0∧(0:Int)≤1000)) then (bif (decide (0+x1.length≤x1.length∧x1.length≤1000∧(S.fG x1.length fun j=>S.at' x1 j)=true∧(0:Int)≤0∧(0:Int)≤1000)) then (some (.inl (.h1 (S.fD (fun j=>S.at' x0 j) 0 (Min.min x0.length 3)) (S.fD (fun j=>S.at' x1 j) 0 (Min.min x1.length 3))))) else none) else none))) else (bif ((↑(x1.length):Int)==0) then (some (.inr x0)) else (bif (decide (0+x0.length≤x0.length∧x0.length≤1000∧(S.fG x0.length fun j=>S.at' x0 j)=true∧(0:Int)≤0∧(0:Int)≤1000)) then (bif (decide (0+x1.length≤x1.length∧x1.length≤1000∧(S.fG x1.length fun j=>S.at' x1 j)=true∧(0:Int)≤0∧(0:Int)≤1000)) then (some (.inl (.h1 (S.fD (fun j=>S.at' x0 j) 0 (Min.min x0.length 3)) (S.fD (fun j=>S.at' x1 j) 0 (Min.min x1.length 3))))) else none) else none))| .h1 x0 x1=>bif (decide (x1>0)) then (bif (decide (x1=0)) then none else (some (.inl (.h1 x1 (Int.tmod x0 x1))))) else (bif (decide ((0:Int)≤IntKind.wrap .u64 x0∧IntKind.wrap .u64 x0≤9223372036854775808)) then (some (.inr (S.fX (IntKind.wrap .u64 x0)))) else none)
noncomputable def p63 (ap np mp:Nat) (tp:NI) (aq nq mq:Nat) (tq:NI):Option (St63⊕Rt63):=bif (decide (ap+np≤mp∧np≤1000000)) then (bif (decide (aq+nq≤mq∧nq≤1000000)) then (bif (decide (0+np≤np∧np≤1000000∧0+nq≤nq∧nq≤1000000∧(S.fF np fun j=>tp (j+ap))=true∧(S.fF nq fun j=>tq (j+aq))=true)) then (bif (decide (S.fV (S.val np fun j=>tp (j+ap)) (S.val nq fun j=>tq (j+aq))<0)) then (some (.inl (.h0 (S.fJ nq fun j=>tq (j+aq)) (S.fJ np fun j=>tp (j+ap))))) else (some (.inl (.h0 (S.fJ np fun j=>tp (j+ap)) (S.fJ nq fun j=>tq (j+aq)))))) else none) else none) else none
def Te63:Prop:=g9 (decide (ap+np≤mp∧np≤1000000)) (g9 (decide (aq+nq≤mq∧nq≤1000000)) (g9 (decide (0+np≤np∧np≤1000000∧0+nq≤nq∧nq≤1000000∧(S.fF np (FS tp ap))=true∧(S.fF nq (FS tq aq))=true)) (g9 (decide (S.fV (S.val np (FS tp ap)) (S.val nq (FS tq aq))<0)) (fA (hd Tryz.f126 0) ([.own 5 1 nq,.own 3 1 np,.unk,.unk]) ([[(1,false,CB mq tq),(0,false,CB mp tp),(3,true,.cols np [.int .i64 fun j=>tp (j+ap)]),(5,true,.cols nq [.int .i64 fun j=>tq (j+aq)])]]) 7) (fA (hd Tryz.f126 0) ([.own 3 1 np,.own 5 1 nq,.unk,.unk]) ([[(1,false,CB mq tq),(0,false,CB mp tp),(5,true,.cols nq [.int .i64 fun j=>tq (j+aq)]),(3,true,.cols np [.int .i64 fun j=>tp (j+ap)])]]) 7)) False) False) False
theorem te63:run g9 Tryz.env true (xG5 g9) true 400 ⟨126,[.cd (zS Tryz.f126).body],yD 0 [.loose ⟨0,1,ap,0⟩ np,.loose ⟨1,1,aq,0⟩ nq],[[],[(0,(false,CB mp tp)),(1,(false,CB mq tq))]],2⟩ (zq 2 [0,1,11,12] fA fC)=
 Te63 g9 fA ap np mp tp aq nq mq tq:=by kernel_rfl
noncomputable abbrev u63_0_0 (x0 x1:List Int):=S.fX (((c63_0_0 x0 x1).2.2.1*S.val x0.length fun j=>S.at' x0 j)+(c63_0_0 x0 x1).2.2.2*S.val x1.length fun j=>S.at' x1 j)
noncomputable abbrev u63_0_1 (x0 x1:List Int):=([PV.own 2 1 x0.length,PV.own 3 1 x1.length,PV.int IntKind.i64 (S.fD (fun j=>S.at' x0 j) 0 (Min.min x0.length 3)),PV.int IntKind.i64 (S.fD (fun j=>S.at' x1 j) 0 (Min.min x1.length 3))])
noncomputable abbrev u63_0_2 (x0:List Int):=(2,true,Blk.cols x0.length [Col.int IntKind.i64 fun j=>S.at' x0 j])
noncomputable abbrev u63_0_3 (x0:List Int):=decide (0+x0.length≤x0.length∧x0.length≤1000∧(S.fG x0.length fun j=>S.at' x0 j)=true∧(0:Int)≤(0:Int)∧(0:Int)≤(1000:Int))
noncomputable abbrev u63_0_4 (x1:List Int):=decide (0+x1.length≤x1.length∧x1.length≤1000∧(S.fG x1.length fun j=>S.at' x1 j)=true∧(0:Int)≤(0:Int)∧(0:Int)≤(1000:Int))
def T63_0 (x0 x1:List Int):Prop:=g9 (decide ((↑(x0.length):Int)>3)) (g9 (decide ((↑(x1.length):Int)>0)) (g9 (decide ((0+x0.length≤x0.length∧0+x1.length≤x1.length)∧(3<x0.length∧x0.length≤900∧x1.length≤x0.length)∧(S.fG x0.length fun j=>S.at' x0 j)=true∧(S.fG x1.length fun j=>S.at' x1 j)=true∧(S.val x1.length fun j=>S.at' x1 j)≤S.val x0.length fun j=>S.at' x0 j)) (g9 ((c63_0_3 x0 x1).2.1==0) (g9 (decide ((0+x0.length≤x0.length∧0+x1.length≤x1.length)∧(x0.length≤900∧x1.length≤900)∧(S.fF x0.length fun j=>S.at' x0 j)=true∧(S.fF x1.length fun j=>S.at' x1 j)=true∧0<x1.length)) (fA (hd Tryz.f126 0) ([.own 3 1 x1.length,.own 6 1 (S.fX ((S.val x0.length fun j=>S.at' x0 j) % S.val x1.length fun j=>S.at' x1 j)).length,.unk,.unk]) ([[(1,false,CB mq tq),(0,false,CB mp tp),(6,true,CI (S.fX ((S.val x0.length fun j=>S.at' x0 j) % S.val x1.length fun j=>S.at' x1 j))),(3,true,CI x1)]]) 8) False) (g9 (c63_0_2 x0 x1) (g9 (c63_0_1 x0 x1) (fA (hd Tryz.f126 0) ([.own 6 1 (S.fX (((c63_0_3 x0 x1).1*S.val x0.length fun j=>S.at' x0 j)+(c63_0_0 x0 x1).2.1*S.val x1.length fun j=>S.at' x1 j)).length,.own 8 1 (u63_0_0 x0 x1).length,.unk,.unk]) ([[(1,false,CB mq tq),(0,false,CB mp tp),(8,true,CI (u63_0_0 x0 x1)),(6,true,CI (S.fX (((c63_0_0 x0 x1).1*S.val x0.length fun j=>S.at' x0 j)+(c63_0_0 x0 x1).2.1*S.val x1.length fun j=>S.at' x1 j)))]]) 9) False) False)) False) (g9 ((↑(x1.length):Int)==0) (fC (.own 2 1 x0.length) ([[(1,false,CB mq tq),(0,false,CB mp tp),(u63_0_2 x0)]]) 4) (g9 (u63_0_3 x0) (g9 (u63_0_4 x1) (fA (hd Tryz.f126 1) (u63_0_1 x0 x1) ([[(1,false,CB mq tq),(0,false,CB mp tp),(3,true,CI x1),(u63_0_2 x0)]]) 6) False) False))) (g9 ((↑(x1.length):Int)==0) (fC (.own 2 1 x0.length) ([[(1,false,CB mq tq),(0,false,CB mp tp),(u63_0_2 x0)]]) 4) (g9 (u63_0_3 x0) (g9 (u63_0_4 x1) (fA (hd Tryz.f126 1) (u63_0_1 x0 x1) ([[(1,false,CB mq tq),(0,false,CB mp tp),(3,true,CI x1),(u63_0_2 x0)]]) 6) False) False))
theorem t63_0 (x0 x1:List Int):run g9 Tryz.env true (xG5 g9) true 400 ⟨126,hd Tryz.f126 0,yc [0,1,11,12] [.own 2 1 x0.length,.own 3 1 x1.length,
 .unk,.unk],[[(2,(true,CI x0)),(3,(true,CI x1))],[(0,(false,CB mp tp)),(1,(false,CB mq tq))]],4⟩ (zq 2 [0,1,11,12] fA fC)=
  T63_0 g9 fA fC mp tp mq tq x0 x1:=by kernel_rfl
def T63_1 (x0 x1:Int):Prop:=g9 (decide (x1>0)) (g9 (decide (x1=0)) False (fA (hd Tryz.f126 1) ([.unk,.unk,.int .i64 x1,.int .i64 (Int.tmod x0 x1)]) ([[(1,false,CB mq tq),(0,false,CB mp tp)]]) 2)) (g9 (decide ((0:Int)≤IntKind.wrap .u64 x0∧IntKind.wrap .u64 x0≤9223372036854775808)) (fC (.own 3 1 (S.fX (IntKind.wrap .u64 x0)).length) ([[(1,false,CB mq tq),(0,false,CB mp tp),(3,true,CI (S.fX (IntKind.wrap .u64 x0)))]]) 4) False)
theorem t63_1 (x0 x1:Int):run g9 Tryz.env true (xG5 g9) true 400 ⟨126,hd Tryz.f126 1,yc [0,1,11,12] [.unk,.unk,.int .i64 x0,.int .i64 x1],[[],[(0,(false,CB mp tp)),(1,(false,CB mq tq))]],2⟩ (zq 2 [0,1,11,12] fA fC)=
 T63_1 g9 fA fC mp tp mq tq x0 x1:=by kernel_rfl
noncomputable abbrev J63:Rt63→zQ:=fun r=> [yJ (2+1) ((N63) r)++ [(0,(false,CB mp tp)),(1,(false,CB mq tq))]]
attribute [local irreducible] Int.subNatNat in
theorem a63 {r:Rt63} (h:zX ((q63 ap np mp tp aq nq mq tq)) ((p63 ap np mp tp aq nq mq tq)) r):zn Tryz.prog 126 [.loose ⟨0,1,ap,0⟩ np,.loose ⟨1,1,aq,0⟩ nq] [[(0,(false,CB mp tp)),(1,(false,CB mq tq))]] 2 ((V63) r) ((J63 mp tp mq tq) r) 400∧HB Tryz.prog 126:=by
 refine zf Tryz.envOk Tryz.mixed gZ ((I63 mp tp mq tq)) ((V63)) (J63 mp tp mq tq) (fn:=zS Tryz.f126) (ts:= [0,1,11,12]) (n:=400) rfl (by decide) (by simp) (zV rfl) ?_ ?_ ?_ h
 · intro s; cases s<;>exact ⟨ym _ _,by simp [I63],zV rfl,Nat.le_of_ble_eq_true rfl⟩
 · intro fA fC x hS hR h
   refine Holds.eq (te63 cond fA fC ap np mp tp aq nq mq tq) ?_
   unfold Te63
   unfold p63 at h
   exact zA h (fun c0 h=>zA h (fun c1 h=>zA h (fun c2 h=>zA h (fun c3 h=>zb hS _ h (fun n=>bif Nat.beq n 2 then 5 else bif Nat.beq n 3 then 3 else n) rfl rfl rfl ⟨(zZ (zD rfl) rfl zW),⟨(zZ (zD rfl) rfl zW),⟨(zh _),⟨(zh _),trivial⟩⟩⟩⟩ rfl (zL (zD rfl) rfl (Nat.le_of_eq zW) (zO (fun _ hj=>z3 (fun (t:Int)=>t) hj) zP) (zL (zD rfl) rfl (Nat.le_of_eq zW) (zO (fun _ hj=>z3 (fun (t:Int)=>t) hj) zP) (zB (zC rfl) rfl rfl (zB (zC rfl) rfl rfl zE))))) (fun c3 h=>zb hS _ h (fun n=>bif Nat.beq n 2 then 3 else bif Nat.beq n 3 then 5 else n) rfl rfl rfl ⟨(zZ (zD rfl) rfl zW),⟨(zZ (zD rfl) rfl zW),⟨(zh _),⟨(zh _),trivial⟩⟩⟩⟩ rfl (zL (zD rfl) rfl (Nat.le_of_eq zW) (zO (fun _ hj=>z3 (fun (t:Int)=>t) hj) zP) (zL (zD rfl) rfl (Nat.le_of_eq zW) (zO (fun _ hj=>z3 (fun (t:Int)=>t) hj) zP) (zB (zC rfl) rfl rfl (zB (zC rfl) rfl rfl zE)))))) (fun c2 h=>zF h)) (fun c1 h=>zF h)) (fun c0 h=>zF h)
 · intro fA fC x hS hR s h
   cases s with
   | h0 x0 x1=>
    refine Holds.eq (t63_0 cond fA fC mp tp mq tq x0 x1) ?_
    unfold T63_0
    rw [q63] at h
    refine zA h (fun c0 h=>zA h (fun c1 h=>zA h (fun c2 h=>zA h (fun c3 h=>zA h (fun c4 h=>zb hS _ h (fun n=>bif Nat.beq n 2 then 3 else bif Nat.beq n 3 then 6 else n) rfl rfl rfl ⟨(zZ (zD rfl) rfl rfl),⟨(zZ (zD rfl) rfl rfl),⟨(zh _),⟨(zh _),trivial⟩⟩⟩⟩ rfl (zL (zD rfl) rfl (Nat.le_of_eq rfl) (zO (fun _ _=>rfl) zP) (zL (zD rfl) rfl (Nat.le_of_eq rfl) (zO (fun _ _=>rfl) zP) (zB (zC rfl) rfl rfl (zB (zC rfl) rfl rfl zE))))) (fun c4 h=> ?_)) (fun c3 h=>zA h (fun c4 h=>zA h (fun c5 h=>zb hS _ h (fun n=>bif Nat.beq n 2 then 6 else bif Nat.beq n 3 then 8 else n) rfl rfl rfl ⟨(zZ (zD rfl) rfl rfl),⟨(zZ (zD rfl) rfl rfl),⟨(zh _),⟨(zh _),trivial⟩⟩⟩⟩ rfl (zL (zD rfl) rfl (Nat.le_of_eq rfl) (zO (fun _ _=>rfl) zP) (zL (zD rfl) rfl (Nat.le_of_eq rfl) (zO (fun _ _=>rfl) zP) (zB (zC rfl) rfl rfl (zB (zC rfl) rfl rfl zE))))) (fun c5 h=> ?_)) (fun c4 h=> ?_))) (fun c2 h=> ?_)) (fun c1 h=>zA h (fun c2 h=> ?_) (fun c2 h=>zA h (fun c3 h=>zA h (fun c4 h=> ?_) (fun c4 h=> ?_)) (fun c3 h=> ?_)))) (fun c0 h=>zA h (fun c1 h=> ?_) (fun c1 h=>zA h (fun c2 h=>zA h (fun c3 h=> ?_) (fun c3 h=> ?_)) (fun c2 h=> ?_)))
    all_goals first
      |exact zF h
      |exact zU hR _ h (fun n=>bif Nat.beq n 3 then 2 else n) rfl rfl rfl (zZ (zD rfl) rfl rfl) rfl (zL (zD rfl) rfl (Nat.le_of_eq rfl) (zO (fun _ _=>rfl) zP) (zB (zC rfl) rfl rfl (zB (zC rfl) rfl rfl zE)))
      |exact zb hS _ h (fun n=>n) rfl rfl rfl ⟨(zh _),⟨(zh _),⟨(zH rfl),⟨(zH rfl),trivial⟩⟩⟩⟩ rfl (zB (zC rfl) rfl rfl (zB (zC rfl) rfl rfl zE))
   |h1 x0 x1=>
    refine Holds.eq (t63_1 cond fA fC mp tp mq tq x0 x1) ?_
    unfold T63_1
    rw [q63] at h
    exact zA h (fun c0 h=>zA h (fun c1 h=>zF h) (fun c1 h=>zb hS _ h (fun n=>n) rfl rfl rfl ⟨(zh _),⟨(zh _),⟨(zH rfl),⟨(zH rfl),trivial⟩⟩⟩⟩ rfl (zB (zC rfl) rfl rfl (zB (zC rfl) rfl rfl zE)))) (fun c0 h=>zA h (fun c1 h=>zU hR _ h (fun n=>bif Nat.beq n 3 then 3 else n) rfl rfl rfl (zZ (zD rfl) rfl rfl) rfl (zL (zD rfl) rfl (Nat.le_of_eq rfl) (zO (fun _ _=>rfl) zP) (zB (zC rfl) rfl rfl (zB (zC rfl) rfl rfl zE)))) (fun c1 h=>zF h))
end
noncomputable def k63:Con:=⟨126,[.one (.list [.int .i64]),.one (.list [.int .i64])],w60 (fun ap np mp tp aq nq mq tq=>decide ((ap+np≤mp∧aq+nq≤mq)∧(np≤800∧nq≤800)∧S.fF np (FS tp ap)=true∧S.fF nq (FS tq aq)=true)),w60 (fun ap np mp tp aq nq mq tq=>(V63) (S.fX (S.fO (S.val np (FS tp ap)) (S.val nq (FS tq aq))))),w60 (fun ap np mp tp aq nq mq tq=>(N63) (S.fX (S.fO (S.val np (FS tp ap)) (S.val nq (FS tq aq))))),fun _ _=> .dead⟩
theorem s63e (ap np mp:Nat) (tp:Nat→Int) (aq nq mq:Nat) (tq:Nat→Int): ∀ (k:Nat) (x y:Int),y.toNat<k→(0≤x∧x<9223372036854775808)→(0≤y∧y<9223372036854775808)→Comes (q63 ap np mp tp aq nq mq tq) (.h1 x y) (S.fX (S.fO x y)):=by
 intro k
 induction k with
 |zero=>intro x y h; omega
 | succ k ih=>
  intro x y h hx hy
  apply Comes.of
  rw [q63]
  by_cases h0:y>0
  · have m0:=Int.emod_nonneg x (show y≠0 by omega)
    have m1:=Int.emod_lt_of_pos x h0
    have hm:=ih y (x % y) (by omega) hy (by omega)
    rw [vL,← Int.tmod_eq_emod_of_nonneg hx.1] at hm
    with_reducible refine zK (decide_eq_true h0) ?_
    with_reducible refine zd ?_ ?_
    · exact decide_eq_false (by omega)
    exact hm
  · obtain rfl:y=0:=by omega
    rw [wa hx.1]
    with_reducible refine zd ?_ ?_
    · exact decide_eq_false h0
    rw [g6 hx]
    with_reducible refine zK ?_ ?_
    · apply decide_eq_true; omega
    exact zG.mpr rfl
theorem s63' (ap np mp:Nat) (tp:Nat→Int) (aq nq mq:Nat) (tq:Nat→Int): ∀ (k:Nat) (A B:Int),B.toNat<k→0≤B→B≤A→A<S.pw 900→Comes (q63 ap np mp tp aq nq mq tq) (.h0 (S.fX A) (S.fX B)) (S.fX (S.fO A B)):=by
 intro k
 induction k with
 |zero=>intro A B h; omega
 | succ k ih=>
  intro A B h h0 h1 h2
  have lA:=z7 (v:=A) (n:=900) h2
  have lB:=z7 (v:=B) (n:=900) (by omega)
  have vA:=z4 (v:=A) (by omega)
  have vB:=z4 (v:=B) h0
  have oA:(S.fF (S.fX A).length (fun j=>S.at' (S.fX A) j))=true:=yH
  have oB:(S.fF (S.fX B).length (fun j=>S.at' (S.fX B) j))=true:=yH
  have lBA:(S.fX B).length≤(S.fX A).length:=by
   refine z7 (Int.lt_of_le_of_lt h1 ?_)
   have:=yF (zj oA) (Nat.le_refl _)
   rw [vA] at this
   exact this
  have fin: ¬ ((S.fX A).length>3∧(S.fX B).length>0)→zX (q63 ap np mp tp aq nq mq tq) (bif ((((S.fX B).length:Nat):Int)==0) then (some (.inr (S.fX A))) else (bif decide (0+(S.fX A).length≤(S.fX A).length∧(S.fX A).length≤1000∧(S.fG (S.fX A).length (fun j=>S.at' (S.fX A) j))=true∧(0:Int)≤0∧(0:Int)≤1000) then (bif decide (0+(S.fX B).length≤(S.fX B).length∧(S.fX B).length≤1000∧(S.fG (S.fX B).length (fun j=>S.at' (S.fX B) j))=true∧(0:Int)≤0∧(0:Int)≤1000) then (some (.inl (.h1 (S.fD (fun j=>S.at' (S.fX A) j) 0 (min (S.fX A).length 3)) (S.fD (fun j=>S.at' (S.fX B) j) 0 (min (S.fX B).length 3))))) else none) else none)) (S.fX (S.fO A B)):=by
   intro hn
   by_cases hB:(S.fX B).length=0
   · have e:B=0:=by have:=yy.mp hB; omega
     rw [e,wa (by omega)]
     with_reducible refine zK ?_ ?_
     · rw [yX (by omega)]; rfl
     exact zG.mpr rfl
   · have l3:(S.fX A).length≤3:=by omega
     rw [Nat.min_eq_left l3,Nat.min_eq_left (Nat.le_trans lBA l3)]
     have p3:S.pw 3=1000000000000000000:=rfl
     have wA:=yF (zj oA) l3
     rw [vA] at wA
     have hm:=s63e ap np mp tp aq nq mq tq (B.toNat+1) A B (by omega) ⟨by omega,by omega⟩ ⟨h0,by omega⟩
     have eA:S.fD (fun j=>S.at' (S.fX A) j) 0 (S.fX A).length=A:=vA
     have eB:S.fD (fun j=>S.at' (S.fX B) j) 0 (S.fX B).length=B:=vB
     rw [eA,eB]
     with_reducible refine zd ?_ ?_
     · rw [beq_eq_false_iff_ne]; omega
     with_reducible refine zK ?_ ?_
     · exact decide_eq_true ⟨by omega,by omega,zj oA,by omega,by omega⟩
     with_reducible refine zK ?_ ?_
     · exact decide_eq_true ⟨by omega,by omega,zj oB,by omega,by omega⟩
     exact hm
  apply Comes.of
  rw [q63]
  by_cases g3:(S.fX A).length>3
  · with_reducible refine zK ?_ ?_
    · apply decide_eq_true; omega
    by_cases gB:(S.fX B).length>0
    · with_reducible refine zK ?_ ?_
      · apply decide_eq_true; omega
      have Bp:0<B:=by
       refine Int.not_le.mp fun h=> ?_
       have:=yy.mpr h
       omega
      have hBA:S.val (S.fX B).length (fun j=>S.at' (S.fX B) j)≤S.val (S.fX A).length (fun j=>S.at' (S.fX A) j):=by rw [vA,vB]; exact h1
      obtain ⟨xy1,xy2,xy3⟩:=o9 g3 lBA (zj oA) (zj oB) hBA
      rw [vA] at xy1
      rw [vB] at xy2
      with_reducible refine zK ?_ ?_
      · exact decide_eq_true ⟨⟨by omega,by omega⟩,⟨g3,lA,lBA⟩,zj oA,zj oB,hBA⟩
      clear fin
      obtain ⟨p,q,r,s,hs⟩: ∃ p q r s,c63_0_3 (S.fX A) (S.fX B)=(p,q,r,s):=⟨_,_,_,_,rfl⟩
      have lb:=iV xy3 hs
      have hs':=hs
      unfold c63_0_3 at hs'
      rw [hs]
      by_cases hq:q=0
      · have m1:=Int.emod_lt_of_pos A Bp
        have m0:=Int.emod_nonneg A (show B≠0 by omega)
        have hm:=ih B (A % B) (by omega) m0 (by omega) (by omega)
        rw [vL] at hm
        with_reducible refine zK ?_ ?_
        · rw [hq]; rfl
        with_reducible refine zK ?_ ?_
        · exact decide_eq_true ⟨⟨by omega,by omega⟩,⟨lA,lB⟩,oA,oB,gB⟩
        rw [vA,vB]
        exact hm
      · obtain ⟨⟨k1,k2,k3,k4⟩,k5⟩:=jP xJ xy1 xy2 xy3 hs hq
        have hm:=ih (p*A+q*B) (r*A+s*B) (by omega) k1 k3 (by omega)
        have e5:S.fO (p*A+q*B) (r*A+s*B)=S.fO A B:=by unfold S.fO; rw [k5]
        rw [e5] at hm
        with_reducible refine zd ?_ ?_
        · rw [beq_eq_false_iff_ne]; exact hq
        with_reducible refine zK ?_ ?_
        · unfold c63_0_2; (try unfold c63_0_0); rw [hs',vA,vB]; refine decide_eq_true ?_; dsimp only; exact ⟨⟨by omega,by omega⟩,⟨lA,lBA⟩,⟨zj oA,zj oB⟩,lb.1,lb.2.1,by omega,by omega⟩
        with_reducible refine zK ?_ ?_
        · unfold c63_0_1; (try unfold c63_0_0); rw [hs',vA,vB]; refine decide_eq_true ?_; dsimp only; exact ⟨⟨by omega,by omega⟩,⟨lA,lBA⟩,⟨zj oA,zj oB⟩,lb.2.2.1,lb.2.2.2,by omega,by omega⟩
        rw [vA,vB]
        exact hm
    · with_reducible refine zd ?_ ?_
      · apply decide_eq_false; omega
      exact fin (by omega)
  · with_reducible refine zd ?_ ?_
    · apply decide_eq_false; omega
    exact fin (by omega)
theorem s63 (ap np mp:Nat) (tp:Nat→Int) (aq nq mq:Nat) (tq:Nat→Int) (hp:(ap+np≤mp∧aq+nq≤mq)∧(np≤800∧nq≤800)∧S.fF np (fun j=>tp (j+ap))=true∧S.fF nq (fun j=>tq (j+aq))=true):zX ((q63 ap np mp tp aq nq mq tq)) ((p63 ap np mp tp aq nq mq tq)) (S.fX (S.fO (S.val np (fun j=>tp (j+ap))) (S.val nq (fun j=>tq (j+aq))))):=by
 obtain ⟨⟨hp1,hp2⟩,⟨hp3,hp4⟩,g1,g2⟩:=hp
 have v1:=yU (zj g1)
 have v2:=yU (zj g2)
 have w1:=yF (zj g1) (show np≤900 by omega)
 have w2:=yF (zj g2) (show nq≤900 by omega)
 have eP:S.fJ np (fun j=>tp (j+ap))=S.fX (S.val np (fun j=>tp (j+ap))):=by rw [← vC (zj g1)]; exact jv g1
 have eQ:S.fJ nq (fun j=>tq (j+aq))=S.fX (S.val nq (fun j=>tq (j+aq))):=by rw [← vC (zj g2)]; exact jv g2
 unfold p63
 with_reducible refine zK ?_ ?_
 · exact decide_eq_true ⟨hp1,by omega⟩
 with_reducible refine zK ?_ ?_
 · exact decide_eq_true ⟨hp2,by omega⟩
 with_reducible refine zK ?_ ?_
 · exact decide_eq_true ⟨by omega,by omega,by omega,by omega,g1,g2⟩
 by_cases h:(S.val np (fun j=>tp (j+ap)))<(S.val nq (fun j=>tq (j+aq)))
 · have hm:=s63' ap np mp tp aq nq mq tq ((S.val np (fun j=>tp (j+ap))).toNat+1) (S.val nq (fun j=>tq (j+aq))) (S.val np (fun j=>tp (j+ap))) (by omega) v1 (by omega) w2
   rw [nx,← eP,← eQ] at hm
   with_reducible refine zK ?_ ?_
   · refine decide_eq_true ?_
     unfold S.fV; rw [if_pos h]; decide
   exact hm
 · have hm:=s63' ap np mp tp aq nq mq tq ((S.val nq (fun j=>tq (j+aq))).toNat+1) (S.val np (fun j=>tp (j+ap))) (S.val nq (fun j=>tq (j+aq))) (by omega) v2 (by omega) w1
   rw [← eP,← eQ] at hm
   with_reducible refine zd ?_ ?_
   · refine decide_eq_false ?_
     unfold S.fV; rw [if_neg h]; split<;>decide
   exact hm
theorem k63_ok:k63.ok Tryz.prog:=by
 intro x hx
 obtain ⟨⟨ap,np,mp,tp,_⟩,⟨aq,nq,mq,tq,_⟩,_⟩:=x
 obtain ⟨h1,h2⟩:=a63 ap np mp tp aq nq mq tq (s63 ap np mp tp aq nq mq tq (zo hx rfl))
 exact ⟨⟨400,(by decide:2+1+1≤400),h1⟩,h2⟩
noncomputable def xG6 (g9:Bool→Prop→Prop→Prop):Ext:=xK g9 [k63,k18]
theorem iJ:yZ Tryz.prog (xG6 cond):=yN ⟨k63_ok,k18_ok,trivial⟩
noncomputable def xG7 (g9:Bool→Prop→Prop→Prop):Ext:=xK g9 [k57,k46,k18,k19]
theorem i6:yZ Tryz.prog (xG7 cond):=yN ⟨k57_ok,k46_ok,k18_ok,k19_ok,trivial⟩
namespace S
noncomputable def fN (n1:Bool) (n:Nat) (t:Nat→Int) (n2:Bool) (m:Nat) (u:Nat→Int):Bool×Int×List Int:=if fE n1 n t=true∧fE n2 m u=true then (false,0,fX (fO (val n t) (val m u))) else (false,1,[])
end S
section
variable (g9:TT) (fA:KS) (fC:KR) (n1:Bool) (ap np mp:Nat) (tp:NI) (n2:Bool) (aq nq mq:Nat) (tq:NI)
inductive St35 where
 |h0
 |h1 (x0:List Int)
 |h2 (x0:Nat) (x1:Nat) (x2:List Int) (x3:List Int)
abbrev Rt35:=Bool×Int×List Int
noncomputable def V35 (r:Rt35):PV:= .tup [.agg [.bool r.1,.own 3 1 r.2.2.length],.int .i64 r.2.1]
noncomputable def N35 (r:Rt35):List Blk:= [CI r.2.2]
noncomputable def I35:St35→Hd
  | .h0=>⟨hd Tryz.f61 0,[.ptr ⟨2,0,0,0⟩,
 .loose ⟨0,1,ap,0⟩ np,
 .loose ⟨1,1,aq,0⟩ nq],[[(2,(true,.cells [.tf false,.nils]))],[(0,(false,CB mp tp)),(1,(false,CB mq tq))]],3⟩
  | .h1 x0=>⟨hd Tryz.f61 0,[.ptr ⟨2,0,0,0⟩,
 .loose ⟨1,1,aq,0⟩ nq,
 .loose ⟨3,1,0,0⟩
 (List.length
 (S.fX ((S.val np fun j=>tp (j+ap)) % S.val nq fun j=>tq (j+aq))))],[[(2,(true,.cells [.tf false,.nils])),(3,(true,CI x0))],[(0,(false,CB mp tp)),(1,(false,CB mq tq))]],4⟩
  | .h2 x0 x1 x2 x3=>⟨hd Tryz.f61 0,[.ptr ⟨2,0,0,0⟩,
 .loose ⟨3,1,0,0⟩ x0,
 .loose ⟨4,1,0,0⟩ x1],[[(2,(true,.cells [.tf false,.nils])),(3,(true,CI x2)),(4,(true,CI x3))],[(0,(false,CB mp tp)),(1,(false,CB mq tq))]],5⟩
noncomputable def q35 (n1:Bool) (ap np mp:Nat) (tp:NI) (n2:Bool) (aq nq mq:Nat) (tq:NI):St35→Option (St35⊕Rt35)| .h0=>bif (decide ((nq:Int)>0)) then (bif (decide ((ap+np≤mp∧aq+nq≤mq)∧(np≤900∧nq≤900)∧(S.fF np fun j=>tp (j+ap))=true∧(S.fF nq fun j=>tq (j+aq))=true∧0<nq)) then (some (.inl (.h1 (S.fX ((S.val np fun j=>tp (j+ap)) % S.val nq fun j=>tq (j+aq)))))) else none) else (bif (decide (ap+np≤mp∧np≤1000000∧(S.fG np fun j=>tp (j+ap))=true)) then (some (.inr (S.fW false (S.val np fun j=>tp (j+ap)),(0:Int),S.fX (S.val np fun j=>tp (j+ap))))) else none)| .h1 x0=>bif (decide ((↑((S.fX ((S.val np fun j=>tp (j+ap)) % S.val nq fun j=>tq (j+aq))).length):Int)>0)) then (bif (decide ((aq+nq≤mq∧0+(S.fX ((S.val np fun j=>tp (j+ap)) % S.val nq fun j=>tq (j+aq))).length≤x0.length)∧(nq≤900∧(S.fX ((S.val np fun j=>tp (j+ap)) % S.val nq fun j=>tq (j+aq))).length≤900)∧(S.fF nq fun j=>tq (j+aq))=true∧(S.fF (S.fX ((S.val np fun j=>tp (j+ap)) % S.val nq fun j=>tq (j+aq))).length fun j=>S.at' x0 j)=true∧0<(S.fX ((S.val np fun j=>tp (j+ap)) % S.val nq fun j=>tq (j+aq))).length)) then (some (.inl (.h2 (S.fX ((S.val np fun j=>tp (j+ap)) % S.val nq fun j=>tq (j+aq))).length (S.fX ((S.val nq fun j=>tq (j+aq)) % S.val (S.fX ((S.val np fun j=>tp (j+ap)) % S.val nq fun j=>tq (j+aq))).length fun j=>S.at' x0 j)).length x0 (S.fX ((S.val nq fun j=>tq (j+aq)) % S.val (S.fX ((S.val np fun j=>tp (j+ap)) % S.val nq fun j=>tq (j+aq))).length fun j=>S.at' x0 j))))) else none) else (bif (decide (aq+nq≤mq∧nq≤1000000∧(S.fG nq fun j=>tq (j+aq))=true)) then (some (.inr (S.fW false (S.val nq fun j=>tq (j+aq)),(0:Int),S.fX (S.val nq fun j=>tq (j+aq))))) else none)| .h2 x0 x1 x2 x3=>bif (decide ((x1:Int)>0)) then (bif (decide ((0+x0≤x2.length∧0+x1≤x3.length)∧(x0≤900∧x1≤900)∧(S.fF x0 fun j=>S.at' x2 j)=true∧(S.fF x1 fun j=>S.at' x3 j)=true∧0<x1)) then (some (.inl (.h2 x1 (S.fX ((S.val x0 fun j=>S.at' x2 j) % S.val x1 fun j=>S.at' x3 j)).length x3 (S.fX ((S.val x0 fun j=>S.at' x2 j) % S.val x1 fun j=>S.at' x3 j))))) else none) else (bif (decide (0+x0≤x2.length∧x0≤1000000∧(S.fG x0 fun j=>S.at' x2 j)=true)) then (some (.inr (S.fW false (S.val x0 fun j=>S.at' x2 j),(0:Int),S.fX (S.val x0 fun j=>S.at' x2 j)))) else none)
noncomputable def p35 (n1:Bool) (ap np mp:Nat) (tp:NI) (n2:Bool) (aq nq mq:Nat) (tq:NI):Option (St35⊕Rt35):=bif (decide (ap+np≤mp∧np≤1000000)) then (bif (S.fE n1 np fun j=>tp (j+ap)) then (bif (decide (aq+nq≤mq∧nq≤1000000)) then (bif (S.fE n2 nq fun j=>tq (j+aq)) then (some (.inl (.h0))) else (some (.inr (false,(1:Int),[])))) else none) else (some (.inr (false,(1:Int),[])))) else none
def Te35:Prop:=g9 (decide (ap+np≤mp∧np≤1000000)) (g9 (S.fE n1 np (FS tp ap)) (g9 (decide (aq+nq≤mq∧nq≤1000000)) (g9 (S.fE n2 nq (FS tq aq)) (fA (hd Tryz.f61 0) ([.ptr ⟨4,0,0,0⟩,.loose ⟨0,1,ap,0⟩ np,.loose ⟨1,1,aq,0⟩ nq]) ([[(1,false,CB mq tq),(0,false,CB mp tp),(4,true,.cells [.tf false,.nils])]]) 7) (fC (.tup [.agg [.tf false,.nils],.int .i64 1]) ([[(1,false,CB mq tq),(0,false,CB mp tp)]]) 7)) False) (fC (.tup [.agg [.tf false,.nils],.int .i64 1]) ([[(1,false,CB mq tq),(0,false,CB mp tp)]]) 6)) False
theorem te35:run g9 Tryz.env true (xG7 g9) true 400 ⟨61,[.cd (zS Tryz.f61).body],yD 0 [.agg [.bool n1,.loose ⟨0,1,ap,0⟩ np],.agg [.bool n2,.loose ⟨1,1,aq,0⟩ nq]],[[],[(0,(false,CB mp tp)),(1,(false,CB mq tq))]],2⟩ (zq 2 [4,6,7] fA fC)=
 Te35 g9 fA fC n1 ap np mp tp n2 aq nq mq tq:=by kernel_rfl
def T35_0:Prop:=g9 (decide ((nq:Int)>0)) (g9 (decide ((ap+np≤mp∧aq+nq≤mq)∧(np≤900∧nq≤900)∧(S.fF np (FS tp ap))=true∧(S.fF nq (FS tq aq))=true∧0<nq)) (fA (hd Tryz.f61 0) ([.ptr ⟨2,0,0,0⟩,.loose ⟨1,1,aq,0⟩ nq,.loose ⟨5,1,0,0⟩ (S.fX ((S.val np (FS tp ap)) % S.val nq (FS tq aq))).length]) ([[(1,false,CB mq tq),(0,false,CB mp tp),(5,true,CI (S.fX ((S.val np (FS tp ap)) % S.val nq (FS tq aq)))),(2,true,.cells [.tf false,.nils])]]) 6) False) (g9 (decide (ap+np≤mp∧np≤1000000∧(S.fG np (FS tp ap))=true)) (fC (.tup [.agg [.bool (S.fW false (S.val np (FS tp ap))),.own 4 1 (S.fX (S.val np (FS tp ap))).length],.int .i64 0]) ([[(1,false,CB mq tq),(0,false,CB mp tp),(4,true,CI (S.fX (S.val np (FS tp ap))))]]) 5) False)
theorem t35_0:run g9 Tryz.env true (xG7 g9) true 400 ⟨61,hd Tryz.f61 0,yc [4,6,7] [.ptr ⟨2,0,0,0⟩,
 .loose ⟨0,1,ap,0⟩ np,
 .loose ⟨1,1,aq,0⟩ nq],[[(2,(true,.cells [.tf false,.nils]))],[(0,(false,CB mp tp)),(1,(false,CB mq tq))]],3⟩ (zq 2 [4,6,7] fA fC)=
  T35_0 g9 fA fC ap np mp tp aq nq mq tq:=by kernel_rfl
noncomputable abbrev u35_1_0:=S.fX ((S.val np fun j=>tp (j+ap)) % S.val nq fun j=>tq (j+aq))
def T35_1 (x0:List Int):Prop:=g9 (decide ((↑((u35_1_0 ap np tp aq nq tq).length):Int)>0)) (g9 (decide ((aq+nq≤mq∧0+(u35_1_0 ap np tp aq nq tq).length≤x0.length)∧(nq≤900∧(u35_1_0 ap np tp aq nq tq).length≤900)∧(S.fF nq (FS tq aq))=true∧(S.fF (u35_1_0 ap np tp aq nq tq).length fun j=>S.at' x0 j)=true∧0<(u35_1_0 ap np tp aq nq tq).length)) (fA (hd Tryz.f61 0) ([.ptr ⟨2,0,0,0⟩,.loose ⟨3,1,0,0⟩ (u35_1_0 ap np tp aq nq tq).length,.loose ⟨6,1,0,0⟩ (S.fX ((S.val nq (FS tq aq)) % S.val (u35_1_0 ap np tp aq nq tq).length fun j=>S.at' x0 j)).length]) ([[(1,false,CB mq tq),(0,false,CB mp tp),(6,true,CI (S.fX ((S.val nq (FS tq aq)) % S.val (u35_1_0 ap np tp aq nq tq).length fun j=>S.at' x0 j))),(3,true,CI x0),(2,true,.cells [.tf false,.nils])]]) 7) False) (g9 (decide (aq+nq≤mq∧nq≤1000000∧(S.fG nq (FS tq aq))=true)) (fC (.tup [.agg [.bool (S.fW false (S.val nq (FS tq aq))),.own 5 1 (S.fX (S.val nq (FS tq aq))).length],.int .i64 0]) ([[(1,false,CB mq tq),(0,false,CB mp tp),(5,true,CI (S.fX (S.val nq (FS tq aq))))]]) 6) False)
theorem t35_1 (x0:List Int):run g9 Tryz.env true (xG7 g9) true 400 ⟨61,hd Tryz.f61 0,yc [4,6,7] [.ptr ⟨2,0,0,0⟩,
 .loose ⟨1,1,aq,0⟩ nq,
 .loose ⟨3,1,0,0⟩
 (List.length
 (S.fX ((S.val np fun j=>tp (j+ap)) % S.val nq fun j=>tq (j+aq))))],[[(2,(true,.cells [.tf false,.nils])),(3,(true,CI x0))],[(0,(false,CB mp tp)),(1,(false,CB mq tq))]],4⟩ (zq 2 [4,6,7] fA fC)=
  T35_1 g9 fA fC ap np mp tp aq nq mq tq x0:=by kernel_rfl
def T35_2 (x0 x1:Nat) (x2 x3:List Int):Prop:=g9 (decide ((x1:Int)>0)) (g9 (decide ((0+x0≤x2.length∧0+x1≤x3.length)∧(x0≤900∧x1≤900)∧(S.fF x0 fun j=>S.at' x2 j)=true∧(S.fF x1 fun j=>S.at' x3 j)=true∧0<x1)) (fA (hd Tryz.f61 0) ([.ptr ⟨2,0,0,0⟩,.loose ⟨4,1,0,0⟩ x1,.loose ⟨7,1,0,0⟩ (S.fX ((S.val x0 fun j=>S.at' x2 j) % S.val x1 fun j=>S.at' x3 j)).length]) ([[(1,false,CB mq tq),(0,false,CB mp tp),(7,true,CI (S.fX ((S.val x0 fun j=>S.at' x2 j) % S.val x1 fun j=>S.at' x3 j))),(4,true,CI x3),(2,true,.cells [.tf false,.nils])]]) 8) False) (g9 (decide (0+x0≤x2.length∧x0≤1000000∧(S.fG x0 fun j=>S.at' x2 j)=true)) (fC (.tup [.agg [.bool (S.fW false (S.val x0 fun j=>S.at' x2 j)),.own 6 1 (S.fX (S.val x0 fun j=>S.at' x2 j)).length],.int .i64 0]) ([[(1,false,CB mq tq),(0,false,CB mp tp),(6,true,CI (S.fX (S.val x0 fun j=>S.at' x2 j)))]]) 7) False)
theorem t35_2 (x0 x1:Nat) (x2 x3:List Int):run g9 Tryz.env true (xG7 g9) true 400 ⟨61,hd Tryz.f61 0,yc [4,6,7] [.ptr ⟨2,0,0,0⟩,
 .loose ⟨3,1,0,0⟩ x0,
 .loose ⟨4,1,0,0⟩ x1],[[(2,(true,.cells [.tf false,.nils])),(3,(true,CI x2)),(4,(true,CI x3))],[(0,(false,CB mp tp)),(1,(false,CB mq tq))]],5⟩ (zq 2 [4,6,7] fA fC)=
  T35_2 g9 fA fC mp tp mq tq x0 x1 x2 x3:=by kernel_rfl
noncomputable abbrev J35:Rt35→zQ:=fun r=> [yJ (2+1) ((N35) r)++ [(0,(false,CB mp tp)),(1,(false,CB mq tq))]]
attribute [local irreducible] Int.subNatNat in
theorem a35 {r:Rt35} (h:zX ((q35 n1 ap np mp tp n2 aq nq mq tq)) ((p35 n1 ap np mp tp n2 aq nq mq tq)) r):zn Tryz.prog 61 [.agg [.bool n1,.loose ⟨0,1,ap,0⟩ np],.agg [.bool n2,.loose ⟨1,1,aq,0⟩ nq]] [[(0,(false,CB mp tp)),(1,(false,CB mq tq))]] 2 ((V35) r) ((J35 mp tp mq tq) r) 400∧HB Tryz.prog 61:=by
 refine zf Tryz.envOk Tryz.mixed i6 ((I35 ap np mp tp aq nq mq tq)) ((V35)) (J35 mp tp mq tq) (fn:=zS Tryz.f61) (ts:= [4,6,7]) (n:=400) rfl (by decide) (by simp) (zV rfl) ?_ ?_ ?_ h
 · intro s; cases s<;>exact ⟨ym _ _,by simp [I35],zV rfl,Nat.le_of_ble_eq_true rfl⟩
 · intro fA fC x hS hR h
   refine Holds.eq (te35 cond fA fC n1 ap np mp tp n2 aq nq mq tq) ?_
   unfold Te35
   unfold p35 at h
   exact zA h (fun c0 h=>zA h (fun c1 h=>zA h (fun c2 h=>zA h (fun c3 h=>zb hS _ h (fun n=>bif Nat.beq n 2 then 4 else n) rfl rfl rfl ⟨(yG (zD rfl) rfl rfl),⟨(zM (zC rfl) rfl rfl rfl),⟨(zM (zC rfl) rfl rfl rfl),trivial⟩⟩⟩ rfl (yK (zD rfl) rfl (by simp) (zt ⟨(yW rfl),xw,trivial⟩) (zB (zC rfl) rfl rfl (zB (zC rfl) rfl rfl zE)))) (fun c3 h=>zU hR _ h (fun n=>bif Nat.beq n 3 then 399 else n) rfl rfl rfl (zm ⟨(zg ⟨(zR rfl),(zT rfl),trivial⟩),(zH rfl),trivial⟩) rfl (zY (zD rfl) (zc rfl) (zB (zC rfl) rfl rfl (zB (zC rfl) rfl rfl zE))))) (fun c2 h=>zF h)) (fun c1 h=>zU hR _ h (fun n=>bif Nat.beq n 3 then 399 else n) rfl rfl rfl (zm ⟨(zg ⟨(zR rfl),(zT rfl),trivial⟩),(zH rfl),trivial⟩) rfl (zY (zD rfl) (zc rfl) (zB (zC rfl) rfl rfl (zB (zC rfl) rfl rfl zE))))) (fun c0 h=>zF h)
 · intro fA fC x hS hR s h
   cases s with
   |h0=>
    refine Holds.eq (t35_0 cond fA fC ap np mp tp aq nq mq tq) ?_
    unfold T35_0
    rw [q35] at h
    exact zA h (fun c0 h=>zA h (fun c1 h=>zb hS _ h (fun n=>bif Nat.beq n 2 then 2 else bif Nat.beq n 3 then 5 else n) rfl rfl rfl ⟨(yG (zD rfl) rfl rfl),⟨(zM (zC rfl) rfl rfl rfl),⟨(zM (zD rfl) rfl rfl rfl),trivial⟩⟩⟩ rfl (yK (zD rfl) rfl (by simp) (zt ⟨(yW rfl),xw,trivial⟩) (zL (zD rfl) rfl (Nat.le_of_eq rfl) (zO (fun _ _=>rfl) zP) (zB (zC rfl) rfl rfl (zB (zC rfl) rfl rfl zE))))) (fun c1 h=>zF h)) (fun c0 h=>zA h (fun c1 h=>zU hR _ h (fun n=>bif Nat.beq n 3 then 4 else n) rfl rfl rfl (zm ⟨(zg ⟨(zu rfl),(zZ (zD rfl) rfl rfl),trivial⟩),(zH rfl),trivial⟩) rfl (zL (zD rfl) rfl (Nat.le_of_eq rfl) (zO (fun _ _=>rfl) zP) (zB (zC rfl) rfl rfl (zB (zC rfl) rfl rfl zE)))) (fun c1 h=>zF h))
   |h1 x0=>
    refine Holds.eq (t35_1 cond fA fC ap np mp tp aq nq mq tq x0) ?_
    unfold T35_1
    rw [q35] at h
    exact zA h (fun c0 h=>zA h (fun c1 h=>zb hS _ h (fun n=>bif Nat.beq n 2 then 2 else bif Nat.beq n 3 then 3 else bif Nat.beq n 4 then 6 else n) rfl rfl rfl ⟨(yG (zD rfl) rfl rfl),⟨(zM (zD rfl) rfl rfl rfl),⟨(zM (zD rfl) rfl rfl rfl),trivial⟩⟩⟩ rfl (yK (zD rfl) rfl (by simp) (zt ⟨(yW rfl),xw,trivial⟩) (zL (zD rfl) rfl (Nat.le_of_eq rfl) (zO (fun _ _=>rfl) zP) (zL (zD rfl) rfl (Nat.le_of_eq rfl) (zO (fun _ _=>rfl) zP) (zB (zC rfl) rfl rfl (zB (zC rfl) rfl rfl zE)))))) (fun c1 h=>zF h)) (fun c0 h=>zA h (fun c1 h=>zU hR _ h (fun n=>bif Nat.beq n 3 then 5 else n) rfl rfl rfl (zm ⟨(zg ⟨(zu rfl),(zZ (zD rfl) rfl rfl),trivial⟩),(zH rfl),trivial⟩) rfl (zL (zD rfl) rfl (Nat.le_of_eq rfl) (zO (fun _ _=>rfl) zP) (zB (zC rfl) rfl rfl (zB (zC rfl) rfl rfl zE)))) (fun c1 h=>zF h))
   |h2 x0 x1 x2 x3=>
    refine Holds.eq (t35_2 cond fA fC mp tp mq tq x0 x1 x2 x3) ?_
    unfold T35_2
    rw [q35] at h
    exact zA h (fun c0 h=>zA h (fun c1 h=>zb hS _ h (fun n=>bif Nat.beq n 2 then 2 else bif Nat.beq n 3 then 4 else bif Nat.beq n 4 then 7 else n) rfl rfl rfl ⟨(yG (zD rfl) rfl rfl),⟨(zM (zD rfl) rfl rfl rfl),⟨(zM (zD rfl) rfl rfl rfl),trivial⟩⟩⟩ rfl (yK (zD rfl) rfl (by simp) (zt ⟨(yW rfl),xw,trivial⟩) (zL (zD rfl) rfl (Nat.le_of_eq rfl) (zO (fun _ _=>rfl) zP) (zL (zD rfl) rfl (Nat.le_of_eq rfl) (zO (fun _ _=>rfl) zP) (zB (zC rfl) rfl rfl (zB (zC rfl) rfl rfl zE)))))) (fun c1 h=>zF h)) (fun c0 h=>zA h (fun c1 h=>zU hR _ h (fun n=>bif Nat.beq n 3 then 6 else n) rfl rfl rfl (zm ⟨(zg ⟨(zu rfl),(zZ (zD rfl) rfl rfl),trivial⟩),(zH rfl),trivial⟩) rfl (zL (zD rfl) rfl (Nat.le_of_eq rfl) (zO (fun _ _=>rfl) zP) (zB (zC rfl) rfl rfl (zB (zC rfl) rfl rfl zE)))) (fun c1 h=>zF h))
end
noncomputable def k35:Con:=⟨61,[.agg [.plain (.bool),.list [.int .i64]],.agg [.plain (.bool),.list [.int .i64]]],w48 (fun n1 ap np mp tp n2 aq nq mq tq=>decide ((ap+np≤mp∧np≤1000000)∧aq+nq≤mq∧nq≤1000000)),w48 (fun n1 ap np mp tp n2 aq nq mq tq=>(V35) (S.fN n1 np (FS tp ap) n2 nq (FS tq aq))),w48 (fun n1 ap np mp tp n2 aq nq mq tq=>(N35) (S.fN n1 np (FS tp ap) n2 nq (FS tq aq))),fun _ _=> .dead⟩
theorem s35' (n1:Bool) (ap np mp:Nat) (tp:Nat→Int) (n2:Bool) (aq nq mq:Nat) (tq:Nat→Int): ∀ (k:Nat) (A B:Int),B.toNat<k→(0≤A∧A<S.pw 80)→(0≤B∧B<S.pw 80)→Comes (q35 n1 ap np mp tp n2 aq nq mq tq) (.h2 (S.fX A).length (S.fX B).length (S.fX A) (S.fX B)) (false,0,S.fX (S.fO A B)):=by
 intro k
 induction k with
 |zero=>intro A B h; omega
 | succ k ih=>
  intro A B h hA hB
  have lA:=z7 hA.2
  have lB:=z7 hB.2
  have vA:=z4 hA.1
  have vB:=z4 hB.1
  have oA:(S.fF (S.fX A).length (fun j=>S.at' (S.fX A) j))=true:=yH
  have oB:(S.fF (S.fX B).length (fun j=>S.at' (S.fX B) j))=true:=yH
  apply Comes.of
  rw [q35]
  by_cases h0:B=0
  · rw [h0,wa hA.1]
    with_reducible refine zd ?_ ?_
    · apply decide_eq_false; rw [yX (by omega)]; decide
    with_reducible refine zK ?_ ?_
    · exact decide_eq_true ⟨by omega,by omega,zj oA⟩
    rw [vA]
    exact zG.mpr rfl
  · have hp:=yT (v:=B) (by omega)
    have m0:=Int.emod_nonneg A h0
    have m1:=Int.emod_lt_of_pos A (show 0<B by omega)
    have hm:=ih B (A % B) (by omega) hB ⟨m0,by omega⟩
    rw [vL] at hm
    with_reducible refine zK ?_ ?_
    · apply decide_eq_true; omega
    with_reducible refine zK ?_ ?_
    · exact decide_eq_true ⟨⟨by omega,by omega⟩,⟨by omega,by omega⟩,oA,oB,hp⟩
    rw [vA,vB]
    exact hm
theorem s35 (n1:Bool) (ap np mp:Nat) (tp:Nat→Int) (n2:Bool) (aq nq mq:Nat) (tq:Nat→Int) (hp:(ap+np≤mp∧np≤1000000)∧aq+nq≤mq∧nq≤1000000):zX ((q35 n1 ap np mp tp n2 aq nq mq tq)) ((p35 n1 ap np mp tp n2 aq nq mq tq)) (S.fN n1 np (fun j=>tp (j+ap)) n2 nq (fun j=>tq (j+aq))):=by
 obtain ⟨⟨hp1,hp2⟩,hp3,hp4⟩:=hp
 by_cases g1:S.fE n1 np (fun j=>tp (j+ap))=true
 · by_cases g2:S.fE n2 nq (fun j=>tq (j+aq))=true
   · obtain ⟨l1,k1⟩:=yP g1
     obtain ⟨l2,k2⟩:=yP g2
     have hr:S.fN n1 np (fun j=>tp (j+ap)) n2 nq (fun j=>tq (j+aq))=(false,0,S.fX (S.fO (S.val np (fun j=>tp (j+ap))) (S.val nq (fun j=>tq (j+aq))))):=by unfold S.fN; rw [if_pos ⟨g1,g2⟩]
     rw [hr]
     have v1:=yU (zj k1)
     have v2:=yU (zj k2)
     have w1:=yF (zj k1) l1
     have w2:=yF (zj k2) l2
     have h0:zX (q35 n1 ap np mp tp n2 aq nq mq tq) ((q35 n1 ap np mp tp n2 aq nq mq tq) .h0) (false,0,S.fX (S.fO (S.val np (fun j=>tp (j+ap))) (S.val nq (fun j=>tq (j+aq))))):=by
      rw [q35]
      by_cases hn:nq=0
      · have e:(S.val nq (fun j=>tq (j+aq)))=0:=by subst hn; rfl
        rw [e,wa v1]
        with_reducible refine zd ?_ ?_
        · apply decide_eq_false; omega
        with_reducible refine zK ?_ ?_
        · exact decide_eq_true ⟨hp1,hp2,zj k1⟩
        exact zG.mpr rfl
      · have vp:=ya k2 (by omega)
        with_reducible refine zK ?_ ?_
        · apply decide_eq_true; omega
        with_reducible refine zK ?_ ?_
        · exact decide_eq_true ⟨⟨hp1,hp3⟩,⟨by omega,by omega⟩,k1,k2,by omega⟩
        have m0:=Int.emod_nonneg (S.val np (fun j=>tp (j+ap))) (show (S.val nq (fun j=>tq (j+aq)))≠0 by omega)
        have m1:=Int.emod_lt_of_pos (S.val np (fun j=>tp (j+ap))) vp
        rw [← vL]
        generalize hR:(S.val np (fun j=>tp (j+ap))) % (S.val nq (fun j=>tq (j+aq)))=R at*
        show Comes (q35 n1 ap np mp tp n2 aq nq mq tq) (.h1 (S.fX R)) _
        apply Comes.of
        rw [q35,hR]
        have lR:=z7 (v:=R) (n:=80) (by omega)
        have oR:(S.fF (S.fX R).length (fun j=>S.at' (S.fX R) j))=true:=yH
        have vR:=z4 m0
        by_cases hz:R=0
        · rw [hz,wa v2]
          with_reducible refine zd ?_ ?_
          · apply decide_eq_false; rw [yX (by omega)]; decide
          with_reducible refine zK ?_ ?_
          · exact decide_eq_true ⟨hp3,hp4,zj k2⟩
          exact zG.mpr rfl
        · have hp:=yT (v:=R) (by omega)
          have m2:=Int.emod_nonneg (S.val nq (fun j=>tq (j+aq))) hz
          have m3:=Int.emod_lt_of_pos (S.val nq (fun j=>tq (j+aq))) (show 0<R by omega)
          have hm:=s35' n1 ap np mp tp n2 aq nq mq tq (((S.val nq (fun j=>tq (j+aq))) % R).toNat+1) R ((S.val nq (fun j=>tq (j+aq))) % R) (by omega) ⟨m0,by omega⟩ ⟨m2,by omega⟩
          rw [vL] at hm
          with_reducible refine zK ?_ ?_
          · apply decide_eq_true; omega
          with_reducible refine zK ?_ ?_
          · exact decide_eq_true ⟨⟨hp3,by omega⟩,⟨by omega,by omega⟩,k2,oR,hp⟩
          rw [vR]
          exact hm
     unfold p35
     with_reducible refine zK (decide_eq_true ⟨hp1,hp2⟩) ?_
     with_reducible refine zK g1 ?_
     with_reducible refine zK (decide_eq_true ⟨hp3,hp4⟩) ?_
     with_reducible refine zK g2 ?_
     exact Comes.of h0
   · have hr:S.fN n1 np (fun j=>tp (j+ap)) n2 nq (fun j=>tq (j+aq))=(false,1,[]):=by unfold S.fN; rw [if_neg fun h=>g2 h.2]
     rw [hr]
     unfold p35
     with_reducible refine zK (decide_eq_true ⟨hp1,hp2⟩) ?_
     with_reducible refine zK g1 ?_
     with_reducible refine zK (decide_eq_true ⟨hp3,hp4⟩) ?_
     with_reducible refine zd (Bool.not_eq_true _ ▸ g2) ?_
     exact zG.mpr rfl
 · have hr:S.fN n1 np (fun j=>tp (j+ap)) n2 nq (fun j=>tq (j+aq))=(false,1,[]):=by unfold S.fN; rw [if_neg fun h=>g1 h.1]
   rw [hr]
   unfold p35
   with_reducible refine zK (decide_eq_true ⟨hp1,hp2⟩) ?_
   with_reducible refine zd (Bool.not_eq_true _ ▸ g1) ?_
   exact zG.mpr rfl
theorem k35_ok:k35.ok Tryz.prog:=by
 intro x hx
 obtain ⟨⟨n1,⟨ap,np,mp,tp,_⟩,_⟩,⟨n2,⟨aq,nq,mq,tq,_⟩,_⟩,_⟩:=x
 obtain ⟨h1,h2⟩:=a35 n1 ap np mp tp n2 aq nq mq tq (s35 n1 ap np mp tp n2 aq nq mq tq (zo hx rfl))
 exact ⟨⟨400,(by decide:2+1+1≤400),h1⟩,h2⟩
section
variable (g9:TT) (fA:KS) (fC:KR) (n1:Bool) (ap np mp:Nat) (tp:NI) (n2:Bool) (aq nq mq:Nat) (tq:NI)
abbrev St34:=Empty
abbrev Rt34:=Int×List Int
noncomputable def V34 (r:Rt34):PV:= .tup [.agg [.tf false,.own 3 1 r.2.length],.int .i64 r.1]
noncomputable def N34 (r:Rt34):List Blk:= [CI r.2]
noncomputable def I34:St34→Hd:=fun s=>s.elim
noncomputable def q34 (n1:Bool) (ap np mp:Nat) (tp:NI) (n2:Bool) (aq nq mq:Nat) (tq:NI):St34→Option (St34⊕Rt34):=fun s=>s.elim
noncomputable def p34 (n1:Bool) (ap np mp:Nat) (tp:NI) (n2:Bool) (aq nq mq:Nat) (tq:NI):Option (St34⊕Rt34):=bif (decide (ap+np≤mp∧np≤1000000)) then (bif (S.fE n1 np fun j=>tp (j+ap)) then (bif (decide (aq+nq≤mq∧nq≤1000000)) then (bif (S.fE n2 nq fun j=>tq (j+aq)) then (bif (decide ((ap+np≤mp∧aq+nq≤mq)∧(np≤800∧nq≤800)∧(S.fF np fun j=>tp (j+ap))=true∧(S.fF nq fun j=>tq (j+aq))=true)) then (bif ((↑((S.fX (S.fO (S.val np fun j=>tp (j+ap)) (S.val nq fun j=>tq (j+aq)))).length):Int)==0) then (some (.inr ((0:Int),[]))) else (some (.inr ((0:Int),S.fX (S.fO (S.val np fun j=>tp (j+ap)) (S.val nq fun j=>tq (j+aq))))))) else none) else (some (.inr ((1:Int),[])))) else none) else (some (.inr ((1:Int),[])))) else none
def Te34:Prop:=g9 (decide (ap+np≤mp∧np≤1000000)) (g9 (S.fE n1 np (FS tp ap)) (g9 (decide (aq+nq≤mq∧nq≤1000000)) (g9 (S.fE n2 nq (FS tq aq)) (g9 (decide ((ap+np≤mp∧aq+nq≤mq)∧(np≤800∧nq≤800)∧(S.fF np (FS tp ap))=true∧(S.fF nq (FS tq aq))=true)) (g9 ((↑((S.fX (S.fO (S.val np (FS tp ap)) (S.val nq (FS tq aq)))).length):Int)==0) (fC (.tup [.agg [.tf false,.nils],.int .i64 0]) ([[(1,false,CB mq tq),(0,false,CB mp tp)]]) 10) (fC (.tup [.agg [.tf false,.own 8 1 (S.fX (S.fO (S.val np (FS tp ap)) (S.val nq (FS tq aq)))).length],.int .i64 0]) ([[(1,false,CB mq tq),(0,false,CB mp tp),(8,true,CI (S.fX (S.fO (S.val np (FS tp ap)) (S.val nq (FS tq aq)))))]]) 10)) False) (fC (.tup [.agg [.tf false,.nils],.int .i64 1]) ([[(1,false,CB mq tq),(0,false,CB mp tp)]]) 7)) False) (fC (.tup [.agg [.tf false,.nils],.int .i64 1]) ([[(1,false,CB mq tq),(0,false,CB mp tp)]]) 6)) False
theorem te34:run g9 Tryz.env true (xG6 g9) true 400 ⟨99,[.cd (zS Tryz.f99).body],yD 0 [.agg [.bool n1,.loose ⟨0,1,ap,0⟩ np],.agg [.bool n2,.loose ⟨1,1,aq,0⟩ nq]],[[],[(0,(false,CB mp tp)),(1,(false,CB mq tq))]],2⟩ (zq 2 [] fA fC)=
 Te34 g9 fC n1 ap np mp tp n2 aq nq mq tq:=by kernel_rfl
noncomputable abbrev J34:Rt34→zQ:=fun r=> [yJ (2+1) ((N34) r)++ [(0,(false,CB mp tp)),(1,(false,CB mq tq))]]
attribute [local irreducible] Int.subNatNat in
theorem a34 {r:Rt34} (h:zX ((q34 n1 ap np mp tp n2 aq nq mq tq)) ((p34 n1 ap np mp tp n2 aq nq mq tq)) r):zn Tryz.prog 99 [.agg [.bool n1,.loose ⟨0,1,ap,0⟩ np],.agg [.bool n2,.loose ⟨1,1,aq,0⟩ nq]] [[(0,(false,CB mp tp)),(1,(false,CB mq tq))]] 2 ((V34) r) ((J34 mp tp mq tq) r) 400∧HB Tryz.prog 99:=by
 refine zf Tryz.envOk Tryz.mixed iJ ((I34)) ((V34)) (J34 mp tp mq tq) (fn:=zS Tryz.f99) (ts:= []) (n:=400) rfl (by decide) (by simp) (zV rfl) ?_ ?_ ?_ h
 · intro s; exact s.elim
 · intro fA fC x hS hR h
   refine Holds.eq (te34 cond fA fC n1 ap np mp tp n2 aq nq mq tq) ?_
   unfold Te34
   unfold p34 at h
   refine zA h (fun c0 h=>zA h (fun c1 h=>zA h (fun c2 h=>zA h (fun c3 h=>zA h (fun c4 h=>zA h (fun c5 h=> ?_) (fun c5 h=>zU hR _ h (fun n=>bif Nat.beq n 3 then 8 else n) rfl rfl rfl (zm ⟨(zg ⟨(yW rfl),(zZ (zD rfl) rfl rfl),trivial⟩),(zH rfl),trivial⟩) rfl (zL (zD rfl) rfl (Nat.le_of_eq rfl) (zO (fun _ _=>rfl) zP) (zB (zC rfl) rfl rfl (zB (zC rfl) rfl rfl zE))))) (fun c4 h=> ?_)) (fun c3 h=> ?_)) (fun c2 h=> ?_)) (fun c1 h=> ?_)) (fun c0 h=> ?_)
   all_goals first
     |exact zU hR _ h (fun n=>bif Nat.beq n 3 then 399 else n) rfl rfl rfl (zm ⟨(zg ⟨(yW rfl),(zT rfl),trivial⟩),(zH rfl),trivial⟩) rfl (zY (zD rfl) (zc rfl) (zB (zC rfl) rfl rfl (zB (zC rfl) rfl rfl zE)))
     |exact zF h
 · intro fA fC x hS hR s h; exact s.elim
end
noncomputable def k34:Con:=⟨99,[.agg [.plain (.bool),.list [.int .i64]],.agg [.plain (.bool),.list [.int .i64]]],w48 (fun n1 ap np mp tp n2 aq nq mq tq=>decide ((ap+np≤mp∧np≤1000000)∧aq+nq≤mq∧nq≤1000000)),w48 (fun n1 ap np mp tp n2 aq nq mq tq=>(V34) ((S.fN n1 np (FS tp ap) n2 nq (FS tq aq)).2)),w48 (fun n1 ap np mp tp n2 aq nq mq tq=>(N34) ((S.fN n1 np (FS tp ap) n2 nq (FS tq aq)).2)),fun _ _=> .dead⟩
theorem s34 (n1:Bool) (ap np mp:Nat) (tp:Nat→Int) (n2:Bool) (aq nq mq:Nat) (tq:Nat→Int) (hp:(ap+np≤mp∧np≤1000000)∧aq+nq≤mq∧nq≤1000000):zX ((q34 n1 ap np mp tp n2 aq nq mq tq)) ((p34 n1 ap np mp tp n2 aq nq mq tq)) (((S.fN n1 np (fun j=>tp (j+ap)) n2 nq (fun j=>tq (j+aq))).2.1,(S.fN n1 np (fun j=>tp (j+ap)) n2 nq (fun j=>tq (j+aq))).2.2)):=by
 obtain ⟨⟨hp1,hp2⟩,hp3,hp4⟩:=hp
 by_cases g1:S.fE n1 np (fun j=>tp (j+ap))=true
 · by_cases g2:S.fE n2 nq (fun j=>tq (j+aq))=true
   · obtain ⟨l1,k1⟩:=yP g1
     obtain ⟨l2,k2⟩:=yP g2
     have hr:S.fN n1 np (fun j=>tp (j+ap)) n2 nq (fun j=>tq (j+aq))=(false,0,S.fX (S.fO (S.val np (fun j=>tp (j+ap))) (S.val nq (fun j=>tq (j+aq))))):=by unfold S.fN; rw [if_pos ⟨g1,g2⟩]
     rw [hr]
     unfold p34
     with_reducible refine zK (decide_eq_true ⟨hp1,hp2⟩) ?_
     with_reducible refine zK g1 ?_
     with_reducible refine zK (decide_eq_true ⟨hp3,hp4⟩) ?_
     with_reducible refine zK g2 ?_
     with_reducible refine zK ?_ ?_
     · exact decide_eq_true ⟨⟨hp1,hp3⟩,⟨by omega,by omega⟩,k1,k2⟩
     generalize S.fX (S.fO (S.val np (fun j=>tp (j+ap))) (S.val nq (fun j=>tq (j+aq))))=L
     by_cases h:L.length=0
     · rw [List.length_eq_zero_iff.mp h]
       with_reducible refine zK ?_ ?_
       · decide
       exact zG.mpr rfl
     · with_reducible refine zd ?_ ?_
       · rw [beq_eq_false_iff_ne]; omega
       exact zG.mpr rfl
   · have hr:S.fN n1 np (fun j=>tp (j+ap)) n2 nq (fun j=>tq (j+aq))=(false,1,[]):=by unfold S.fN; rw [if_neg fun h=>g2 h.2]
     rw [hr]
     unfold p34
     with_reducible refine zK (decide_eq_true ⟨hp1,hp2⟩) ?_
     with_reducible refine zK g1 ?_
     with_reducible refine zK (decide_eq_true ⟨hp3,hp4⟩) ?_
     with_reducible refine zd (Bool.not_eq_true _ ▸ g2) ?_
     exact zG.mpr rfl
 · have hr:S.fN n1 np (fun j=>tp (j+ap)) n2 nq (fun j=>tq (j+aq))=(false,1,[]):=by unfold S.fN; rw [if_neg fun h=>g1 h.1]
   rw [hr]
   unfold p34
   with_reducible refine zK (decide_eq_true ⟨hp1,hp2⟩) ?_
   with_reducible refine zd (Bool.not_eq_true _ ▸ g1) ?_
   exact zG.mpr rfl
theorem k34_ok:k34.ok Tryz.prog:=by
 intro x hx
 obtain ⟨⟨n1,⟨ap,np,mp,tp,_⟩,_⟩,⟨n2,⟨aq,nq,mq,tq,_⟩,_⟩,_⟩:=x
 obtain ⟨h1,h2⟩:=a34 n1 ap np mp tp n2 aq nq mq tq (s34 n1 ap np mp tp n2 aq nq mq tq (zo hx rfl))
 exact ⟨⟨400,(by decide:2+1+1≤400),h1⟩,h2⟩
theorem nB {n1 n2:Bool} {V W:Int} (hV:0≤V) (hW:0≤W) (h1:0<V∨n1=false) (h2:0<W∨n2=false):S.fV (S.sv n1 V) (S.sv n2 W)=bif n1 then (bif n2 then S.fV W V else-1) else (bif n2 then 1 else S.fV V W):=by
 unfold S.fV S.sv
 cases n1<;>cases n2<;>simp only [cond_true,cond_false,Bool.true_eq_false,or_false] at* <;>(repeat' split)<;>omega
section
variable (g9:TT) (fA:KS) (fC:KR) (n1:Bool) (ap np mp:Nat) (tp:NI) (n2:Bool) (aq nq mq:Nat) (tq:NI)
abbrev St31:=Empty
abbrev Rt31:=Int
noncomputable def V31 (r:Rt31):PV:= .int .i64 r
noncomputable def N31 (r:Rt31):List Blk:= []
noncomputable def I31:St31→Hd:=fun s=>s.elim
noncomputable def q31 (n1:Bool) (ap np mp:Nat) (tp:NI) (n2:Bool) (aq nq mq:Nat) (tq:NI):St31→Option (St31⊕Rt31):=fun s=>s.elim
noncomputable def p31 (n1:Bool) (ap np mp:Nat) (tp:NI) (n2:Bool) (aq nq mq:Nat) (tq:NI):Option (St31⊕Rt31):=bif (decide (ap+np≤mp∧np≤1000000)) then (bif (S.fE n1 np fun j=>tp (j+ap)) then (bif (decide (aq+nq≤mq∧nq≤1000000)) then (bif (S.fE n2 nq fun j=>tq (j+aq)) then (bif n1 then (bif n2 then (bif (decide (aq+nq≤mq∧nq≤1000000∧ap+np≤mp∧np≤1000000∧(S.fF nq fun j=>tq (j+aq))=true∧(S.fF np fun j=>tp (j+ap))=true)) then (some (.inr (S.fV (S.val nq fun j=>tq (j+aq)) (S.val np fun j=>tp (j+ap))))) else none) else (some (.inr ((-1:Int))))) else (bif n2 then (some (.inr ((1:Int)))) else (bif (decide (ap+np≤mp∧np≤1000000∧aq+nq≤mq∧nq≤1000000∧(S.fF np fun j=>tp (j+ap))=true∧(S.fF nq fun j=>tq (j+aq))=true)) then (some (.inr (S.fV (S.val np fun j=>tp (j+ap)) (S.val nq fun j=>tq (j+aq))))) else none))) else (some (.inr ((0:Int))))) else none) else (some (.inr ((0:Int))))) else none
noncomputable abbrev u31_e_0:=([[(1,false,Blk.cols mq [Col.int IntKind.i64 tq]),(0,false,Blk.cols mp [Col.int IntKind.i64 tp])]])
noncomputable abbrev u31_e_1:=decide (aq+nq≤mq∧nq≤1000000∧ap+np≤mp∧np≤1000000∧(S.fF nq fun j=>tq (j+aq))=true∧(S.fF np fun j=>tp (j+ap))=true)
noncomputable abbrev u31_e_2:=decide (ap+np≤mp∧np≤1000000∧aq+nq≤mq∧nq≤1000000∧(S.fF np fun j=>tp (j+ap))=true∧(S.fF nq fun j=>tq (j+aq))=true)
def Te31:Prop:=g9 (decide (ap+np≤mp∧np≤1000000)) (g9 (S.fE n1 np (FS tp ap)) (g9 (decide (aq+nq≤mq∧nq≤1000000)) (g9 (S.fE n2 nq (FS tq aq)) (g9 n1 (g9 n2 (g9 n1 (g9 n1 (g9 (u31_e_1 ap np mp tp aq nq mq tq) (fC (.int .i64 (S.fV (S.val nq (FS tq aq)) (S.val np (FS tp ap)))) (u31_e_0 mp tp mq tq) 7) False) (g9 (u31_e_2 ap np mp tp aq nq mq tq) (fC (.int .i64 (S.fV (S.val np (FS tp ap)) (S.val nq (FS tq aq)))) (u31_e_0 mp tp mq tq) 7) False)) (g9 n2 (fC (.int .i64 1) (u31_e_0 mp tp mq tq) 6) (g9 n1 (g9 (u31_e_1 ap np mp tp aq nq mq tq) (fC (.int .i64 (S.fV (S.val nq (FS tq aq)) (S.val np (FS tp ap)))) (u31_e_0 mp tp mq tq) 7) False) (g9 (u31_e_2 ap np mp tp aq nq mq tq) (fC (.int .i64 (S.fV (S.val np (FS tp ap)) (S.val nq (FS tq aq)))) (u31_e_0 mp tp mq tq) 7) False)))) (fC (.int .i64 (-1:Int)) (u31_e_0 mp tp mq tq) 6)) (g9 n1 (g9 n1 (g9 (u31_e_1 ap np mp tp aq nq mq tq) (fC (.int .i64 (S.fV (S.val nq (FS tq aq)) (S.val np (FS tp ap)))) (u31_e_0 mp tp mq tq) 7) False) (g9 (u31_e_2 ap np mp tp aq nq mq tq) (fC (.int .i64 (S.fV (S.val np (FS tp ap)) (S.val nq (FS tq aq)))) (u31_e_0 mp tp mq tq) 7) False)) (g9 n2 (fC (.int .i64 1) (u31_e_0 mp tp mq tq) 6) (g9 n1 (g9 (u31_e_1 ap np mp tp aq nq mq tq) (fC (.int .i64 (S.fV (S.val nq (FS tq aq)) (S.val np (FS tp ap)))) (u31_e_0 mp tp mq tq) 7) False) (g9 (u31_e_2 ap np mp tp aq nq mq tq) (fC (.int .i64 (S.fV (S.val np (FS tp ap)) (S.val nq (FS tq aq)))) (u31_e_0 mp tp mq tq) 7) False))))) (fC (.int .i64 0) (u31_e_0 mp tp mq tq) 6)) False) (fC (.int .i64 0) (u31_e_0 mp tp mq tq) 5)) False
theorem te31:run g9 Tryz.env true (xG2 g9) true 400 ⟨81,[.cd (zS Tryz.f81).body],yD 0 [.agg [.bool n1,.loose ⟨0,1,ap,0⟩ np],.agg [.bool n2,.loose ⟨1,1,aq,0⟩ nq]],[[],[(0,(false,CB mp tp)),(1,(false,CB mq tq))]],2⟩ (zq 2 [] fA fC)=
 Te31 g9 fC n1 ap np mp tp n2 aq nq mq tq:=by kernel_rfl
noncomputable abbrev J31:Rt31→zQ:=fun r=> [yJ (2+1) ((N31) r)++ [(0,(false,CB mp tp)),(1,(false,CB mq tq))]]
attribute [local irreducible] Int.subNatNat in
theorem a31 {r:Rt31} (h:zX ((q31 n1 ap np mp tp n2 aq nq mq tq)) ((p31 n1 ap np mp tp n2 aq nq mq tq)) r):zn Tryz.prog 81 [.agg [.bool n1,.loose ⟨0,1,ap,0⟩ np],.agg [.bool n2,.loose ⟨1,1,aq,0⟩ nq]] [[(0,(false,CB mp tp)),(1,(false,CB mq tq))]] 2 ((V31) r) ((J31 mp tp mq tq) r) 400∧HB Tryz.prog 81:=by
 refine zf Tryz.envOk Tryz.mixed qT ((I31)) ((V31)) (J31 mp tp mq tq) (fn:=zS Tryz.f81) (ts:= []) (n:=400) rfl (by decide) (by simp) (zV rfl) ?_ ?_ ?_ h
 · intro s; exact s.elim
 · intro fA fC x hS hR h
   refine Holds.eq (te31 cond fA fC n1 ap np mp tp n2 aq nq mq tq) ?_
   unfold Te31
   unfold p31 at h
   refine zA h (fun c0 h=>zA h (fun c1 h=>zA h (fun c2 h=>zA h (fun c3 h=>zA h (fun c4 h=>zA h (fun c5 h=>zJ c4 (zJ c4 (zA h (fun c6 h=> ?_) (fun c6 h=> ?_)))) (fun c5 h=> ?_)) (fun c4 h=>za c4 (zA h (fun c5 h=> ?_) (fun c5 h=>za c4 (zA h (fun c6 h=> ?_) (fun c6 h=> ?_)))))) (fun c3 h=> ?_)) (fun c2 h=> ?_)) (fun c1 h=> ?_)) (fun c0 h=> ?_)
   all_goals first
     |exact zU hR _ h (fun n=>n) rfl rfl rfl (zH rfl) rfl (zB (zC rfl) rfl rfl (zB (zC rfl) rfl rfl zE))
     |exact zF h
 · intro fA fC x hS hR s h; exact s.elim
end
noncomputable def k31:Con:=⟨81,[.agg [.plain (.bool),.list [.int .i64]],.agg [.plain (.bool),.list [.int .i64]]],w48 (fun n1 ap np mp tp n2 aq nq mq tq=>decide ((ap+np≤mp∧np≤1000000)∧aq+nq≤mq∧nq≤1000000)),w48 (fun n1 ap np mp tp n2 aq nq mq tq=>(V31) (S.fU n1 np (FS tp ap) n2 nq (FS tq aq))),w48 (fun n1 ap np mp tp n2 aq nq mq tq=>(N31) (S.fU n1 np (FS tp ap) n2 nq (FS tq aq))),fun _ _=> .dead⟩
theorem s31 (n1:Bool) (ap np mp:Nat) (tp:Nat→Int) (n2:Bool) (aq nq mq:Nat) (tq:Nat→Int) (hp:(ap+np≤mp∧np≤1000000)∧aq+nq≤mq∧nq≤1000000):zX ((q31 n1 ap np mp tp n2 aq nq mq tq)) ((p31 n1 ap np mp tp n2 aq nq mq tq)) (S.fU n1 np (fun j=>tp (j+ap)) n2 nq (fun j=>tq (j+aq))):=by
 obtain ⟨⟨hp1,hp2⟩,hp3,hp4⟩:=hp
 have d1:ap+np≤mp∧np≤1000000:=⟨hp1,hp2⟩
 have d2:aq+nq≤mq∧nq≤1000000:=⟨hp3,hp4⟩
 unfold S.fU
 by_cases g1:S.fE n1 np (fun j=>tp (j+ap))=true
 · by_cases g2:S.fE n2 nq (fun j=>tq (j+aq))=true
   · rw [if_pos ⟨g1,g2⟩]
     obtain ⟨l1,k1,z1⟩:=y5.mp g1
     obtain ⟨l2,k2,z2⟩:=y5.mp g2
     have v1:=yU (zj k1)
     have v2:=yU (zj k2)
     rw [nB v1 v2 (by rcases z1 with h|h; exact .inl (ya k1 h); exact .inr h) (by rcases z2 with h|h; exact .inl (ya k2 h); exact .inr h)]
     have c1:aq+nq≤mq∧nq≤1000000∧ap+np≤mp∧np≤1000000∧S.fF nq (fun j=>tq (j+aq))=true∧S.fF np (fun j=>tp (j+ap))=true:=⟨hp3,hp4,hp1,hp2,k2,k1⟩
     have c2:ap+np≤mp∧np≤1000000∧aq+nq≤mq∧nq≤1000000∧S.fF np (fun j=>tp (j+ap))=true∧S.fF nq (fun j=>tq (j+aq))=true:=⟨hp1,hp2,hp3,hp4,k1,k2⟩
     unfold p31
     cases n1<;>cases n2<;>simp only [g1,g2,decide_eq_true d1,decide_eq_true d2,cond_true,cond_false,decide_eq_true c1,decide_eq_true c2]<;>exact zG.mpr rfl
   · rw [if_neg (fun h=>g2 h.2)]
     have g2:=Bool.not_eq_true _ ▸ g2
     unfold p31
     simp only [cond_true,cond_false,g1,g2,decide_eq_true d1,decide_eq_true d2]
     exact zG.mpr rfl
 · rw [if_neg (fun h=>g1 h.1)]
   have g1:=Bool.not_eq_true _ ▸ g1
   unfold p31
   simp only [cond_true,cond_false,g1,decide_eq_true d1]
   exact zG.mpr rfl
theorem k31_ok:k31.ok Tryz.prog:=by
 intro x hx
 obtain ⟨⟨n1,⟨ap,np,mp,tp,_⟩,_⟩,⟨n2,⟨aq,nq,mq,tq,_⟩,_⟩,_⟩:=x
 obtain ⟨h1,h2⟩:=a31 n1 ap np mp tp n2 aq nq mq tq (s31 n1 ap np mp tp n2 aq nq mq tq (zo hx rfl))
 exact ⟨⟨400,(by decide:2+1+0≤400),h1⟩,h2⟩
section
variable (g9:TT) (fA:KS) (fC:KR) (n1:Bool) (ap np mp:Nat) (tp:NI) (n2:Bool) (aq nq mq:Nat) (tq:NI)
abbrev St32:=Empty
abbrev Rt32:=Int
noncomputable def V32 (r:Rt32):PV:= .int .i64 r
noncomputable def N32 (r:Rt32):List Blk:= []
noncomputable def I32:St32→Hd:=fun s=>s.elim
noncomputable def q32 (n1:Bool) (ap np mp:Nat) (tp:NI) (n2:Bool) (aq nq mq:Nat) (tq:NI):St32→Option (St32⊕Rt32):=fun s=>s.elim
noncomputable def p32 (n1:Bool) (ap np mp:Nat) (tp:NI) (n2:Bool) (aq nq mq:Nat) (tq:NI):Option (St32⊕Rt32):=bif n1 then (bif n2 then (bif (decide (aq+nq≤mq∧nq≤1000000∧ap+np≤mp∧np≤1000000∧(S.fF nq fun j=>tq (j+aq))=true∧(S.fF np fun j=>tp (j+ap))=true)) then (some (.inr (S.fV (S.val nq fun j=>tq (j+aq)) (S.val np fun j=>tp (j+ap))))) else none) else (some (.inr ((-1:Int))))) else (bif n2 then (some (.inr ((1:Int)))) else (bif (decide (ap+np≤mp∧np≤1000000∧aq+nq≤mq∧nq≤1000000∧(S.fF np fun j=>tp (j+ap))=true∧(S.fF nq fun j=>tq (j+aq))=true)) then (some (.inr (S.fV (S.val np fun j=>tp (j+ap)) (S.val nq fun j=>tq (j+aq))))) else none))
noncomputable abbrev u32_e_0:=([[(1,false,Blk.cols mq [Col.int IntKind.i64 tq]),(0,false,Blk.cols mp [Col.int IntKind.i64 tp])]])
noncomputable abbrev u32_e_1:=decide (aq+nq≤mq∧nq≤1000000∧ap+np≤mp∧np≤1000000∧(S.fF nq fun j=>tq (j+aq))=true∧(S.fF np fun j=>tp (j+ap))=true)
noncomputable abbrev u32_e_2:=decide (ap+np≤mp∧np≤1000000∧aq+nq≤mq∧nq≤1000000∧(S.fF np fun j=>tp (j+ap))=true∧(S.fF nq fun j=>tq (j+aq))=true)
def Te32:Prop:=g9 n1 (g9 n2 (g9 n2 (g9 n1 (g9 n1 (g9 (u32_e_1 ap np mp tp aq nq mq tq) (fC (.int .i64 (S.fV (S.val nq (FS tq aq)) (S.val np (FS tp ap)))) (u32_e_0 mp tp mq tq) 5) False) (g9 (u32_e_2 ap np mp tp aq nq mq tq) (fC (.int .i64 (S.fV (S.val np (FS tp ap)) (S.val nq (FS tq aq)))) (u32_e_0 mp tp mq tq) 5) False)) (fC (.int .i64 1) (u32_e_0 mp tp mq tq) 4)) (g9 n1 (g9 (u32_e_1 ap np mp tp aq nq mq tq) (fC (.int .i64 (S.fV (S.val nq (FS tq aq)) (S.val np (FS tp ap)))) (u32_e_0 mp tp mq tq) 5) False) (g9 (u32_e_2 ap np mp tp aq nq mq tq) (fC (.int .i64 (S.fV (S.val np (FS tp ap)) (S.val nq (FS tq aq)))) (u32_e_0 mp tp mq tq) 5) False))) (fC (.int .i64 (-1:Int)) (u32_e_0 mp tp mq tq) 4)) (g9 n2 (g9 n1 (g9 n1 (g9 (u32_e_1 ap np mp tp aq nq mq tq) (fC (.int .i64 (S.fV (S.val nq (FS tq aq)) (S.val np (FS tp ap)))) (u32_e_0 mp tp mq tq) 5) False) (g9 (u32_e_2 ap np mp tp aq nq mq tq) (fC (.int .i64 (S.fV (S.val np (FS tp ap)) (S.val nq (FS tq aq)))) (u32_e_0 mp tp mq tq) 5) False)) (fC (.int .i64 1) (u32_e_0 mp tp mq tq) 4)) (g9 n1 (g9 (u32_e_1 ap np mp tp aq nq mq tq) (fC (.int .i64 (S.fV (S.val nq (FS tq aq)) (S.val np (FS tp ap)))) (u32_e_0 mp tp mq tq) 5) False) (g9 (u32_e_2 ap np mp tp aq nq mq tq) (fC (.int .i64 (S.fV (S.val np (FS tp ap)) (S.val nq (FS tq aq)))) (u32_e_0 mp tp mq tq) 5) False)))
theorem te32:run g9 Tryz.env true (xG2 g9) true 400 ⟨87,[.cd (zS Tryz.f87).body],yD 0 [.agg [.bool n1,.loose ⟨0,1,ap,0⟩ np],.agg [.bool n2,.loose ⟨1,1,aq,0⟩ nq]],[[],[(0,(false,CB mp tp)),(1,(false,CB mq tq))]],2⟩ (zq 2 [] fA fC)=
 Te32 g9 fC n1 ap np mp tp n2 aq nq mq tq:=by kernel_rfl
noncomputable abbrev J32:Rt32→zQ:=fun r=> [yJ (2+1) ((N32) r)++ [(0,(false,CB mp tp)),(1,(false,CB mq tq))]]
attribute [local irreducible] Int.subNatNat in
theorem a32 {r:Rt32} (h:zX ((q32 n1 ap np mp tp n2 aq nq mq tq)) ((p32 n1 ap np mp tp n2 aq nq mq tq)) r):zn Tryz.prog 87 [.agg [.bool n1,.loose ⟨0,1,ap,0⟩ np],.agg [.bool n2,.loose ⟨1,1,aq,0⟩ nq]] [[(0,(false,CB mp tp)),(1,(false,CB mq tq))]] 2 ((V32) r) ((J32 mp tp mq tq) r) 400∧HB Tryz.prog 87:=by
 refine zf Tryz.envOk Tryz.mixed qT ((I32)) ((V32)) (J32 mp tp mq tq) (fn:=zS Tryz.f87) (ts:= []) (n:=400) rfl (by decide) (by simp) (zV rfl) ?_ ?_ ?_ h
 · intro s; exact s.elim
 · intro fA fC x hS hR h
   refine Holds.eq (te32 cond fA fC n1 ap np mp tp n2 aq nq mq tq) ?_
   unfold Te32
   unfold p32 at h
   exact zA h (fun c0 h=>zA h (fun c1 h=>zJ c1 (zJ c0 (zJ c0 (zA h (fun c2 h=>zU hR _ h (fun n=>n) rfl rfl rfl (zH rfl) rfl (zB (zC rfl) rfl rfl (zB (zC rfl) rfl rfl zE))) (fun c2 h=>zF h))))) (fun c1 h=>zU hR _ h (fun n=>n) rfl rfl rfl (zH rfl) rfl (zB (zC rfl) rfl rfl (zB (zC rfl) rfl rfl zE)))) (fun c0 h=>zA h (fun c1 h=>za c0 (zU hR _ h (fun n=>n) rfl rfl rfl (zH rfl) rfl (zB (zC rfl) rfl rfl (zB (zC rfl) rfl rfl zE)))) (fun c1 h=>za c0 (zA h (fun c2 h=>zU hR _ h (fun n=>n) rfl rfl rfl (zH rfl) rfl (zB (zC rfl) rfl rfl (zB (zC rfl) rfl rfl zE))) (fun c2 h=>zF h))))
 · intro fA fC x hS hR s h; exact s.elim
end
noncomputable def k32:Con:=⟨87,[.agg [.plain (.bool),.list [.int .i64]],.agg [.plain (.bool),.list [.int .i64]]],w48 (fun n1 ap np mp tp n2 aq nq mq tq=>decide ((ap+np≤mp∧np≤1000000)∧aq+nq≤mq∧nq≤1000000∧S.fE n1 np (FS tp ap)=true∧S.fE n2 nq (FS tq aq)=true)),w48 (fun n1 ap np mp tp n2 aq nq mq tq=>(V32) (S.fU n1 np (FS tp ap) n2 nq (FS tq aq))),w48 (fun n1 ap np mp tp n2 aq nq mq tq=>(N32) (S.fU n1 np (FS tp ap) n2 nq (FS tq aq))),fun _ _=> .dead⟩
theorem s32 (n1:Bool) (ap np mp:Nat) (tp:Nat→Int) (n2:Bool) (aq nq mq:Nat) (tq:Nat→Int) (hp:(ap+np≤mp∧np≤1000000)∧aq+nq≤mq∧nq≤1000000∧S.fE n1 np (fun j=>tp (j+ap))=true∧S.fE n2 nq (fun j=>tq (j+aq))=true):zX ((q32 n1 ap np mp tp n2 aq nq mq tq)) ((p32 n1 ap np mp tp n2 aq nq mq tq)) (S.fU n1 np (fun j=>tp (j+ap)) n2 nq (fun j=>tq (j+aq))):=by
 obtain ⟨⟨hp1,hp2⟩,hp3,hp4,g1,g2⟩:=hp
 have d1:ap+np≤mp∧np≤1000000:=⟨hp1,hp2⟩
 have d2:aq+nq≤mq∧nq≤1000000:=⟨hp3,hp4⟩
 unfold S.fU
 · · rw [if_pos ⟨g1,g2⟩]
     obtain ⟨l1,k1,z1⟩:=y5.mp g1
     obtain ⟨l2,k2,z2⟩:=y5.mp g2
     have v1:=yU (zj k1)
     have v2:=yU (zj k2)
     rw [nB v1 v2 (by rcases z1 with h|h; exact .inl (ya k1 h); exact .inr h) (by rcases z2 with h|h; exact .inl (ya k2 h); exact .inr h)]
     have c1:aq+nq≤mq∧nq≤1000000∧ap+np≤mp∧np≤1000000∧S.fF nq (fun j=>tq (j+aq))=true∧S.fF np (fun j=>tp (j+ap))=true:=⟨hp3,hp4,hp1,hp2,k2,k1⟩
     have c2:ap+np≤mp∧np≤1000000∧aq+nq≤mq∧nq≤1000000∧S.fF np (fun j=>tp (j+ap))=true∧S.fF nq (fun j=>tq (j+aq))=true:=⟨hp1,hp2,hp3,hp4,k1,k2⟩
     unfold p32
     cases n1<;>cases n2<;>simp only [g1,g2,decide_eq_true d1,decide_eq_true d2,cond_true,cond_false,decide_eq_true c1,decide_eq_true c2]<;>exact zG.mpr rfl
theorem k32_ok:k32.ok Tryz.prog:=by
 intro x hx
 obtain ⟨⟨n1,⟨ap,np,mp,tp,_⟩,_⟩,⟨n2,⟨aq,nq,mq,tq,_⟩,_⟩,_⟩:=x
 obtain ⟨h1,h2⟩:=a32 n1 ap np mp tp n2 aq nq mq tq (s32 n1 ap np mp tp n2 aq nq mq tq (zo hx rfl))
 exact ⟨⟨400,(by decide:2+1+0≤400),h1⟩,h2⟩
section
variable {n1 n2:Bool} {n m:Nat} {t u:Nat→Int}
theorem vy {ng:Bool} (h:S.fE ng n t=true):((S.sv ng (S.val n t)).natAbs:Int)<S.pw n:=by
 have h1:=yU (zj (yP h).2)
 have h2:=yF (zj (yP h).2) (Nat.le_refl n)
 cases ng<;>simp only [S.sv,cond_true,cond_false]<;>omega
theorem gy {ng:Bool} (h:S.fE ng n t=true) (hn:n≠0):S.sv ng (S.val n t)≠0:=by
 have h1:=ya (yP h).2 (by omega)
 cases ng<;>simp only [S.sv,cond_true,cond_false]<;>omega
theorem rq {v w:Int} (hw:w≠0):((v / w).natAbs:Int)≤v.natAbs∧0≤v % w∧v % w<(w.natAbs:Int):=by
 refine ⟨?_,Int.emod_nonneg _ hw,Int.emod_lt _ hw⟩
 have h:=Int.natAbs_ediv_le_natAbs v w
 omega
theorem wP (g1:S.fE n1 n t=true) (g2:S.fE n2 m u=true) (hm:m≠0):S.fK n1 n t n2 m u=(decide (S.sv n1 (S.val n t) / S.sv n2 (S.val m u)<0),0,S.fX (S.sv n1 (S.val n t) % S.sv n2 (S.val m u)),S.fX ((S.sv n1 (S.val n t) / S.sv n2 (S.val m u)).natAbs:Int)):=by
 unfold S.fK
 rw [if_pos ⟨g1,g2⟩,if_neg hm]
 unfold S.fb
 rw [if_neg]
 have h1:=rq (v:=S.sv n1 (S.val n t)) (gy g2 hm)
 have h2:=vy g1
 have:=z7 (v:=((S.sv n1 (S.val n t) / S.sv n2 (S.val m u)).natAbs:Int)) (n:=n) (by omega)
 have:=(yP g1).1
 omega
end
noncomputable def xR1 (g9:Bool→Prop→Prop→Prop):Ext:=xK g9 [k32]
theorem gH:yZ Tryz.prog (xR1 cond):=yN ⟨k32_ok,trivial⟩
section
variable (g9:TT) (fA:KS) (fC:KR) (n1:Bool) (ap np mp:Nat) (tp:NI) (n2:Bool) (aq nq mq:Nat) (tq:NI)
inductive St556 where
 |h0 (x0:Int)
abbrev Rt556:=Bool
noncomputable def V556 (r:Rt556):PV:= .bool r
noncomputable def N556 (r:Rt556):List Blk:= []
noncomputable def I556:St556→Hd
  | .h0 x0=>⟨hd Tryz.f56 0,[.ptr ⟨2,0,0,0⟩,
 .ptr ⟨3,0,0,0⟩,.int .i64 x0],[[(2,(true,.cells [.bool n1,.loose ⟨0,1,ap,0⟩ np])),(3,(true,.cells [.bool n2,.loose ⟨1,1,aq,0⟩ nq]))],[(0,(false,CB mp tp)),(1,(false,CB mq tq))]],4⟩
noncomputable def q556 (n1:Bool) (ap np mp:Nat) (tp:NI) (n2:Bool) (aq nq mq:Nat) (tq:NI):St556→Option (St556⊕Rt556)| .h0 x0=>bif (decide (x0<(np:Int))) then (bif (decide ((0:Int)≤x0∧x0<(np:Int))) then (bif (decide (x0.toNat+ap<mp)) then (bif (decide ((0:Int)≤x0∧x0<(nq:Int))) then (bif (decide (x0.toNat+aq<mq)) then (bif (tp (x0.toNat+ap) != tq (x0.toNat+aq)) then (some (.inr false)) else (bif (lim .i64 (x0+1)) then (some (.inl (.h0 (x0+1)))) else none)) else none) else none) else none) else none) else (some (.inr true))
noncomputable def p556 (n1:Bool) (ap np mp:Nat) (tp:NI) (n2:Bool) (aq nq mq:Nat) (tq:NI):Option (St556⊕Rt556):=bif n1 then (bif n2 then (bif ((np:Int) != (nq:Int)) then (some (.inr false)) else (some (.inl (.h0 ((0:Int)))))) else (some (.inr false))) else (bif n2 then (some (.inr false)) else (bif ((np:Int) != (nq:Int)) then (some (.inr false)) else (some (.inl (.h0 ((0:Int)))))))
noncomputable abbrev u556_e_0:=([[(1,false,Blk.cols mq [Col.int IntKind.i64 tq]),(0,false,Blk.cols mp [Col.int IntKind.i64 tp])]])
def Te556:Prop:=g9 n1 (g9 n2 (g9 ((np:Int) != (nq:Int)) (fC (.tf false) (u556_e_0 mp tp mq tq) 4) (fA (hd Tryz.f56 0) ([.ptr ⟨2,0,0,0⟩,.ptr ⟨3,0,0,0⟩,.int .i64 0]) ([[(1,false,CB mq tq),(0,false,CB mp tp),(3,true,.cells [.bool n2,.loose ⟨1,1,aq,0⟩ nq]),(2,true,.cells [.bool n1,.loose ⟨0,1,ap,0⟩ np])]]) 4)) (fC (.tf false) (u556_e_0 mp tp mq tq) 4)) (g9 n2 (fC (.tf false) (u556_e_0 mp tp mq tq) 4) (g9 ((np:Int) != (nq:Int)) (fC (.tf false) (u556_e_0 mp tp mq tq) 4) (fA (hd Tryz.f56 0) ([.ptr ⟨2,0,0,0⟩,.ptr ⟨3,0,0,0⟩,.int .i64 0]) ([[(1,false,CB mq tq),(0,false,CB mp tp),(3,true,.cells [.bool n2,.loose ⟨1,1,aq,0⟩ nq]),(2,true,.cells [.bool n1,.loose ⟨0,1,ap,0⟩ np])]]) 4)))
theorem te556:run g9 Tryz.env true noX true 400 ⟨56,[.cd (zS Tryz.f56).body],yD 0 [.agg [.bool n1,.loose ⟨0,1,ap,0⟩ np],.agg [.bool n2,.loose ⟨1,1,aq,0⟩ nq]],[[],[(0,(false,CB mp tp)),(1,(false,CB mq tq))]],2⟩ (zq 2 [2,3,5] fA fC)=
 Te556 g9 fA fC n1 ap np mp tp n2 aq nq mq tq:=by kernel_rfl
def T556_0 (x0:Int):Prop:=g9 (decide (x0<(np:Int))) (g9 (decide ((0:Int)≤x0∧x0<(np:Int))) (g9 (decide (x0.toNat+ap<mp)) (g9 (decide ((0:Int)≤x0∧x0<(nq:Int))) (g9 (decide (x0.toNat+aq<mq)) (g9 (tp (x0.toNat+ap) != tq (x0.toNat+aq)) (fC (.tf false) ([[(1,false,CB mq tq),(0,false,CB mp tp)]]) 4) (g9 (lim .i64 (x0+1)) (fA (hd Tryz.f56 0) ([.ptr ⟨2,0,0,0⟩,.ptr ⟨3,0,0,0⟩,.int .i64 (x0+1)]) ([[(1,false,CB mq tq),(0,false,CB mp tp),(3,true,.cells [.bool n2,.loose ⟨1,1,aq,0⟩ nq]),(2,true,.cells [.bool n1,.loose ⟨0,1,ap,0⟩ np])]]) 4) False)) False) False) False) False) (fC (.tf true) ([[(1,false,CB mq tq),(0,false,CB mp tp)]]) 4)
theorem t556_0 (x0:Int):run g9 Tryz.env true noX true 400 ⟨56,hd Tryz.f56 0,yc [2,3,5] [.ptr ⟨2,0,0,0⟩,
 .ptr ⟨3,0,0,0⟩,.int .i64 x0],[[(2,(true,.cells [.bool n1,.loose ⟨0,1,ap,0⟩ np])),(3,(true,.cells [.bool n2,.loose ⟨1,1,aq,0⟩ nq]))],[(0,(false,CB mp tp)),(1,(false,CB mq tq))]],4⟩ (zq 2 [2,3,5] fA fC)=
  T556_0 g9 fA fC n1 ap np mp tp n2 aq nq mq tq x0:=by kernel_rfl
noncomputable abbrev J556:Rt556→zQ:=fun r=> [yJ (2+1) ((N556) r)++ [(0,(false,CB mp tp)),(1,(false,CB mq tq))]]
attribute [local irreducible] Int.subNatNat in
theorem a556 {r:Rt556} (h:zX ((q556 n1 ap np mp tp n2 aq nq mq tq)) ((p556 n1 ap np mp tp n2 aq nq mq tq)) r):zn Tryz.prog 56 [.agg [.bool n1,.loose ⟨0,1,ap,0⟩ np],.agg [.bool n2,.loose ⟨1,1,aq,0⟩ nq]] [[(0,(false,CB mp tp)),(1,(false,CB mq tq))]] 2 ((V556) r) ((J556 mp tp mq tq) r) 400∧HB Tryz.prog 56:=by
 refine zf Tryz.envOk Tryz.mixed y3 ((I556 n1 ap np mp tp n2 aq nq mq tq)) ((V556)) (J556 mp tp mq tq) (fn:=zS Tryz.f56) (ts:= [2,3,5]) (n:=400) rfl (by decide) (by simp) (zV rfl) ?_ ?_ ?_ h
 · intro s; cases s<;>exact ⟨ym _ _,by simp [I556],zV rfl,Nat.le_of_ble_eq_true rfl⟩
 · intro fA fC x hS hR h
   refine Holds.eq (te556 cond fA fC n1 ap np mp tp n2 aq nq mq tq) ?_
   unfold Te556
   unfold p556 at h
   refine zA h (fun c0 h=>zA h (fun c1 h=>zA h (fun c2 h=> ?_) (fun c2 h=> ?_)) (fun c1 h=> ?_)) (fun c0 h=>zA h (fun c1 h=> ?_) (fun c1 h=>zA h (fun c2 h=> ?_) (fun c2 h=> ?_)))
   all_goals first
     |exact zU hR _ h (fun n=>n) rfl rfl rfl (zR rfl) rfl (zB (zC rfl) rfl rfl (zB (zC rfl) rfl rfl zE))
     |exact zb hS _ h (fun n=>bif Nat.beq n 2 then 2 else bif Nat.beq n 3 then 3 else n) rfl rfl rfl ⟨(yG (zD rfl) rfl rfl),⟨(yG (zD rfl) rfl rfl),⟨(zH rfl),trivial⟩⟩⟩ rfl (yK (zD rfl) rfl (by simp) (zt ⟨(zu rfl),(zM (zC rfl) rfl rfl rfl),trivial⟩) (yK (zD rfl) rfl (by simp) (zt ⟨(zu rfl),(zM (zC rfl) rfl rfl rfl),trivial⟩) (zB (zC rfl) rfl rfl (zB (zC rfl) rfl rfl zE))))
 · intro fA fC x hS hR s h
   cases s with
   |h0 x0=>
    refine Holds.eq (t556_0 cond fA fC n1 ap np mp tp n2 aq nq mq tq x0) ?_
    unfold T556_0
    rw [q556] at h
    exact zA h (fun c0 h=>zA h (fun c1 h=>zA h (fun c2 h=>zA h (fun c3 h=>zA h (fun c4 h=>zA h (fun c5 h=>zU hR _ h (fun n=>n) rfl rfl rfl (zR rfl) rfl (zB (zC rfl) rfl rfl (zB (zC rfl) rfl rfl zE))) (fun c5 h=>zA h (fun c6 h=>zb hS _ h (fun n=>bif Nat.beq n 2 then 2 else bif Nat.beq n 3 then 3 else n) rfl rfl rfl ⟨(yG (zD rfl) rfl rfl),⟨(yG (zD rfl) rfl rfl),⟨(zH rfl),trivial⟩⟩⟩ rfl (yK (zD rfl) rfl (by simp) (zt ⟨(zu rfl),(zM (zC rfl) rfl rfl rfl),trivial⟩) (yK (zD rfl) rfl (by simp) (zt ⟨(zu rfl),(zM (zC rfl) rfl rfl rfl),trivial⟩) (zB (zC rfl) rfl rfl (zB (zC rfl) rfl rfl zE))))) (fun c6 h=>zF h))) (fun c4 h=>zF h)) (fun c3 h=>zF h)) (fun c2 h=>zF h)) (fun c1 h=>zF h)) (fun c0 h=>zU hR _ h (fun n=>n) rfl rfl rfl (zR rfl) rfl (zB (zC rfl) rfl rfl (zB (zC rfl) rfl rfl zE)))
end
end Go.Ev
