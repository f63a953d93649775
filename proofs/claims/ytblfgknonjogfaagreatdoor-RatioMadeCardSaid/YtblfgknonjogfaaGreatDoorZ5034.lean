/-
  The parts that the statement needs, 4 of 5.
-/
import Derived.Test.YtblfgknonjogfaaGreatDoorZ5033
namespace Go.Ev
open Go.Proofs
open Go.RowKit
set_option linter.unusedVariables false
set_option linter.unusedSimpArgs false
set_option maxRecDepth 100000
noncomputable abbrev w63 {α:Type} (g:Nat→Nat→Nat→(Nat→Int)→Nat→Nat→Nat→(Nat→Int)→α) (x:(Nat×Nat×Nat×(Nat→Int)×Unit)×(Nat×Nat×Nat×(Nat→Int)×Unit)×Unit):α:=g x.1.1 x.1.2.1 x.1.2.2.1 x.1.2.2.2.1 x.2.1.1 x.2.1.2.1 x.2.1.2.2.1 x.2.1.2.2.2.1
noncomputable def k63:Con:=⟨126,[.one (.list [.int .i64]),.one (.list [.int .i64])],w63 (fun ap np mp tp aq nq mq tq=>decide ((ap+np≤mp∧aq+nq≤mq)∧(np≤800∧nq≤800)∧S.okG np (fun j=>tp (j+ap))=true∧S.okG nq (fun j=>tq (j+aq))=true)),w63 (fun ap np mp tp aq nq mq tq=>(V63 ap np mp tp aq nq mq tq) (S.grp (S.gcdV (S.val np (fun j=>tp (j+ap))) (S.val nq (fun j=>tq (j+aq)))))),w63 (fun ap np mp tp aq nq mq tq=>(N63 ap np mp tp aq nq mq tq) (S.grp (S.gcdV (S.val np (fun j=>tp (j+ap))) (S.val nq (fun j=>tq (j+aq)))))),fun _ _=> .dead⟩
theorem s63e (ap np mp:Nat) (tp:Nat→Int) (aq nq mq:Nat) (tq:Nat→Int): ∀ (k:Nat) (x y:Int),y.toNat<k→(0≤x∧x<9223372036854775808)→(0≤y∧y<9223372036854775808)→Comes (q63 ap np mp tp aq nq mq tq) (.h1 x y) (S.grp (S.gcdV x y)):=by
  intro k
  induction k with
  |zero=>intro x y h; omega
  | succ k ih=>
    intro x y h hx hy
    apply Comes.of
    rw [q63]
    by_cases h0:y>0
    · have m0:=Int.emod_nonneg x (show y≠0 by omega)
      have m1:=Int.emod_lt_of_pos x h0
      have hm:=ih y (x % y) (by omega) hy (by omega)
      rw [gcdV_mod,← Int.tmod_eq_emod_of_nonneg hx.1] at hm
      with_reducible refine goes_ok (decide_eq_true h0) ?_
      with_reducible refine goes_no ?_ ?_
      · exact decide_eq_false (by omega)
      exact hm
    · obtain rfl:y=0:=by omega
      rw [gcdV_zero hx.1]
      with_reducible refine goes_no ?_ ?_
      · exact decide_eq_false h0
      rw [wrapU hx]
      with_reducible refine goes_ok ?_ ?_
      · apply decide_eq_true; omega
      exact goes_inr.mpr rfl
theorem s63' (ap np mp:Nat) (tp:Nat→Int) (aq nq mq:Nat) (tq:Nat→Int): ∀ (k:Nat) (A B:Int),B.toNat<k→0≤B→B≤A→A<S.pw 900→Comes (q63 ap np mp tp aq nq mq tq) (.h0 (S.grp A) (S.grp B)) (S.grp (S.gcdV A B)):=by
  intro k
  induction k with
  |zero=>intro A B h; omega
  | succ k ih=>
    intro A B h h0 h1 h2
    have lA:=grp_le (v:=A) (n:=900) h2
    have lB:=grp_le (v:=B) (n:=900) (by omega)
    have vA:=val_grpL (v:=A) (by omega)
    have vB:=val_grpL (v:=B) h0
    have oA:(S.okG (S.grp A).length (fun j=>S.at' (S.grp A) j))=true:=grp_ok
    have oB:(S.okG (S.grp B).length (fun j=>S.at' (S.grp B) j))=true:=grp_ok
    have lBA:(S.grp B).length≤(S.grp A).length:=by
      refine grp_le (Int.lt_of_le_of_lt h1 ?_)
      have:=val_lt (okG_D oA) (Nat.le_refl _)
      rw [vA] at this
      exact this
    have fin: ¬ ((S.grp A).length>3∧(S.grp B).length>0)→Goes (q63 ap np mp tp aq nq mq tq) (bif ((((S.grp B).length:Nat):Int)==0) then (some (.inr (S.grp A))) else (bif decide (0+(S.grp A).length≤(S.grp A).length∧(S.grp A).length≤1000∧(S.okD (S.grp A).length (fun j=>S.at' (S.grp A) j))=true∧(0:Int)≤0∧(0:Int)≤1000) then (bif decide (0+(S.grp B).length≤(S.grp B).length∧(S.grp B).length≤1000∧(S.okD (S.grp B).length (fun j=>S.at' (S.grp B) j))=true∧(0:Int)≤0∧(0:Int)≤1000) then (some (.inl (.h1 (S.valF (fun j=>S.at' (S.grp A) j) 0 (min (S.grp A).length 3)) (S.valF (fun j=>S.at' (S.grp B) j) 0 (min (S.grp B).length 3))))) else none) else none)) (S.grp (S.gcdV A B)):=by
      intro hn
      by_cases hB:(S.grp B).length=0
      · have e:B=0:=by have:=len_zero.mp hB; omega
        rw [e,gcdV_zero (by omega)]
        with_reducible refine goes_ok ?_ ?_
        · rw [grp_neg (by omega)]; rfl
        exact goes_inr.mpr rfl
      · have l3:(S.grp A).length≤3:=by omega
        rw [Nat.min_eq_left l3,Nat.min_eq_left (Nat.le_trans lBA l3)]
        have p3:S.pw 3=1000000000000000000:=rfl
        have wA:=val_lt (okG_D oA) l3
        rw [vA] at wA
        have hm:=s63e ap np mp tp aq nq mq tq (B.toNat+1) A B (by omega) ⟨by omega,by omega⟩ ⟨h0,by omega⟩
        have eA:S.valF (fun j=>S.at' (S.grp A) j) 0 (S.grp A).length=A:=vA
        have eB:S.valF (fun j=>S.at' (S.grp B) j) 0 (S.grp B).length=B:=vB
        rw [eA,eB]
        with_reducible refine goes_no ?_ ?_
        · rw [beq_eq_false_iff_ne]; omega
        with_reducible refine goes_ok ?_ ?_
        · exact decide_eq_true ⟨by omega,by omega,okG_D oA,by omega,by omega⟩
        with_reducible refine goes_ok ?_ ?_
        · exact decide_eq_true ⟨by omega,by omega,okG_D oB,by omega,by omega⟩
        exact hm
    apply Comes.of
    rw [q63]
    by_cases g3:(S.grp A).length>3
    · with_reducible refine goes_ok ?_ ?_
      · apply decide_eq_true; omega
      by_cases gB:(S.grp B).length>0
      · with_reducible refine goes_ok ?_ ?_
        · apply decide_eq_true; omega
        have Bp:0<B:=by
          refine Int.not_le.mp fun h=> ?_
          have:=len_zero.mpr h
          omega
        have hBA:S.val (S.grp B).length (fun j=>S.at' (S.grp B) j)≤S.val (S.grp A).length (fun j=>S.at' (S.grp A) j):=by rw [vA,vB]; exact h1
        obtain ⟨xy1,xy2,xy3⟩:=lead_xy g3 lBA (okG_D oA) (okG_D oB) hBA
        rw [vA] at xy1
        rw [vB] at xy2
        with_reducible refine goes_ok ?_ ?_
        · exact decide_eq_true ⟨⟨by omega,by omega⟩,⟨g3,lA,lBA⟩,okG_D oA,okG_D oB,hBA⟩
        clear fin
        obtain ⟨p,q,r,s,hs⟩: ∃ p q r s,c63_0_3 (S.grp A) (S.grp B)=(p,q,r,s):=⟨_,_,_,_,rfl⟩
        have lb:=lead_b xy3 hs
        have hs':=hs
        unfold c63_0_3 at hs'
        rw [hs]
        by_cases hq:q=0
        · have m1:=Int.emod_lt_of_pos A Bp
          have m0:=Int.emod_nonneg A (show B≠0 by omega)
          have hm:=ih B (A % B) (by omega) m0 (by omega) (by omega)
          rw [gcdV_mod] at hm
          with_reducible refine goes_ok ?_ ?_
          · rw [hq]; rfl
          with_reducible refine goes_ok ?_ ?_
          · exact decide_eq_true ⟨⟨by omega,by omega⟩,⟨lA,lB⟩,oA,oB,gB⟩
          rw [vA,vB]
          exact hm
        · obtain ⟨⟨k1,k2,k3,k4⟩,k5⟩:=lead_ok pw_pos xy1 xy2 xy3 hs hq
          have hm:=ih (p*A+q*B) (r*A+s*B) (by omega) k1 k3 (by omega)
          have e5:S.gcdV (p*A+q*B) (r*A+s*B)=S.gcdV A B:=by unfold S.gcdV; rw [k5]
          rw [e5] at hm
          with_reducible refine goes_no ?_ ?_
          · rw [beq_eq_false_iff_ne]; exact hq
          with_reducible refine goes_ok ?_ ?_
          · unfold c63_0_2; (try unfold c63_0_0); rw [hs',vA,vB]; refine decide_eq_true ?_; dsimp only; exact ⟨⟨by omega,by omega⟩,⟨lA,lBA⟩,⟨okG_D oA,okG_D oB⟩,lb.1,lb.2.1,by omega,by omega⟩
          with_reducible refine goes_ok ?_ ?_
          · unfold c63_0_1; (try unfold c63_0_0); rw [hs',vA,vB]; refine decide_eq_true ?_; dsimp only; exact ⟨⟨by omega,by omega⟩,⟨lA,lBA⟩,⟨okG_D oA,okG_D oB⟩,lb.2.2.1,lb.2.2.2,by omega,by omega⟩
          rw [vA,vB]
          exact hm
      · with_reducible refine goes_no ?_ ?_
        · apply decide_eq_false; omega
        exact fin (by omega)
    · with_reducible refine goes_no ?_ ?_
      · apply decide_eq_false; omega
      exact fin (by omega)
theorem s63 (ap np mp:Nat) (tp:Nat→Int) (aq nq mq:Nat) (tq:Nat→Int) (hp:(ap+np≤mp∧aq+nq≤mq)∧(np≤800∧nq≤800)∧S.okG np (fun j=>tp (j+ap))=true∧S.okG nq (fun j=>tq (j+aq))=true):Goes ((q63 ap np mp tp aq nq mq tq)) ((p63 ap np mp tp aq nq mq tq)) (S.grp (S.gcdV (S.val np (fun j=>tp (j+ap))) (S.val nq (fun j=>tq (j+aq))))):=by
  obtain ⟨⟨hp1,hp2⟩,⟨hp3,hp4⟩,g1,g2⟩:=hp
  have v1:=val_nn (okG_D g1)
  have v2:=val_nn (okG_D g2)
  have w1:=val_lt (okG_D g1) (show np≤900 by omega)
  have w2:=val_lt (okG_D g2) (show nq≤900 by omega)
  have eP:S.mkl np (fun j=>tp (j+ap))=S.grp (S.val np (fun j=>tp (j+ap))):=by rw [← trim_mkl (okG_D g1)]; exact mkl_G g1
  have eQ:S.mkl nq (fun j=>tq (j+aq))=S.grp (S.val nq (fun j=>tq (j+aq))):=by rw [← trim_mkl (okG_D g2)]; exact mkl_G g2
  unfold p63
  with_reducible refine goes_ok ?_ ?_
  · exact decide_eq_true ⟨hp1,by omega⟩
  with_reducible refine goes_ok ?_ ?_
  · exact decide_eq_true ⟨hp2,by omega⟩
  with_reducible refine goes_ok ?_ ?_
  · exact decide_eq_true ⟨by omega,by omega,by omega,by omega,g1,g2⟩
  by_cases h:(S.val np (fun j=>tp (j+ap)))<(S.val nq (fun j=>tq (j+aq)))
  · have hm:=s63' ap np mp tp aq nq mq tq ((S.val np (fun j=>tp (j+ap))).toNat+1) (S.val nq (fun j=>tq (j+aq))) (S.val np (fun j=>tp (j+ap))) (by omega) v1 (by omega) w2
    rw [gcdV_comm,← eP,← eQ] at hm
    with_reducible refine goes_ok ?_ ?_
    · refine decide_eq_true ?_
      unfold S.cmpS; rw [if_pos h]; decide
    exact hm
  · have hm:=s63' ap np mp tp aq nq mq tq ((S.val nq (fun j=>tq (j+aq))).toNat+1) (S.val np (fun j=>tp (j+ap))) (S.val nq (fun j=>tq (j+aq))) (by omega) v2 (by omega) w1
    rw [← eP,← eQ] at hm
    with_reducible refine goes_no ?_ ?_
    · refine decide_eq_false ?_
      unfold S.cmpS; rw [if_neg h]; split<;>decide
    exact hm
theorem k63_ok:k63.ok Tryz.prog:=by
  intro x hx
  obtain ⟨⟨ap,np,mp,tp,_⟩,⟨aq,nq,mq,tq,_⟩,_⟩:=x
  obtain ⟨h1,h2⟩:=a63 ap np mp tp aq nq mq tq (s63 ap np mp tp aq nq mq tq (of_dec hx rfl))
  exact ⟨⟨400,(by decide:2+1+1≤400),h1⟩,h2⟩
noncomputable def xG6 (test:Bool→Prop→Prop→Prop):Ext:=consX test [k63,k18]
theorem xG6_ok:ExtOk Tryz.prog (xG6 cond):=consX_ok ⟨k63_ok,k18_ok,trivial⟩
noncomputable def xG7 (test:Bool→Prop→Prop→Prop):Ext:=consX test [k57,k46,k18,k19]
theorem xG7_ok:ExtOk Tryz.prog (xG7 cond):=consX_ok ⟨k57_ok,k46_ok,k18_ok,k19_ok,trivial⟩
namespace S
noncomputable def gcdS (n1:Bool) (n:Nat) (t:Nat→Int) (n2:Bool) (m:Nat) (u:Nat→Int):Bool×Int×List Int:=if okI n1 n t=true∧okI n2 m u=true then (false,0,grp (gcdV (val n t) (val m u))) else (false,1,[])
end S
inductive St35 where
  |h0
  |h1 (x0:List Int)
  |h2 (x0:Nat) (x1:Nat) (x2:List Int) (x3:List Int)
abbrev Rt35:=Bool×Int×List Int
noncomputable def V35 (n1:Bool) (ap np mp:Nat) (tp:NI) (n2:Bool) (aq nq mq:Nat) (tq:NI) (r:Rt35):PV:=PV.tup [PV.agg [PV.bool r.1,PV.own (3) (1) (List.length r.2.2)],PV.int .i64 r.2.1]
noncomputable def N35 (n1:Bool) (ap np mp:Nat) (tp:NI) (n2:Bool) (aq nq mq:Nat) (tq:NI) (r:Rt35):List Blk:= [Blk.cols (List.length r.2.2) [Col.int .i64 fun j=>S.at' r.2.2 j]]
noncomputable def I35 (n1:Bool) (ap np mp:Nat) (tp:NI) (n2:Bool) (aq nq mq:Nat) (tq:NI):St35→Hd
  | .h0=>⟨hd Tryz.f61 0,[PV.ptr (PA.mk (2) (0) (0) (0)),
 PV.loose (PA.mk (0) (1) ap (0)) np,
 PV.loose (PA.mk (1) (1) aq (0)) nq],[[(2,(true,Blk.cells [PV.tf false,PV.nils]))],[(0,(false,.cols mp [.int .i64 tp])),(1,(false,.cols mq [.int .i64 tq]))]],3⟩
  | .h1 x0=>⟨hd Tryz.f61 0,[PV.ptr (PA.mk (2) (0) (0) (0)),
 PV.loose (PA.mk (1) (1) aq (0)) nq,
 PV.loose (PA.mk (3) (1) (0) (0))
 (List.length
 (S.grp ((S.val np fun j=>tp (j+ap)) % S.val nq fun j=>tq (j+aq))))],[[(2,(true,Blk.cells [PV.tf false,PV.nils])),(3,(true,Blk.cols (List.length x0) [Col.int .i64 fun j=>S.at' x0 j]))],[(0,(false,.cols mp [.int .i64 tp])),(1,(false,.cols mq [.int .i64 tq]))]],4⟩
  | .h2 x0 x1 x2 x3=>⟨hd Tryz.f61 0,[PV.ptr (PA.mk (2) (0) (0) (0)),
 PV.loose (PA.mk (3) (1) (0) (0)) x0,
 PV.loose (PA.mk (4) (1) (0) (0)) x1],[[(2,(true,Blk.cells [PV.tf false,PV.nils])),(3,(true,Blk.cols (List.length x2) [Col.int .i64 fun j=>S.at' x2 j])),(4,(true,Blk.cols (List.length x3) [Col.int .i64 fun j=>S.at' x3 j]))],[(0,(false,.cols mp [.int .i64 tp])),(1,(false,.cols mq [.int .i64 tq]))]],5⟩
noncomputable def q35 (n1:Bool) (ap np mp:Nat) (tp:NI) (n2:Bool) (aq nq mq:Nat) (tq:NI):St35→Option (St35⊕Rt35)| .h0=>bif (decide ((↑nq:Int)>0)) then (bif (decide ((ap+np≤mp∧aq+nq≤mq)∧(np≤900∧nq≤900)∧(S.okG np fun j=>tp (j+ap))=true∧(S.okG nq fun j=>tq (j+aq))=true∧0<nq)) then (some (.inl (.h1 (S.grp ((S.val np fun j=>tp (j+ap)) % S.val nq fun j=>tq (j+aq)))))) else (none)) else (bif (decide (ap+np≤mp∧np≤1000000∧(S.okD np fun j=>tp (j+ap))=true)) then (some (.inr (S.sgB false (S.val np fun j=>tp (j+ap)),(0:Int),S.grp (S.val np fun j=>tp (j+ap))))) else (none))| .h1 x0=>bif (decide ((↑(List.length (S.grp ((S.val np fun j=>tp (j+ap)) % S.val nq fun j=>tq (j+aq)))):Int)>0)) then (bif (decide ((aq+nq≤mq∧0+List.length (S.grp ((S.val np fun j=>tp (j+ap)) % S.val nq fun j=>tq (j+aq)))≤List.length x0)∧(nq≤900∧List.length (S.grp ((S.val np fun j=>tp (j+ap)) % S.val nq fun j=>tq (j+aq)))≤900)∧(S.okG nq fun j=>tq (j+aq))=true∧(S.okG (List.length (S.grp ((S.val np fun j=>tp (j+ap)) % S.val nq fun j=>tq (j+aq)))) fun j=>S.at' x0 j)=true∧0<List.length (S.grp ((S.val np fun j=>tp (j+ap)) % S.val nq fun j=>tq (j+aq))))) then (some (.inl (.h2 (List.length (S.grp ((S.val np fun j=>tp (j+ap)) % S.val nq fun j=>tq (j+aq)))) (List.length (S.grp ((S.val nq fun j=>tq (j+aq)) % S.val (List.length (S.grp ((S.val np fun j=>tp (j+ap)) % S.val nq fun j=>tq (j+aq)))) fun j=>S.at' x0 j))) (x0) (S.grp ((S.val nq fun j=>tq (j+aq)) % S.val (List.length (S.grp ((S.val np fun j=>tp (j+ap)) % S.val nq fun j=>tq (j+aq)))) fun j=>S.at' x0 j))))) else (none)) else (bif (decide (aq+nq≤mq∧nq≤1000000∧(S.okD nq fun j=>tq (j+aq))=true)) then (some (.inr (S.sgB false (S.val nq fun j=>tq (j+aq)),(0:Int),S.grp (S.val nq fun j=>tq (j+aq))))) else (none))| .h2 x0 x1 x2 x3=>bif (decide ((↑x1:Int)>0)) then (bif (decide ((0+x0≤List.length x2∧0+x1≤List.length x3)∧(x0≤900∧x1≤900)∧(S.okG x0 fun j=>S.at' x2 j)=true∧(S.okG x1 fun j=>S.at' x3 j)=true∧0<x1)) then (some (.inl (.h2 (x1) (List.length (S.grp ((S.val x0 fun j=>S.at' x2 j) % S.val x1 fun j=>S.at' x3 j))) (x3) (S.grp ((S.val x0 fun j=>S.at' x2 j) % S.val x1 fun j=>S.at' x3 j))))) else (none)) else (bif (decide (0+x0≤List.length x2∧x0≤1000000∧(S.okD x0 fun j=>S.at' x2 j)=true)) then (some (.inr (S.sgB false (S.val x0 fun j=>S.at' x2 j),(0:Int),S.grp (S.val x0 fun j=>S.at' x2 j)))) else (none))
noncomputable def p35 (n1:Bool) (ap np mp:Nat) (tp:NI) (n2:Bool) (aq nq mq:Nat) (tq:NI):Option (St35⊕Rt35):=bif (decide (ap+np≤mp∧np≤1000000)) then (bif (S.okI n1 np fun j=>tp (j+ap)) then (bif (decide (aq+nq≤mq∧nq≤1000000)) then (bif (S.okI n2 nq fun j=>tq (j+aq)) then (some (.inl (.h0))) else (some (.inr (false,(1:Int),[])))) else (none)) else (some (.inr (false,(1:Int),[])))) else (none)
noncomputable def Te35 (test:TT) (Kst:KS) (Kret:KR) (n1:Bool) (ap np mp:Nat) (tp:NI) (n2:Bool) (aq nq mq:Nat) (tq:NI):Prop:=test (decide (ap+np≤mp∧np≤1000000)) (test (S.okI n1 np fun j=>tp (j+ap)) (test (decide (aq+nq≤mq∧nq≤1000000)) (test (S.okI n2 nq fun j=>tq (j+aq)) (Kst (hd Tryz.f61 0) ([PV.ptr (PA.mk (4) (0) (0) (0)),PV.loose (PA.mk (0) (1) ap (0)) np,PV.loose (PA.mk (1) (1) aq (0)) nq]) ([[(1,false,Blk.cols mq [Col.int .i64 tq]),(0,false,Blk.cols mp [Col.int .i64 tp]),(4,true,Blk.cells [PV.tf false,PV.nils])]]) (7)) (Kret (PV.tup [PV.agg [PV.tf false,PV.nils],PV.int .i64 (1:Int)]) ([[(1,false,Blk.cols mq [Col.int .i64 tq]),(0,false,Blk.cols mp [Col.int .i64 tp])]]) (7))) (False)) (Kret (PV.tup [PV.agg [PV.tf false,PV.nils],PV.int .i64 (1:Int)]) ([[(1,false,Blk.cols mq [Col.int .i64 tq]),(0,false,Blk.cols mp [Col.int .i64 tp])]]) (6))) (False)
theorem te35 (test:TT) (Kst:KS) (Kret:KR) (n1:Bool) (ap np mp:Nat) (tp:NI) (n2:Bool) (aq nq mq:Nat) (tq:NI):run test Tryz.env true (xG7 test) true 400 ⟨61,[.cd (mkFn Tryz.f61).body],argT 0 [.agg [.bool n1,.loose ⟨0,1,ap,0⟩ np],.agg [.bool n2,.loose ⟨1,1,aq,0⟩ nq]],[[],[(0,(false,.cols mp [.int .i64 tp])),(1,(false,.cols mq [.int .i64 tq]))]],2⟩ (proj 2 [4,6,7] Kst Kret)=
  Te35 test Kst Kret n1 ap np mp tp n2 aq nq mq tq:=by kernel_rfl
noncomputable def T35_0 (test:TT) (Kst:KS) (Kret:KR) (n1:Bool) (ap np mp:Nat) (tp:NI) (n2:Bool) (aq nq mq:Nat) (tq:NI):Prop:=test (decide ((↑nq:Int)>0)) (test (decide ((ap+np≤mp∧aq+nq≤mq)∧(np≤900∧nq≤900)∧(S.okG np fun j=>tp (j+ap))=true∧(S.okG nq fun j=>tq (j+aq))=true∧0<nq)) (Kst (hd Tryz.f61 0) ([PV.ptr (PA.mk (2) (0) (0) (0)),PV.loose (PA.mk (1) (1) aq (0)) nq,PV.loose (PA.mk (5) (1) (0) (0)) (List.length (S.grp ((S.val np fun j=>tp (j+ap)) % S.val nq fun j=>tq (j+aq))))]) ([[(1,false,Blk.cols mq [Col.int .i64 tq]),(0,false,Blk.cols mp [Col.int .i64 tp]),(5,true,Blk.cols (List.length (S.grp ((S.val np fun j=>tp (j+ap)) % S.val nq fun j=>tq (j+aq)))) [Col.int .i64 fun j=>S.at' (S.grp ((S.val np fun j=>tp (j+ap)) % S.val nq fun j=>tq (j+aq))) j]),(2,true,Blk.cells [PV.tf false,PV.nils])]]) (6)) (False)) (test (decide (ap+np≤mp∧np≤1000000∧(S.okD np fun j=>tp (j+ap))=true)) (Kret (PV.tup [PV.agg [PV.bool (S.sgB false (S.val np fun j=>tp (j+ap))),PV.own (4) (1) (List.length (S.grp (S.val np fun j=>tp (j+ap))))],PV.int .i64 (0:Int)]) ([[(1,false,Blk.cols mq [Col.int .i64 tq]),(0,false,Blk.cols mp [Col.int .i64 tp]),(4,true,Blk.cols (List.length (S.grp (S.val np fun j=>tp (j+ap)))) [Col.int .i64 fun j=>S.at' (S.grp (S.val np fun j=>tp (j+ap))) j])]]) (5)) (False))
theorem t35_0 (test:TT) (Kst:KS) (Kret:KR) (n1:Bool) (ap np mp:Nat) (tp:NI) (n2:Bool) (aq nq mq:Nat) (tq:NI):run test Tryz.env true (xG7 test) true 400 ⟨61,hd Tryz.f61 0,zipT [4,6,7] [PV.ptr (PA.mk (2) (0) (0) (0)),
 PV.loose (PA.mk (0) (1) ap (0)) np,
 PV.loose (PA.mk (1) (1) aq (0)) nq],[[(2,(true,Blk.cells [PV.tf false,PV.nils]))],[(0,(false,.cols mp [.int .i64 tp])),(1,(false,.cols mq [.int .i64 tq]))]],3⟩ (proj 2 [4,6,7] Kst Kret)=
  T35_0 test Kst Kret n1 ap np mp tp n2 aq nq mq tq:=by kernel_rfl
noncomputable abbrev u35_1_0 (ap np:Nat) (tp:NI) (aq nq:Nat) (tq:NI):=S.grp ((S.val np fun j=>tp (j+ap)) % S.val nq fun j=>tq (j+aq))
noncomputable def T35_1 (test:TT) (Kst:KS) (Kret:KR) (n1:Bool) (ap np mp:Nat) (tp:NI) (n2:Bool) (aq nq mq:Nat) (tq:NI) (x0:List Int):Prop:=test (decide ((↑(List.length (u35_1_0 ap np tp aq nq tq)):Int)>0)) (test (decide ((aq+nq≤mq∧0+List.length (u35_1_0 ap np tp aq nq tq)≤List.length x0)∧(nq≤900∧List.length (u35_1_0 ap np tp aq nq tq)≤900)∧(S.okG nq fun j=>tq (j+aq))=true∧(S.okG (List.length (u35_1_0 ap np tp aq nq tq)) fun j=>S.at' x0 j)=true∧0<List.length (u35_1_0 ap np tp aq nq tq))) (Kst (hd Tryz.f61 0) ([PV.ptr (PA.mk (2) (0) (0) (0)),PV.loose (PA.mk (3) (1) (0) (0)) (List.length (u35_1_0 ap np tp aq nq tq)),PV.loose (PA.mk (6) (1) (0) (0)) (List.length (S.grp ((S.val nq fun j=>tq (j+aq)) % S.val (List.length (u35_1_0 ap np tp aq nq tq)) fun j=>S.at' x0 j)))]) ([[(1,false,Blk.cols mq [Col.int .i64 tq]),(0,false,Blk.cols mp [Col.int .i64 tp]),(6,true,Blk.cols (List.length (S.grp ((S.val nq fun j=>tq (j+aq)) % S.val (List.length (u35_1_0 ap np tp aq nq tq)) fun j=>S.at' x0 j))) [Col.int .i64 fun j=>S.at' (S.grp ((S.val nq fun j=>tq (j+aq)) % S.val (List.length (u35_1_0 ap np tp aq nq tq)) fun j=>S.at' x0 j)) j]),(3,true,Blk.cols (List.length x0) [Col.int .i64 fun j=>S.at' x0 j]),(2,true,Blk.cells [PV.tf false,PV.nils])]]) (7)) (False)) (test (decide (aq+nq≤mq∧nq≤1000000∧(S.okD nq fun j=>tq (j+aq))=true)) (Kret (PV.tup [PV.agg [PV.bool (S.sgB false (S.val nq fun j=>tq (j+aq))),PV.own (5) (1) (List.length (S.grp (S.val nq fun j=>tq (j+aq))))],PV.int .i64 (0:Int)]) ([[(1,false,Blk.cols mq [Col.int .i64 tq]),(0,false,Blk.cols mp [Col.int .i64 tp]),(5,true,Blk.cols (List.length (S.grp (S.val nq fun j=>tq (j+aq)))) [Col.int .i64 fun j=>S.at' (S.grp (S.val nq fun j=>tq (j+aq))) j])]]) (6)) (False))
theorem t35_1 (test:TT) (Kst:KS) (Kret:KR) (n1:Bool) (ap np mp:Nat) (tp:NI) (n2:Bool) (aq nq mq:Nat) (tq:NI) (x0:List Int):run test Tryz.env true (xG7 test) true 400 ⟨61,hd Tryz.f61 0,zipT [4,6,7] [PV.ptr (PA.mk (2) (0) (0) (0)),
 PV.loose (PA.mk (1) (1) aq (0)) nq,
 PV.loose (PA.mk (3) (1) (0) (0))
 (List.length
 (S.grp ((S.val np fun j=>tp (j+ap)) % S.val nq fun j=>tq (j+aq))))],[[(2,(true,Blk.cells [PV.tf false,PV.nils])),(3,(true,Blk.cols (List.length x0) [Col.int .i64 fun j=>S.at' x0 j]))],[(0,(false,.cols mp [.int .i64 tp])),(1,(false,.cols mq [.int .i64 tq]))]],4⟩ (proj 2 [4,6,7] Kst Kret)=
  T35_1 test Kst Kret n1 ap np mp tp n2 aq nq mq tq x0:=by kernel_rfl
noncomputable def T35_2 (test:TT) (Kst:KS) (Kret:KR) (n1:Bool) (ap np mp:Nat) (tp:NI) (n2:Bool) (aq nq mq:Nat) (tq:NI) (x0 x1:Nat) (x2 x3:List Int):Prop:=test (decide ((↑x1:Int)>0)) (test (decide ((0+x0≤List.length x2∧0+x1≤List.length x3)∧(x0≤900∧x1≤900)∧(S.okG x0 fun j=>S.at' x2 j)=true∧(S.okG x1 fun j=>S.at' x3 j)=true∧0<x1)) (Kst (hd Tryz.f61 0) ([PV.ptr (PA.mk (2) (0) (0) (0)),PV.loose (PA.mk (4) (1) (0) (0)) x1,PV.loose (PA.mk (7) (1) (0) (0)) (List.length (S.grp ((S.val x0 fun j=>S.at' x2 j) % S.val x1 fun j=>S.at' x3 j)))]) ([[(1,false,Blk.cols mq [Col.int .i64 tq]),(0,false,Blk.cols mp [Col.int .i64 tp]),(7,true,Blk.cols (List.length (S.grp ((S.val x0 fun j=>S.at' x2 j) % S.val x1 fun j=>S.at' x3 j))) [Col.int .i64 fun j=>S.at' (S.grp ((S.val x0 fun j=>S.at' x2 j) % S.val x1 fun j=>S.at' x3 j)) j]),(4,true,Blk.cols (List.length x3) [Col.int .i64 fun j=>S.at' x3 j]),(2,true,Blk.cells [PV.tf false,PV.nils])]]) (8)) (False)) (test (decide (0+x0≤List.length x2∧x0≤1000000∧(S.okD x0 fun j=>S.at' x2 j)=true)) (Kret (PV.tup [PV.agg [PV.bool (S.sgB false (S.val x0 fun j=>S.at' x2 j)),PV.own (6) (1) (List.length (S.grp (S.val x0 fun j=>S.at' x2 j)))],PV.int .i64 (0:Int)]) ([[(1,false,Blk.cols mq [Col.int .i64 tq]),(0,false,Blk.cols mp [Col.int .i64 tp]),(6,true,Blk.cols (List.length (S.grp (S.val x0 fun j=>S.at' x2 j))) [Col.int .i64 fun j=>S.at' (S.grp (S.val x0 fun j=>S.at' x2 j)) j])]]) (7)) (False))
theorem t35_2 (test:TT) (Kst:KS) (Kret:KR) (n1:Bool) (ap np mp:Nat) (tp:NI) (n2:Bool) (aq nq mq:Nat) (tq:NI) (x0 x1:Nat) (x2 x3:List Int):run test Tryz.env true (xG7 test) true 400 ⟨61,hd Tryz.f61 0,zipT [4,6,7] [PV.ptr (PA.mk (2) (0) (0) (0)),
 PV.loose (PA.mk (3) (1) (0) (0)) x0,
 PV.loose (PA.mk (4) (1) (0) (0)) x1],[[(2,(true,Blk.cells [PV.tf false,PV.nils])),(3,(true,Blk.cols (List.length x2) [Col.int .i64 fun j=>S.at' x2 j])),(4,(true,Blk.cols (List.length x3) [Col.int .i64 fun j=>S.at' x3 j]))],[(0,(false,.cols mp [.int .i64 tp])),(1,(false,.cols mq [.int .i64 tq]))]],5⟩ (proj 2 [4,6,7] Kst Kret)=
  T35_2 test Kst Kret n1 ap np mp tp n2 aq nq mq tq x0 x1 x2 x3:=by kernel_rfl
noncomputable abbrev J35 (n1:Bool) (ap np mp:Nat) (tp:NI) (n2:Bool) (aq nq mq:Nat) (tq:NI):Rt35→Heap:=fun r=> [newL (2+1) ((N35 n1 ap np mp tp n2 aq nq mq tq) r)++ [(0,(false,.cols mp [.int .i64 tp])),(1,(false,.cols mq [.int .i64 tq]))]]
attribute [local irreducible] Int.subNatNat in
theorem be35 (n1:Bool) (ap np mp:Nat) (tp:NI) (n2:Bool) (aq nq mq:Nat) (tq:NI) (Kst:KS) (Kret:KR) (x:St35⊕Rt35) (hS:HS 2 400 ((I35 n1 ap np mp tp n2 aq nq mq tq)) Kst x) (hR:HR 2 400 ((V35 n1 ap np mp tp n2 aq nq mq tq)) (J35 n1 ap np mp tp n2 aq nq mq tq) Kret x) (h:p35 n1 ap np mp tp n2 aq nq mq tq=some x):Te35 cond Kst Kret n1 ap np mp tp n2 aq nq mq tq:=by
  unfold Te35
  unfold p35 at h
  exact bif_split h (fun c0 h=>bif_split h (fun c1 h=>bif_split h (fun c2 h=>bif_split h (fun c3 h=>stop_at hS _ h (fun n=>bif Nat.beq n 2 then 4 else n) rfl rfl rfl ⟨(rn_ptr (use_own rfl) rfl rfl),⟨(rn_loose (use_lo rfl) rfl rfl rfl),⟨(rn_loose (use_lo rfl) rfl rfl rfl),trivial⟩⟩⟩ rfl (entl_b (use_own rfl) rfl (by simp) (rb_cells ⟨(rn_tf rfl),rn_nils,trivial⟩) (entl_bor (use_lo rfl) rfl rfl (entl_bor (use_lo rfl) rfl rfl entl_nil)))) (fun c3 h=>ret_at hR _ h (fun n=>bif Nat.beq n 3 then 399 else n) rfl rfl rfl (rn_tup ⟨(rn_agg ⟨(rn_bool_tf rfl),(rn_own_nils rfl),trivial⟩),(rn_int rfl),trivial⟩) rfl (entl_fresh (use_own rfl) (fresh_ok rfl) (entl_bor (use_lo rfl) rfl rfl (entl_bor (use_lo rfl) rfl rfl entl_nil))))) (fun c2 h=>no_some h)) (fun c1 h=>ret_at hR _ h (fun n=>bif Nat.beq n 3 then 399 else n) rfl rfl rfl (rn_tup ⟨(rn_agg ⟨(rn_bool_tf rfl),(rn_own_nils rfl),trivial⟩),(rn_int rfl),trivial⟩) rfl (entl_fresh (use_own rfl) (fresh_ok rfl) (entl_bor (use_lo rfl) rfl rfl (entl_bor (use_lo rfl) rfl rfl entl_nil))))) (fun c0 h=>no_some h)
attribute [local irreducible] Int.subNatNat in
theorem b35_0 (n1:Bool) (ap np mp:Nat) (tp:NI) (n2:Bool) (aq nq mq:Nat) (tq:NI) (Kst:KS) (Kret:KR) (x:St35⊕Rt35) (hS:HS 2 400 ((I35 n1 ap np mp tp n2 aq nq mq tq)) Kst x) (hR:HR 2 400 ((V35 n1 ap np mp tp n2 aq nq mq tq)) (J35 n1 ap np mp tp n2 aq nq mq tq) Kret x) (h:q35 n1 ap np mp tp n2 aq nq mq tq (.h0)=some x):T35_0 cond Kst Kret n1 ap np mp tp n2 aq nq mq tq:=by
  unfold T35_0
  rw [q35] at h
  exact bif_split h (fun c0 h=>bif_split h (fun c1 h=>stop_at hS _ h (fun n=>bif Nat.beq n 2 then 2 else bif Nat.beq n 3 then 5 else n) rfl rfl rfl ⟨(rn_ptr (use_own rfl) rfl rfl),⟨(rn_loose (use_lo rfl) rfl rfl rfl),⟨(rn_loose (use_own rfl) rfl rfl rfl),trivial⟩⟩⟩ rfl (entl_b (use_own rfl) rfl (by simp) (rb_cells ⟨(rn_tf rfl),rn_nils,trivial⟩) (entl_new (use_own rfl) rfl (Nat.le_of_eq rfl) (rcs_int (fun _ _=>rfl) rcs_nil) (entl_bor (use_lo rfl) rfl rfl (entl_bor (use_lo rfl) rfl rfl entl_nil))))) (fun c1 h=>no_some h)) (fun c0 h=>bif_split h (fun c1 h=>ret_at hR _ h (fun n=>bif Nat.beq n 3 then 4 else n) rfl rfl rfl (rn_tup ⟨(rn_agg ⟨(rn_bool rfl),(rn_own (use_own rfl) rfl rfl),trivial⟩),(rn_int rfl),trivial⟩) rfl (entl_new (use_own rfl) rfl (Nat.le_of_eq rfl) (rcs_int (fun _ _=>rfl) rcs_nil) (entl_bor (use_lo rfl) rfl rfl (entl_bor (use_lo rfl) rfl rfl entl_nil)))) (fun c1 h=>no_some h))
attribute [local irreducible] Int.subNatNat in
theorem b35_1 (n1:Bool) (ap np mp:Nat) (tp:NI) (n2:Bool) (aq nq mq:Nat) (tq:NI) (Kst:KS) (Kret:KR) (x:St35⊕Rt35) (hS:HS 2 400 ((I35 n1 ap np mp tp n2 aq nq mq tq)) Kst x) (hR:HR 2 400 ((V35 n1 ap np mp tp n2 aq nq mq tq)) (J35 n1 ap np mp tp n2 aq nq mq tq) Kret x) (x0:List Int) (h:q35 n1 ap np mp tp n2 aq nq mq tq (.h1 x0)=some x):T35_1 cond Kst Kret n1 ap np mp tp n2 aq nq mq tq x0:=by
  unfold T35_1
  rw [q35] at h
  exact bif_split h (fun c0 h=>bif_split h (fun c1 h=>stop_at hS _ h (fun n=>bif Nat.beq n 2 then 2 else bif Nat.beq n 3 then 3 else bif Nat.beq n 4 then 6 else n) rfl rfl rfl ⟨(rn_ptr (use_own rfl) rfl rfl),⟨(rn_loose (use_own rfl) rfl rfl rfl),⟨(rn_loose (use_own rfl) rfl rfl rfl),trivial⟩⟩⟩ rfl (entl_b (use_own rfl) rfl (by simp) (rb_cells ⟨(rn_tf rfl),rn_nils,trivial⟩) (entl_new (use_own rfl) rfl (Nat.le_of_eq rfl) (rcs_int (fun _ _=>rfl) rcs_nil) (entl_new (use_own rfl) rfl (Nat.le_of_eq rfl) (rcs_int (fun _ _=>rfl) rcs_nil) (entl_bor (use_lo rfl) rfl rfl (entl_bor (use_lo rfl) rfl rfl entl_nil)))))) (fun c1 h=>no_some h)) (fun c0 h=>bif_split h (fun c1 h=>ret_at hR _ h (fun n=>bif Nat.beq n 3 then 5 else n) rfl rfl rfl (rn_tup ⟨(rn_agg ⟨(rn_bool rfl),(rn_own (use_own rfl) rfl rfl),trivial⟩),(rn_int rfl),trivial⟩) rfl (entl_new (use_own rfl) rfl (Nat.le_of_eq rfl) (rcs_int (fun _ _=>rfl) rcs_nil) (entl_bor (use_lo rfl) rfl rfl (entl_bor (use_lo rfl) rfl rfl entl_nil)))) (fun c1 h=>no_some h))
attribute [local irreducible] Int.subNatNat in
theorem b35_2 (n1:Bool) (ap np mp:Nat) (tp:NI) (n2:Bool) (aq nq mq:Nat) (tq:NI) (Kst:KS) (Kret:KR) (x:St35⊕Rt35) (hS:HS 2 400 ((I35 n1 ap np mp tp n2 aq nq mq tq)) Kst x) (hR:HR 2 400 ((V35 n1 ap np mp tp n2 aq nq mq tq)) (J35 n1 ap np mp tp n2 aq nq mq tq) Kret x) (x0 x1:Nat) (x2 x3:List Int) (h:q35 n1 ap np mp tp n2 aq nq mq tq (.h2 x0 x1 x2 x3)=some x):T35_2 cond Kst Kret n1 ap np mp tp n2 aq nq mq tq x0 x1 x2 x3:=by
  unfold T35_2
  rw [q35] at h
  exact bif_split h (fun c0 h=>bif_split h (fun c1 h=>stop_at hS _ h (fun n=>bif Nat.beq n 2 then 2 else bif Nat.beq n 3 then 4 else bif Nat.beq n 4 then 7 else n) rfl rfl rfl ⟨(rn_ptr (use_own rfl) rfl rfl),⟨(rn_loose (use_own rfl) rfl rfl rfl),⟨(rn_loose (use_own rfl) rfl rfl rfl),trivial⟩⟩⟩ rfl (entl_b (use_own rfl) rfl (by simp) (rb_cells ⟨(rn_tf rfl),rn_nils,trivial⟩) (entl_new (use_own rfl) rfl (Nat.le_of_eq rfl) (rcs_int (fun _ _=>rfl) rcs_nil) (entl_new (use_own rfl) rfl (Nat.le_of_eq rfl) (rcs_int (fun _ _=>rfl) rcs_nil) (entl_bor (use_lo rfl) rfl rfl (entl_bor (use_lo rfl) rfl rfl entl_nil)))))) (fun c1 h=>no_some h)) (fun c0 h=>bif_split h (fun c1 h=>ret_at hR _ h (fun n=>bif Nat.beq n 3 then 6 else n) rfl rfl rfl (rn_tup ⟨(rn_agg ⟨(rn_bool rfl),(rn_own (use_own rfl) rfl rfl),trivial⟩),(rn_int rfl),trivial⟩) rfl (entl_new (use_own rfl) rfl (Nat.le_of_eq rfl) (rcs_int (fun _ _=>rfl) rcs_nil) (entl_bor (use_lo rfl) rfl rfl (entl_bor (use_lo rfl) rfl rfl entl_nil)))) (fun c1 h=>no_some h))
theorem a35 (n1:Bool) (ap np mp:Nat) (tp:NI) (n2:Bool) (aq nq mq:Nat) (tq:NI) {r:Rt35} (h:Goes ((q35 n1 ap np mp tp n2 aq nq mq tq)) ((p35 n1 ap np mp tp n2 aq nq mq tq)) r):CallR Tryz.prog 61 [.agg [.bool n1,.loose ⟨0,1,ap,0⟩ np],.agg [.bool n2,.loose ⟨1,1,aq,0⟩ nq]] [[(0,(false,.cols mp [.int .i64 tp])),(1,(false,.cols mq [.int .i64 tq]))]] 2 ((V35 n1 ap np mp tp n2 aq nq mq tq) r) ((J35 n1 ap np mp tp n2 aq nq mq tq) r) 400∧ ∃ F,Tryz.prog.funcs[61]? =some F∧F.body.isSome=true∧(F.name== "runtime.NumGoroutine")=false:=by
  refine dec_calls (f:=61) (lo:=2) (hi:=400) Tryz.envOk Tryz.mixed xG7_ok ((I35 n1 ap np mp tp n2 aq nq mq tq)) ((V35 n1 ap np mp tp n2 aq nq mq tq)) (J35 n1 ap np mp tp n2 aq nq mq tq) (fn:=mkFn Tryz.f61) (ts:= [4,6,7]) (n:=400) rfl (by decide) (by simp) (names_of rfl) ?_ ?_ ?_ h
  · intro s; cases s<;>exact ⟨hd_ok _ _,by simp [I35],names_of rfl,Nat.le_of_ble_eq_true rfl⟩
  · intro Kst Kret x hS hR h
    exact Holds.eq (te35 cond Kst Kret n1 ap np mp tp n2 aq nq mq tq) (be35 n1 ap np mp tp n2 aq nq mq tq Kst Kret x hS hR h)
  · intro Kst Kret x hS hR s h
    cases s with
    |h0=>exact Holds.eq (t35_0 cond Kst Kret n1 ap np mp tp n2 aq nq mq tq) (b35_0 n1 ap np mp tp n2 aq nq mq tq Kst Kret x hS hR h)
    |h1 x0=>exact Holds.eq (t35_1 cond Kst Kret n1 ap np mp tp n2 aq nq mq tq x0) (b35_1 n1 ap np mp tp n2 aq nq mq tq Kst Kret x hS hR x0 h)
    |h2 x0 x1 x2 x3=>exact Holds.eq (t35_2 cond Kst Kret n1 ap np mp tp n2 aq nq mq tq x0 x1 x2 x3) (b35_2 n1 ap np mp tp n2 aq nq mq tq Kst Kret x hS hR x0 x1 x2 x3 h)
noncomputable abbrev w35 {α:Type} (g:Bool→Nat→Nat→Nat→(Nat→Int)→Bool→Nat→Nat→Nat→(Nat→Int)→α) (x:(Bool×(Nat×Nat×Nat×(Nat→Int)×Unit)×Unit)×(Bool×(Nat×Nat×Nat×(Nat→Int)×Unit)×Unit)×Unit):α:=g x.1.1 x.1.2.1.1 x.1.2.1.2.1 x.1.2.1.2.2.1 x.1.2.1.2.2.2.1 x.2.1.1 x.2.1.2.1.1 x.2.1.2.1.2.1 x.2.1.2.1.2.2.1 x.2.1.2.1.2.2.2.1
noncomputable def k35:Con:=⟨61,[.agg [.plain (.bool),.list [.int .i64]],.agg [.plain (.bool),.list [.int .i64]]],w35 (fun n1 ap np mp tp n2 aq nq mq tq=>decide ((ap+np≤mp∧np≤1000000)∧aq+nq≤mq∧nq≤1000000)),w35 (fun n1 ap np mp tp n2 aq nq mq tq=>(V35 n1 ap np mp tp n2 aq nq mq tq) (S.gcdS n1 np (fun j=>tp (j+ap)) n2 nq (fun j=>tq (j+aq)))),w35 (fun n1 ap np mp tp n2 aq nq mq tq=>(N35 n1 ap np mp tp n2 aq nq mq tq) (S.gcdS n1 np (fun j=>tp (j+ap)) n2 nq (fun j=>tq (j+aq)))),fun _ _=> .dead⟩
theorem s35' (n1:Bool) (ap np mp:Nat) (tp:Nat→Int) (n2:Bool) (aq nq mq:Nat) (tq:Nat→Int): ∀ (k:Nat) (A B:Int),B.toNat<k→(0≤A∧A<S.pw 80)→(0≤B∧B<S.pw 80)→Comes (q35 n1 ap np mp tp n2 aq nq mq tq) (.h2 (S.grp A).length (S.grp B).length (S.grp A) (S.grp B)) (false,0,S.grp (S.gcdV A B)):=by
  intro k
  induction k with
  |zero=>intro A B h; omega
  | succ k ih=>
    intro A B h hA hB
    have lA:=grp_le hA.2
    have lB:=grp_le hB.2
    have vA:=val_grpL hA.1
    have vB:=val_grpL hB.1
    have oA:(S.okG (S.grp A).length (fun j=>S.at' (S.grp A) j))=true:=grp_ok
    have oB:(S.okG (S.grp B).length (fun j=>S.at' (S.grp B) j))=true:=grp_ok
    apply Comes.of
    rw [q35]
    by_cases h0:B=0
    · rw [h0,gcdV_zero hA.1]
      with_reducible refine goes_no ?_ ?_
      · apply decide_eq_false; rw [grp_neg (by omega)]; decide
      with_reducible refine goes_ok ?_ ?_
      · exact decide_eq_true ⟨by omega,by omega,okG_D oA⟩
      rw [vA]
      exact goes_inr.mpr rfl
    · have hp:=len_pos (v:=B) (by omega)
      have m0:=Int.emod_nonneg A h0
      have m1:=Int.emod_lt_of_pos A (show 0<B by omega)
      have hm:=ih B (A % B) (by omega) hB ⟨m0,by omega⟩
      rw [gcdV_mod] at hm
      with_reducible refine goes_ok ?_ ?_
      · apply decide_eq_true; omega
      with_reducible refine goes_ok ?_ ?_
      · exact decide_eq_true ⟨⟨by omega,by omega⟩,⟨by omega,by omega⟩,oA,oB,hp⟩
      rw [vA,vB]
      exact hm
theorem s35 (n1:Bool) (ap np mp:Nat) (tp:Nat→Int) (n2:Bool) (aq nq mq:Nat) (tq:Nat→Int) (hp:(ap+np≤mp∧np≤1000000)∧aq+nq≤mq∧nq≤1000000):Goes ((q35 n1 ap np mp tp n2 aq nq mq tq)) ((p35 n1 ap np mp tp n2 aq nq mq tq)) (S.gcdS n1 np (fun j=>tp (j+ap)) n2 nq (fun j=>tq (j+aq))):=by
  obtain ⟨⟨hp1,hp2⟩,hp3,hp4⟩:=hp
  by_cases g1:S.okI n1 np (fun j=>tp (j+ap))=true
  · by_cases g2:S.okI n2 nq (fun j=>tq (j+aq))=true
    · obtain ⟨l1,k1⟩:=okI_G g1
      obtain ⟨l2,k2⟩:=okI_G g2
      have hr:S.gcdS n1 np (fun j=>tp (j+ap)) n2 nq (fun j=>tq (j+aq))=(false,0,S.grp (S.gcdV (S.val np (fun j=>tp (j+ap))) (S.val nq (fun j=>tq (j+aq))))):=by unfold S.gcdS; rw [if_pos ⟨g1,g2⟩]
      rw [hr]
      have v1:=val_nn (okG_D k1)
      have v2:=val_nn (okG_D k2)
      have w1:=val_lt (okG_D k1) l1
      have w2:=val_lt (okG_D k2) l2
      have h0:Goes (q35 n1 ap np mp tp n2 aq nq mq tq) ((q35 n1 ap np mp tp n2 aq nq mq tq) .h0) (false,0,S.grp (S.gcdV (S.val np (fun j=>tp (j+ap))) (S.val nq (fun j=>tq (j+aq))))):=by
        rw [q35]
        by_cases hn:nq=0
        · have e:(S.val nq (fun j=>tq (j+aq)))=0:=by subst hn; rfl
          rw [e,gcdV_zero v1]
          with_reducible refine goes_no ?_ ?_
          · apply decide_eq_false; omega
          with_reducible refine goes_ok ?_ ?_
          · exact decide_eq_true ⟨hp1,hp2,okG_D k1⟩
          exact goes_inr.mpr rfl
        · have vp:=val_pos k2 (by omega)
          with_reducible refine goes_ok ?_ ?_
          · apply decide_eq_true; omega
          with_reducible refine goes_ok ?_ ?_
          · exact decide_eq_true ⟨⟨hp1,hp3⟩,⟨by omega,by omega⟩,k1,k2,by omega⟩
          have m0:=Int.emod_nonneg (S.val np (fun j=>tp (j+ap))) (show (S.val nq (fun j=>tq (j+aq)))≠0 by omega)
          have m1:=Int.emod_lt_of_pos (S.val np (fun j=>tp (j+ap))) vp
          rw [← gcdV_mod]
          generalize hR:(S.val np (fun j=>tp (j+ap))) % (S.val nq (fun j=>tq (j+aq)))=R at*
          show Comes (q35 n1 ap np mp tp n2 aq nq mq tq) (.h1 (S.grp R)) _
          apply Comes.of
          rw [q35,hR]
          have lR:=grp_le (v:=R) (n:=80) (by omega)
          have oR:(S.okG (S.grp R).length (fun j=>S.at' (S.grp R) j))=true:=grp_ok
          have vR:=val_grpL m0
          by_cases hz:R=0
          · rw [hz,gcdV_zero v2]
            with_reducible refine goes_no ?_ ?_
            · apply decide_eq_false; rw [grp_neg (by omega)]; decide
            with_reducible refine goes_ok ?_ ?_
            · exact decide_eq_true ⟨hp3,hp4,okG_D k2⟩
            exact goes_inr.mpr rfl
          · have hp:=len_pos (v:=R) (by omega)
            have m2:=Int.emod_nonneg (S.val nq (fun j=>tq (j+aq))) hz
            have m3:=Int.emod_lt_of_pos (S.val nq (fun j=>tq (j+aq))) (show 0<R by omega)
            have hm:=s35' n1 ap np mp tp n2 aq nq mq tq (((S.val nq (fun j=>tq (j+aq))) % R).toNat+1) R ((S.val nq (fun j=>tq (j+aq))) % R) (by omega) ⟨m0,by omega⟩ ⟨m2,by omega⟩
            rw [gcdV_mod] at hm
            with_reducible refine goes_ok ?_ ?_
            · apply decide_eq_true; omega
            with_reducible refine goes_ok ?_ ?_
            · exact decide_eq_true ⟨⟨hp3,by omega⟩,⟨by omega,by omega⟩,k2,oR,hp⟩
            rw [vR]
            exact hm
      unfold p35
      with_reducible refine goes_ok (decide_eq_true ⟨hp1,hp2⟩) ?_
      with_reducible refine goes_ok g1 ?_
      with_reducible refine goes_ok (decide_eq_true ⟨hp3,hp4⟩) ?_
      with_reducible refine goes_ok g2 ?_
      exact Comes.of h0
    · have hr:S.gcdS n1 np (fun j=>tp (j+ap)) n2 nq (fun j=>tq (j+aq))=(false,1,[]):=by unfold S.gcdS; rw [if_neg fun h=>g2 h.2]
      rw [hr]
      unfold p35
      with_reducible refine goes_ok (decide_eq_true ⟨hp1,hp2⟩) ?_
      with_reducible refine goes_ok g1 ?_
      with_reducible refine goes_ok (decide_eq_true ⟨hp3,hp4⟩) ?_
      with_reducible refine goes_no (Bool.not_eq_true _ ▸ g2) ?_
      exact goes_inr.mpr rfl
  · have hr:S.gcdS n1 np (fun j=>tp (j+ap)) n2 nq (fun j=>tq (j+aq))=(false,1,[]):=by unfold S.gcdS; rw [if_neg fun h=>g1 h.1]
    rw [hr]
    unfold p35
    with_reducible refine goes_ok (decide_eq_true ⟨hp1,hp2⟩) ?_
    with_reducible refine goes_no (Bool.not_eq_true _ ▸ g1) ?_
    exact goes_inr.mpr rfl
theorem k35_ok:k35.ok Tryz.prog:=by
  intro x hx
  obtain ⟨⟨n1,⟨ap,np,mp,tp,_⟩,_⟩,⟨n2,⟨aq,nq,mq,tq,_⟩,_⟩,_⟩:=x
  obtain ⟨h1,h2⟩:=a35 n1 ap np mp tp n2 aq nq mq tq (s35 n1 ap np mp tp n2 aq nq mq tq (of_dec hx rfl))
  exact ⟨⟨400,(by decide:2+1+1≤400),h1⟩,h2⟩
abbrev St34:=Empty
abbrev Rt34:=Int×List Int
noncomputable def V34 (n1:Bool) (ap np mp:Nat) (tp:NI) (n2:Bool) (aq nq mq:Nat) (tq:NI) (r:Rt34):PV:=PV.tup [PV.agg [PV.tf false,PV.own (3) (1) (List.length r.2)],PV.int .i64 r.1]
noncomputable def N34 (n1:Bool) (ap np mp:Nat) (tp:NI) (n2:Bool) (aq nq mq:Nat) (tq:NI) (r:Rt34):List Blk:= [Blk.cols (List.length r.2) [Col.int .i64 fun j=>S.at' r.2 j]]
noncomputable def I34 (n1:Bool) (ap np mp:Nat) (tp:NI) (n2:Bool) (aq nq mq:Nat) (tq:NI):St34→Hd:=fun s=>s.elim
noncomputable def q34 (n1:Bool) (ap np mp:Nat) (tp:NI) (n2:Bool) (aq nq mq:Nat) (tq:NI):St34→Option (St34⊕Rt34):=fun s=>s.elim
noncomputable def p34 (n1:Bool) (ap np mp:Nat) (tp:NI) (n2:Bool) (aq nq mq:Nat) (tq:NI):Option (St34⊕Rt34):=bif (decide (ap+np≤mp∧np≤1000000)) then (bif (S.okI n1 np fun j=>tp (j+ap)) then (bif (decide (aq+nq≤mq∧nq≤1000000)) then (bif (S.okI n2 nq fun j=>tq (j+aq)) then (bif (decide ((ap+np≤mp∧aq+nq≤mq)∧(np≤800∧nq≤800)∧(S.okG np fun j=>tp (j+ap))=true∧(S.okG nq fun j=>tq (j+aq))=true)) then (bif ((↑(List.length (S.grp (S.gcdV (S.val np fun j=>tp (j+ap)) (S.val nq fun j=>tq (j+aq))))):Int)==0) then (some (.inr ((0:Int),[]))) else (some (.inr ((0:Int),S.grp (S.gcdV (S.val np fun j=>tp (j+ap)) (S.val nq fun j=>tq (j+aq))))))) else (none)) else (some (.inr ((1:Int),[])))) else (none)) else (some (.inr ((1:Int),[])))) else (none)
noncomputable def Te34 (test:TT) (Kst:KS) (Kret:KR) (n1:Bool) (ap np mp:Nat) (tp:NI) (n2:Bool) (aq nq mq:Nat) (tq:NI):Prop:=test (decide (ap+np≤mp∧np≤1000000)) (test (S.okI n1 np fun j=>tp (j+ap)) (test (decide (aq+nq≤mq∧nq≤1000000)) (test (S.okI n2 nq fun j=>tq (j+aq)) (test (decide ((ap+np≤mp∧aq+nq≤mq)∧(np≤800∧nq≤800)∧(S.okG np fun j=>tp (j+ap))=true∧(S.okG nq fun j=>tq (j+aq))=true)) (test ((↑(List.length (S.grp (S.gcdV (S.val np fun j=>tp (j+ap)) (S.val nq fun j=>tq (j+aq))))):Int)==0) (Kret (PV.tup [PV.agg [PV.tf false,PV.nils],PV.int .i64 (0:Int)]) ([[(1,false,Blk.cols mq [Col.int .i64 tq]),(0,false,Blk.cols mp [Col.int .i64 tp])]]) (10)) (Kret (PV.tup [PV.agg [PV.tf false,PV.own (8) (1) (List.length (S.grp (S.gcdV (S.val np fun j=>tp (j+ap)) (S.val nq fun j=>tq (j+aq)))))],PV.int .i64 (0:Int)]) ([[(1,false,Blk.cols mq [Col.int .i64 tq]),(0,false,Blk.cols mp [Col.int .i64 tp]),(8,true,Blk.cols (List.length (S.grp (S.gcdV (S.val np fun j=>tp (j+ap)) (S.val nq fun j=>tq (j+aq))))) [Col.int .i64 fun j=>S.at' (S.grp (S.gcdV (S.val np fun j=>tp (j+ap)) (S.val nq fun j=>tq (j+aq)))) j])]]) (10))) (False)) (Kret (PV.tup [PV.agg [PV.tf false,PV.nils],PV.int .i64 (1:Int)]) ([[(1,false,Blk.cols mq [Col.int .i64 tq]),(0,false,Blk.cols mp [Col.int .i64 tp])]]) (7))) (False)) (Kret (PV.tup [PV.agg [PV.tf false,PV.nils],PV.int .i64 (1:Int)]) ([[(1,false,Blk.cols mq [Col.int .i64 tq]),(0,false,Blk.cols mp [Col.int .i64 tp])]]) (6))) (False)
theorem te34 (test:TT) (Kst:KS) (Kret:KR) (n1:Bool) (ap np mp:Nat) (tp:NI) (n2:Bool) (aq nq mq:Nat) (tq:NI):run test Tryz.env true (xG6 test) true 400 ⟨99,[.cd (mkFn Tryz.f99).body],argT 0 [.agg [.bool n1,.loose ⟨0,1,ap,0⟩ np],.agg [.bool n2,.loose ⟨1,1,aq,0⟩ nq]],[[],[(0,(false,.cols mp [.int .i64 tp])),(1,(false,.cols mq [.int .i64 tq]))]],2⟩ (proj 2 [] Kst Kret)=
  Te34 test Kst Kret n1 ap np mp tp n2 aq nq mq tq:=by kernel_rfl
noncomputable abbrev J34 (n1:Bool) (ap np mp:Nat) (tp:NI) (n2:Bool) (aq nq mq:Nat) (tq:NI):Rt34→Heap:=fun r=> [newL (2+1) ((N34 n1 ap np mp tp n2 aq nq mq tq) r)++ [(0,(false,.cols mp [.int .i64 tp])),(1,(false,.cols mq [.int .i64 tq]))]]
attribute [local irreducible] Int.subNatNat in
theorem be34 (n1:Bool) (ap np mp:Nat) (tp:NI) (n2:Bool) (aq nq mq:Nat) (tq:NI) (Kst:KS) (Kret:KR) (x:St34⊕Rt34) (hS:HS 2 400 ((I34 n1 ap np mp tp n2 aq nq mq tq)) Kst x) (hR:HR 2 400 ((V34 n1 ap np mp tp n2 aq nq mq tq)) (J34 n1 ap np mp tp n2 aq nq mq tq) Kret x) (h:p34 n1 ap np mp tp n2 aq nq mq tq=some x):Te34 cond Kst Kret n1 ap np mp tp n2 aq nq mq tq:=by
  unfold Te34
  unfold p34 at h
  refine bif_split h (fun c0 h=>bif_split h (fun c1 h=>bif_split h (fun c2 h=>bif_split h (fun c3 h=>bif_split h (fun c4 h=>bif_split h (fun c5 h=> ?_) (fun c5 h=>ret_at hR _ h (fun n=>bif Nat.beq n 3 then 8 else n) rfl rfl rfl (rn_tup ⟨(rn_agg ⟨(rn_tf rfl),(rn_own (use_own rfl) rfl rfl),trivial⟩),(rn_int rfl),trivial⟩) rfl (entl_new (use_own rfl) rfl (Nat.le_of_eq rfl) (rcs_int (fun _ _=>rfl) rcs_nil) (entl_bor (use_lo rfl) rfl rfl (entl_bor (use_lo rfl) rfl rfl entl_nil))))) (fun c4 h=> ?_)) (fun c3 h=> ?_)) (fun c2 h=> ?_)) (fun c1 h=> ?_)) (fun c0 h=> ?_)
  all_goals first
    |exact ret_at hR _ h (fun n=>bif Nat.beq n 3 then 399 else n) rfl rfl rfl (rn_tup ⟨(rn_agg ⟨(rn_tf rfl),(rn_own_nils rfl),trivial⟩),(rn_int rfl),trivial⟩) rfl (entl_fresh (use_own rfl) (fresh_ok rfl) (entl_bor (use_lo rfl) rfl rfl (entl_bor (use_lo rfl) rfl rfl entl_nil)))
    |exact no_some h
theorem a34 (n1:Bool) (ap np mp:Nat) (tp:NI) (n2:Bool) (aq nq mq:Nat) (tq:NI) {r:Rt34} (h:Goes ((q34 n1 ap np mp tp n2 aq nq mq tq)) ((p34 n1 ap np mp tp n2 aq nq mq tq)) r):CallR Tryz.prog 99 [.agg [.bool n1,.loose ⟨0,1,ap,0⟩ np],.agg [.bool n2,.loose ⟨1,1,aq,0⟩ nq]] [[(0,(false,.cols mp [.int .i64 tp])),(1,(false,.cols mq [.int .i64 tq]))]] 2 ((V34 n1 ap np mp tp n2 aq nq mq tq) r) ((J34 n1 ap np mp tp n2 aq nq mq tq) r) 400∧ ∃ F,Tryz.prog.funcs[99]? =some F∧F.body.isSome=true∧(F.name== "runtime.NumGoroutine")=false:=by
  refine dec_calls (f:=99) (lo:=2) (hi:=400) Tryz.envOk Tryz.mixed xG6_ok ((I34 n1 ap np mp tp n2 aq nq mq tq)) ((V34 n1 ap np mp tp n2 aq nq mq tq)) (J34 n1 ap np mp tp n2 aq nq mq tq) (fn:=mkFn Tryz.f99) (ts:= []) (n:=400) rfl (by decide) (by simp) (names_of rfl) ?_ ?_ ?_ h
  · intro s; exact s.elim
  · intro Kst Kret x hS hR h
    exact Holds.eq (te34 cond Kst Kret n1 ap np mp tp n2 aq nq mq tq) (be34 n1 ap np mp tp n2 aq nq mq tq Kst Kret x hS hR h)
  · intro Kst Kret x hS hR s h; exact s.elim
noncomputable abbrev w34 {α:Type} (g:Bool→Nat→Nat→Nat→(Nat→Int)→Bool→Nat→Nat→Nat→(Nat→Int)→α) (x:(Bool×(Nat×Nat×Nat×(Nat→Int)×Unit)×Unit)×(Bool×(Nat×Nat×Nat×(Nat→Int)×Unit)×Unit)×Unit):α:=g x.1.1 x.1.2.1.1 x.1.2.1.2.1 x.1.2.1.2.2.1 x.1.2.1.2.2.2.1 x.2.1.1 x.2.1.2.1.1 x.2.1.2.1.2.1 x.2.1.2.1.2.2.1 x.2.1.2.1.2.2.2.1
noncomputable def k34:Con:=⟨99,[.agg [.plain (.bool),.list [.int .i64]],.agg [.plain (.bool),.list [.int .i64]]],w34 (fun n1 ap np mp tp n2 aq nq mq tq=>decide ((ap+np≤mp∧np≤1000000)∧aq+nq≤mq∧nq≤1000000)),w34 (fun n1 ap np mp tp n2 aq nq mq tq=>(V34 n1 ap np mp tp n2 aq nq mq tq) (((S.gcdS n1 np (fun j=>tp (j+ap)) n2 nq (fun j=>tq (j+aq))).2.1,(S.gcdS n1 np (fun j=>tp (j+ap)) n2 nq (fun j=>tq (j+aq))).2.2))),w34 (fun n1 ap np mp tp n2 aq nq mq tq=>(N34 n1 ap np mp tp n2 aq nq mq tq) (((S.gcdS n1 np (fun j=>tp (j+ap)) n2 nq (fun j=>tq (j+aq))).2.1,(S.gcdS n1 np (fun j=>tp (j+ap)) n2 nq (fun j=>tq (j+aq))).2.2))),fun _ _=> .dead⟩
theorem s34 (n1:Bool) (ap np mp:Nat) (tp:Nat→Int) (n2:Bool) (aq nq mq:Nat) (tq:Nat→Int) (hp:(ap+np≤mp∧np≤1000000)∧aq+nq≤mq∧nq≤1000000):Goes ((q34 n1 ap np mp tp n2 aq nq mq tq)) ((p34 n1 ap np mp tp n2 aq nq mq tq)) (((S.gcdS n1 np (fun j=>tp (j+ap)) n2 nq (fun j=>tq (j+aq))).2.1,(S.gcdS n1 np (fun j=>tp (j+ap)) n2 nq (fun j=>tq (j+aq))).2.2)):=by
  obtain ⟨⟨hp1,hp2⟩,hp3,hp4⟩:=hp
  by_cases g1:S.okI n1 np (fun j=>tp (j+ap))=true
  · by_cases g2:S.okI n2 nq (fun j=>tq (j+aq))=true
    · obtain ⟨l1,k1⟩:=okI_G g1
      obtain ⟨l2,k2⟩:=okI_G g2
      have hr:S.gcdS n1 np (fun j=>tp (j+ap)) n2 nq (fun j=>tq (j+aq))=(false,0,S.grp (S.gcdV (S.val np (fun j=>tp (j+ap))) (S.val nq (fun j=>tq (j+aq))))):=by unfold S.gcdS; rw [if_pos ⟨g1,g2⟩]
      rw [hr]
      unfold p34
      with_reducible refine goes_ok (decide_eq_true ⟨hp1,hp2⟩) ?_
      with_reducible refine goes_ok g1 ?_
      with_reducible refine goes_ok (decide_eq_true ⟨hp3,hp4⟩) ?_
      with_reducible refine goes_ok g2 ?_
      with_reducible refine goes_ok ?_ ?_
      · exact decide_eq_true ⟨⟨hp1,hp3⟩,⟨by omega,by omega⟩,k1,k2⟩
      generalize S.grp (S.gcdV (S.val np (fun j=>tp (j+ap))) (S.val nq (fun j=>tq (j+aq))))=L
      by_cases h:L.length=0
      · rw [List.length_eq_zero_iff.mp h]
        with_reducible refine goes_ok ?_ ?_
        · decide
        exact goes_inr.mpr rfl
      · with_reducible refine goes_no ?_ ?_
        · rw [beq_eq_false_iff_ne]; omega
        exact goes_inr.mpr rfl
    · have hr:S.gcdS n1 np (fun j=>tp (j+ap)) n2 nq (fun j=>tq (j+aq))=(false,1,[]):=by unfold S.gcdS; rw [if_neg fun h=>g2 h.2]
      rw [hr]
      unfold p34
      with_reducible refine goes_ok (decide_eq_true ⟨hp1,hp2⟩) ?_
      with_reducible refine goes_ok g1 ?_
      with_reducible refine goes_ok (decide_eq_true ⟨hp3,hp4⟩) ?_
      with_reducible refine goes_no (Bool.not_eq_true _ ▸ g2) ?_
      exact goes_inr.mpr rfl
  · have hr:S.gcdS n1 np (fun j=>tp (j+ap)) n2 nq (fun j=>tq (j+aq))=(false,1,[]):=by unfold S.gcdS; rw [if_neg fun h=>g1 h.1]
    rw [hr]
    unfold p34
    with_reducible refine goes_ok (decide_eq_true ⟨hp1,hp2⟩) ?_
    with_reducible refine goes_no (Bool.not_eq_true _ ▸ g1) ?_
    exact goes_inr.mpr rfl
theorem k34_ok:k34.ok Tryz.prog:=by
  intro x hx
  obtain ⟨⟨n1,⟨ap,np,mp,tp,_⟩,_⟩,⟨n2,⟨aq,nq,mq,tq,_⟩,_⟩,_⟩:=x
  obtain ⟨h1,h2⟩:=a34 n1 ap np mp tp n2 aq nq mq tq (s34 n1 ap np mp tp n2 aq nq mq tq (of_dec hx rfl))
  exact ⟨⟨400,(by decide:2+1+1≤400),h1⟩,h2⟩
theorem cmpS_sv {n1 n2:Bool} {V W:Int} (hV:0≤V) (hW:0≤W) (h1:0<V∨n1=false) (h2:0<W∨n2=false):S.cmpS (S.sv n1 V) (S.sv n2 W)=bif n1 then (bif n2 then S.cmpS W V else-1) else (bif n2 then 1 else S.cmpS V W):=by
  unfold S.cmpS S.sv
  cases n1<;>cases n2<;>simp only [cond_true,cond_false,Bool.true_eq_false,or_false] at* <;>(repeat' split)<;>omega
abbrev St32:=Empty
abbrev Rt32:=Int
noncomputable def V32 (n1:Bool) (ap np mp:Nat) (tp:NI) (n2:Bool) (aq nq mq:Nat) (tq:NI) (r:Rt32):PV:=PV.int .i64 r
noncomputable def N32 (n1:Bool) (ap np mp:Nat) (tp:NI) (n2:Bool) (aq nq mq:Nat) (tq:NI) (r:Rt32):List Blk:= []
noncomputable def I32 (n1:Bool) (ap np mp:Nat) (tp:NI) (n2:Bool) (aq nq mq:Nat) (tq:NI):St32→Hd:=fun s=>s.elim
noncomputable def q32 (n1:Bool) (ap np mp:Nat) (tp:NI) (n2:Bool) (aq nq mq:Nat) (tq:NI):St32→Option (St32⊕Rt32):=fun s=>s.elim
noncomputable def p32 (n1:Bool) (ap np mp:Nat) (tp:NI) (n2:Bool) (aq nq mq:Nat) (tq:NI):Option (St32⊕Rt32):=bif (n1) then (bif (n2) then (bif (decide (aq+nq≤mq∧nq≤1000000∧ap+np≤mp∧np≤1000000∧(S.okG nq fun j=>tq (j+aq))=true∧(S.okG np fun j=>tp (j+ap))=true)) then (some (.inr (S.cmpS (S.val nq fun j=>tq (j+aq)) (S.val np fun j=>tp (j+ap))))) else (none)) else (some (.inr ((-1:Int))))) else (bif (n2) then (some (.inr ((1:Int)))) else (bif (decide (ap+np≤mp∧np≤1000000∧aq+nq≤mq∧nq≤1000000∧(S.okG np fun j=>tp (j+ap))=true∧(S.okG nq fun j=>tq (j+aq))=true)) then (some (.inr (S.cmpS (S.val np fun j=>tp (j+ap)) (S.val nq fun j=>tq (j+aq))))) else (none)))
noncomputable abbrev u32_e_0 (mp:Nat) (tp:NI) (mq:Nat) (tq:NI):=([[(1,false,Blk.cols mq [Col.int .i64 tq]),(0,false,Blk.cols mp [Col.int .i64 tp])]])
noncomputable abbrev u32_e_1 (ap:Nat) (np:Nat) (mp:Nat) (tp:NI) (aq:Nat) (nq:Nat) (mq:Nat) (tq:NI):=decide (aq+nq≤mq∧nq≤1000000∧ap+np≤mp∧np≤1000000∧(S.okG nq fun j=>tq (j+aq))=true∧(S.okG np fun j=>tp (j+ap))=true)
noncomputable abbrev u32_e_2 (ap:Nat) (np:Nat) (mp:Nat) (tp:NI) (aq:Nat) (nq:Nat) (mq:Nat) (tq:NI):=decide (ap+np≤mp∧np≤1000000∧aq+nq≤mq∧nq≤1000000∧(S.okG np fun j=>tp (j+ap))=true∧(S.okG nq fun j=>tq (j+aq))=true)
noncomputable def Te32 (test:TT) (Kst:KS) (Kret:KR) (n1:Bool) (ap np mp:Nat) (tp:NI) (n2:Bool) (aq nq mq:Nat) (tq:NI):Prop:=test (n1) (test (n2) (test (n2) (test (n1) (test (n1) (test (u32_e_1 ap np mp tp aq nq mq tq) (Kret (PV.int .i64 (S.cmpS (S.val nq fun j=>tq (j+aq)) (S.val np fun j=>tp (j+ap)))) (u32_e_0 mp tp mq tq) (5)) (False)) (test (u32_e_2 ap np mp tp aq nq mq tq) (Kret (PV.int .i64 (S.cmpS (S.val np fun j=>tp (j+ap)) (S.val nq fun j=>tq (j+aq)))) (u32_e_0 mp tp mq tq) (5)) (False))) (Kret (PV.int .i64 (1:Int)) (u32_e_0 mp tp mq tq) (4))) (test (n1) (test (u32_e_1 ap np mp tp aq nq mq tq) (Kret (PV.int .i64 (S.cmpS (S.val nq fun j=>tq (j+aq)) (S.val np fun j=>tp (j+ap)))) (u32_e_0 mp tp mq tq) (5)) (False)) (test (u32_e_2 ap np mp tp aq nq mq tq) (Kret (PV.int .i64 (S.cmpS (S.val np fun j=>tp (j+ap)) (S.val nq fun j=>tq (j+aq)))) (u32_e_0 mp tp mq tq) (5)) (False)))) (Kret (PV.int .i64 (-1:Int)) (u32_e_0 mp tp mq tq) (4))) (test (n2) (test (n1) (test (n1) (test (u32_e_1 ap np mp tp aq nq mq tq) (Kret (PV.int .i64 (S.cmpS (S.val nq fun j=>tq (j+aq)) (S.val np fun j=>tp (j+ap)))) (u32_e_0 mp tp mq tq) (5)) (False)) (test (u32_e_2 ap np mp tp aq nq mq tq) (Kret (PV.int .i64 (S.cmpS (S.val np fun j=>tp (j+ap)) (S.val nq fun j=>tq (j+aq)))) (u32_e_0 mp tp mq tq) (5)) (False))) (Kret (PV.int .i64 (1:Int)) (u32_e_0 mp tp mq tq) (4))) (test (n1) (test (u32_e_1 ap np mp tp aq nq mq tq) (Kret (PV.int .i64 (S.cmpS (S.val nq fun j=>tq (j+aq)) (S.val np fun j=>tp (j+ap)))) (u32_e_0 mp tp mq tq) (5)) (False)) (test (u32_e_2 ap np mp tp aq nq mq tq) (Kret (PV.int .i64 (S.cmpS (S.val np fun j=>tp (j+ap)) (S.val nq fun j=>tq (j+aq)))) (u32_e_0 mp tp mq tq) (5)) (False))))
theorem te32 (test:TT) (Kst:KS) (Kret:KR) (n1:Bool) (ap np mp:Nat) (tp:NI) (n2:Bool) (aq nq mq:Nat) (tq:NI):run test Tryz.env true (xG2 test) true 400 ⟨87,[.cd (mkFn Tryz.f87).body],argT 0 [.agg [.bool n1,.loose ⟨0,1,ap,0⟩ np],.agg [.bool n2,.loose ⟨1,1,aq,0⟩ nq]],[[],[(0,(false,.cols mp [.int .i64 tp])),(1,(false,.cols mq [.int .i64 tq]))]],2⟩ (proj 2 [] Kst Kret)=
  Te32 test Kst Kret n1 ap np mp tp n2 aq nq mq tq:=by kernel_rfl
noncomputable abbrev J32 (n1:Bool) (ap np mp:Nat) (tp:NI) (n2:Bool) (aq nq mq:Nat) (tq:NI):Rt32→Heap:=fun r=> [newL (2+1) ((N32 n1 ap np mp tp n2 aq nq mq tq) r)++ [(0,(false,.cols mp [.int .i64 tp])),(1,(false,.cols mq [.int .i64 tq]))]]
attribute [local irreducible] Int.subNatNat in
theorem be32 (n1:Bool) (ap np mp:Nat) (tp:NI) (n2:Bool) (aq nq mq:Nat) (tq:NI) (Kst:KS) (Kret:KR) (x:St32⊕Rt32) (hS:HS 2 400 ((I32 n1 ap np mp tp n2 aq nq mq tq)) Kst x) (hR:HR 2 400 ((V32 n1 ap np mp tp n2 aq nq mq tq)) (J32 n1 ap np mp tp n2 aq nq mq tq) Kret x) (h:p32 n1 ap np mp tp n2 aq nq mq tq=some x):Te32 cond Kst Kret n1 ap np mp tp n2 aq nq mq tq:=by
  unfold Te32
  unfold p32 at h
  exact bif_split h (fun c0 h=>bif_split h (fun c1 h=>cond_yes c1 (cond_yes c0 (cond_yes c0 (bif_split h (fun c2 h=>ret_at hR _ h (fun n=>n) rfl rfl rfl (rn_int rfl) rfl (entl_bor (use_lo rfl) rfl rfl (entl_bor (use_lo rfl) rfl rfl entl_nil))) (fun c2 h=>no_some h))))) (fun c1 h=>ret_at hR _ h (fun n=>n) rfl rfl rfl (rn_int rfl) rfl (entl_bor (use_lo rfl) rfl rfl (entl_bor (use_lo rfl) rfl rfl entl_nil)))) (fun c0 h=>bif_split h (fun c1 h=>cond_no c0 (ret_at hR _ h (fun n=>n) rfl rfl rfl (rn_int rfl) rfl (entl_bor (use_lo rfl) rfl rfl (entl_bor (use_lo rfl) rfl rfl entl_nil)))) (fun c1 h=>cond_no c0 (bif_split h (fun c2 h=>ret_at hR _ h (fun n=>n) rfl rfl rfl (rn_int rfl) rfl (entl_bor (use_lo rfl) rfl rfl (entl_bor (use_lo rfl) rfl rfl entl_nil))) (fun c2 h=>no_some h))))
theorem a32 (n1:Bool) (ap np mp:Nat) (tp:NI) (n2:Bool) (aq nq mq:Nat) (tq:NI) {r:Rt32} (h:Goes ((q32 n1 ap np mp tp n2 aq nq mq tq)) ((p32 n1 ap np mp tp n2 aq nq mq tq)) r):CallR Tryz.prog 87 [.agg [.bool n1,.loose ⟨0,1,ap,0⟩ np],.agg [.bool n2,.loose ⟨1,1,aq,0⟩ nq]] [[(0,(false,.cols mp [.int .i64 tp])),(1,(false,.cols mq [.int .i64 tq]))]] 2 ((V32 n1 ap np mp tp n2 aq nq mq tq) r) ((J32 n1 ap np mp tp n2 aq nq mq tq) r) 400∧ ∃ F,Tryz.prog.funcs[87]? =some F∧F.body.isSome=true∧(F.name== "runtime.NumGoroutine")=false:=by
  refine dec_calls (f:=87) (lo:=2) (hi:=400) Tryz.envOk Tryz.mixed xG2_ok ((I32 n1 ap np mp tp n2 aq nq mq tq)) ((V32 n1 ap np mp tp n2 aq nq mq tq)) (J32 n1 ap np mp tp n2 aq nq mq tq) (fn:=mkFn Tryz.f87) (ts:= []) (n:=400) rfl (by decide) (by simp) (names_of rfl) ?_ ?_ ?_ h
  · intro s; exact s.elim
  · intro Kst Kret x hS hR h
    exact Holds.eq (te32 cond Kst Kret n1 ap np mp tp n2 aq nq mq tq) (be32 n1 ap np mp tp n2 aq nq mq tq Kst Kret x hS hR h)
  · intro Kst Kret x hS hR s h; exact s.elim
noncomputable abbrev w32 {α:Type} (g:Bool→Nat→Nat→Nat→(Nat→Int)→Bool→Nat→Nat→Nat→(Nat→Int)→α) (x:(Bool×(Nat×Nat×Nat×(Nat→Int)×Unit)×Unit)×(Bool×(Nat×Nat×Nat×(Nat→Int)×Unit)×Unit)×Unit):α:=g x.1.1 x.1.2.1.1 x.1.2.1.2.1 x.1.2.1.2.2.1 x.1.2.1.2.2.2.1 x.2.1.1 x.2.1.2.1.1 x.2.1.2.1.2.1 x.2.1.2.1.2.2.1 x.2.1.2.1.2.2.2.1
noncomputable def k32:Con:=⟨87,[.agg [.plain (.bool),.list [.int .i64]],.agg [.plain (.bool),.list [.int .i64]]],w32 (fun n1 ap np mp tp n2 aq nq mq tq=>decide ((ap+np≤mp∧np≤1000000)∧aq+nq≤mq∧nq≤1000000∧S.okI n1 np (fun j=>tp (j+ap))=true∧S.okI n2 nq (fun j=>tq (j+aq))=true)),w32 (fun n1 ap np mp tp n2 aq nq mq tq=>(V32 n1 ap np mp tp n2 aq nq mq tq) (S.cmpI n1 np (fun j=>tp (j+ap)) n2 nq (fun j=>tq (j+aq)))),w32 (fun n1 ap np mp tp n2 aq nq mq tq=>(N32 n1 ap np mp tp n2 aq nq mq tq) (S.cmpI n1 np (fun j=>tp (j+ap)) n2 nq (fun j=>tq (j+aq)))),fun _ _=> .dead⟩
theorem s32 (n1:Bool) (ap np mp:Nat) (tp:Nat→Int) (n2:Bool) (aq nq mq:Nat) (tq:Nat→Int) (hp:(ap+np≤mp∧np≤1000000)∧aq+nq≤mq∧nq≤1000000∧S.okI n1 np (fun j=>tp (j+ap))=true∧S.okI n2 nq (fun j=>tq (j+aq))=true):Goes ((q32 n1 ap np mp tp n2 aq nq mq tq)) ((p32 n1 ap np mp tp n2 aq nq mq tq)) (S.cmpI n1 np (fun j=>tp (j+ap)) n2 nq (fun j=>tq (j+aq))):=by
  obtain ⟨⟨hp1,hp2⟩,hp3,hp4,g1,g2⟩:=hp
  have d1:ap+np≤mp∧np≤1000000:=⟨hp1,hp2⟩
  have d2:aq+nq≤mq∧nq≤1000000:=⟨hp3,hp4⟩
  unfold S.cmpI
  · · rw [if_pos ⟨g1,g2⟩]
      obtain ⟨l1,k1,z1⟩:=okI_iff.mp g1
      obtain ⟨l2,k2,z2⟩:=okI_iff.mp g2
      have v1:=val_nn (okG_D k1)
      have v2:=val_nn (okG_D k2)
      rw [cmpS_sv v1 v2 (by rcases z1 with h|h; exact .inl (val_pos k1 h); exact .inr h) (by rcases z2 with h|h; exact .inl (val_pos k2 h); exact .inr h)]
      have c1:aq+nq≤mq∧nq≤1000000∧ap+np≤mp∧np≤1000000∧S.okG nq (fun j=>tq (j+aq))=true∧S.okG np (fun j=>tp (j+ap))=true:=⟨hp3,hp4,hp1,hp2,k2,k1⟩
      have c2:ap+np≤mp∧np≤1000000∧aq+nq≤mq∧nq≤1000000∧S.okG np (fun j=>tp (j+ap))=true∧S.okG nq (fun j=>tq (j+aq))=true:=⟨hp1,hp2,hp3,hp4,k1,k2⟩
      unfold p32
      cases n1<;>cases n2<;>simp only [g1,g2,decide_eq_true d1,decide_eq_true d2,cond_true,cond_false,decide_eq_true c1,decide_eq_true c2]<;>exact goes_inr.mpr rfl
theorem k32_ok:k32.ok Tryz.prog:=by
  intro x hx
  obtain ⟨⟨n1,⟨ap,np,mp,tp,_⟩,_⟩,⟨n2,⟨aq,nq,mq,tq,_⟩,_⟩,_⟩:=x
  obtain ⟨h1,h2⟩:=a32 n1 ap np mp tp n2 aq nq mq tq (s32 n1 ap np mp tp n2 aq nq mq tq (of_dec hx rfl))
  exact ⟨⟨400,(by decide:2+1+0≤400),h1⟩,h2⟩
section
variable {n1 n2:Bool} {n m:Nat} {t u:Nat→Int}
theorem sv_lt {ng:Bool} (h:S.okI ng n t=true):((S.sv ng (S.val n t)).natAbs:Int)<S.pw n:=by
  have h1:=val_nn (okG_D (okI_G h).2)
  have h2:=val_lt (okG_D (okI_G h).2) (Nat.le_refl n)
  cases ng<;>simp only [S.sv,cond_true,cond_false]<;>omega
theorem sv_ne {ng:Bool} (h:S.okI ng n t=true) (hn:n≠0):S.sv ng (S.val n t)≠0:=by
  have h1:=val_pos (okI_G h).2 (by omega)
  cases ng<;>simp only [S.sv,cond_true,cond_false]<;>omega
theorem abs_div {v w:Int} (hw:w≠0):((v / w).natAbs:Int)≤v.natAbs∧0≤v % w∧v % w<(w.natAbs:Int):=by
  refine ⟨?_,Int.emod_nonneg _ hw,Int.emod_lt _ hw⟩
  have h:=Int.natAbs_ediv_le_natAbs v w
  omega
theorem divI_ok (g1:S.okI n1 n t=true) (g2:S.okI n2 m u=true) (hm:m≠0):S.divI n1 n t n2 m u=(decide (S.sv n1 (S.val n t) / S.sv n2 (S.val m u)<0),0,S.grp (S.sv n1 (S.val n t) % S.sv n2 (S.val m u)),S.grp ((S.sv n1 (S.val n t) / S.sv n2 (S.val m u)).natAbs:Int)):=by
  unfold S.divI
  rw [if_pos ⟨g1,g2⟩,if_neg hm]
  unfold S.divV
  rw [if_neg]
  have h1:=abs_div (v:=S.sv n1 (S.val n t)) (sv_ne g2 hm)
  have h2:=sv_lt g1
  have:=grp_le (v:=((S.sv n1 (S.val n t) / S.sv n2 (S.val m u)).natAbs:Int)) (n:=n) (by omega)
  have:=(okI_G g1).1
  omega
end
noncomputable def xR1 (test:Bool→Prop→Prop→Prop):Ext:=consX test [k32]
theorem xR1_ok:ExtOk Tryz.prog (xR1 cond):=consX_ok ⟨k32_ok,trivial⟩
inductive St556 where
  |h0 (x0:Int)
abbrev Rt556:=Bool
noncomputable def V556 (n1:Bool) (ap np mp:Nat) (tp:NI) (n2:Bool) (aq nq mq:Nat) (tq:NI) (r:Rt556):PV:=PV.bool r
noncomputable def N556 (n1:Bool) (ap np mp:Nat) (tp:NI) (n2:Bool) (aq nq mq:Nat) (tq:NI) (r:Rt556):List Blk:= []
noncomputable def I556 (n1:Bool) (ap np mp:Nat) (tp:NI) (n2:Bool) (aq nq mq:Nat) (tq:NI):St556→Hd
  | .h0 x0=>⟨hd Tryz.f56 0,[PV.ptr (PA.mk (2) (0) (0) (0)),
 PV.ptr (PA.mk (3) (0) (0) (0)),PV.int .i64 x0],[[(2,(true,Blk.cells [PV.bool n1,PV.loose (PA.mk (0) (1) ap (0)) np])),(3,(true,Blk.cells [PV.bool n2,PV.loose (PA.mk (1) (1) aq (0)) nq]))],[(0,(false,.cols mp [.int .i64 tp])),(1,(false,.cols mq [.int .i64 tq]))]],4⟩
noncomputable def q556 (n1:Bool) (ap np mp:Nat) (tp:NI) (n2:Bool) (aq nq mq:Nat) (tq:NI):St556→Option (St556⊕Rt556)| .h0 x0=>bif (decide (x0<(↑np:Int))) then (bif (decide ((0:Int)≤x0∧x0<(↑np:Int))) then (bif (decide (Int.toNat x0+ap<mp)) then (bif (decide ((0:Int)≤x0∧x0<(↑nq:Int))) then (bif (decide (Int.toNat x0+aq<mq)) then (bif (tp (Int.toNat x0+ap) != tq (Int.toNat x0+aq)) then (some (.inr (false))) else (bif (lim .i64 (x0+1)) then (some (.inl (.h0 (x0+1)))) else (none))) else (none)) else (none)) else (none)) else (none)) else (some (.inr (true)))
noncomputable def p556 (n1:Bool) (ap np mp:Nat) (tp:NI) (n2:Bool) (aq nq mq:Nat) (tq:NI):Option (St556⊕Rt556):=bif (n1) then (bif (n2) then (bif ((↑np:Int) != (↑nq:Int)) then (some (.inr (false))) else (some (.inl (.h0 ((0:Int)))))) else (some (.inr (false)))) else (bif (n2) then (some (.inr (false))) else (bif ((↑np:Int) != (↑nq:Int)) then (some (.inr (false))) else (some (.inl (.h0 ((0:Int)))))))
noncomputable abbrev u556_e_0 (mp:Nat) (tp:NI) (mq:Nat) (tq:NI):=([[(1,false,Blk.cols mq [Col.int .i64 tq]),(0,false,Blk.cols mp [Col.int .i64 tp])]])
noncomputable def Te556 (test:TT) (Kst:KS) (Kret:KR) (n1:Bool) (ap np mp:Nat) (tp:NI) (n2:Bool) (aq nq mq:Nat) (tq:NI):Prop:=test (n1) (test (n2) (test ((↑np:Int) != (↑nq:Int)) (Kret (PV.tf false) (u556_e_0 mp tp mq tq) (4)) (Kst (hd Tryz.f56 0) ([PV.ptr (PA.mk (2) (0) (0) (0)),PV.ptr (PA.mk (3) (0) (0) (0)),PV.int .i64 (0:Int)]) ([[(1,false,Blk.cols mq [Col.int .i64 tq]),(0,false,Blk.cols mp [Col.int .i64 tp]),(3,true,Blk.cells [PV.bool n2,PV.loose (PA.mk (1) (1) aq (0)) nq]),(2,true,Blk.cells [PV.bool n1,PV.loose (PA.mk (0) (1) ap (0)) np])]]) (4))) (Kret (PV.tf false) (u556_e_0 mp tp mq tq) (4))) (test (n2) (Kret (PV.tf false) (u556_e_0 mp tp mq tq) (4)) (test ((↑np:Int) != (↑nq:Int)) (Kret (PV.tf false) (u556_e_0 mp tp mq tq) (4)) (Kst (hd Tryz.f56 0) ([PV.ptr (PA.mk (2) (0) (0) (0)),PV.ptr (PA.mk (3) (0) (0) (0)),PV.int .i64 (0:Int)]) ([[(1,false,Blk.cols mq [Col.int .i64 tq]),(0,false,Blk.cols mp [Col.int .i64 tp]),(3,true,Blk.cells [PV.bool n2,PV.loose (PA.mk (1) (1) aq (0)) nq]),(2,true,Blk.cells [PV.bool n1,PV.loose (PA.mk (0) (1) ap (0)) np])]]) (4))))
theorem te556 (test:TT) (Kst:KS) (Kret:KR) (n1:Bool) (ap np mp:Nat) (tp:NI) (n2:Bool) (aq nq mq:Nat) (tq:NI):run test Tryz.env true noX true 400 ⟨56,[.cd (mkFn Tryz.f56).body],argT 0 [.agg [.bool n1,.loose ⟨0,1,ap,0⟩ np],.agg [.bool n2,.loose ⟨1,1,aq,0⟩ nq]],[[],[(0,(false,.cols mp [.int .i64 tp])),(1,(false,.cols mq [.int .i64 tq]))]],2⟩ (proj 2 [2,3,5] Kst Kret)=
  Te556 test Kst Kret n1 ap np mp tp n2 aq nq mq tq:=by kernel_rfl
noncomputable def T556_0 (test:TT) (Kst:KS) (Kret:KR) (n1:Bool) (ap np mp:Nat) (tp:NI) (n2:Bool) (aq nq mq:Nat) (tq:NI) (x0:Int):Prop:=test (decide (x0<(↑np:Int))) (test (decide ((0:Int)≤x0∧x0<(↑np:Int))) (test (decide (Int.toNat x0+ap<mp)) (test (decide ((0:Int)≤x0∧x0<(↑nq:Int))) (test (decide (Int.toNat x0+aq<mq)) (test (tp (Int.toNat x0+ap) != tq (Int.toNat x0+aq)) (Kret (PV.tf false) ([[(1,false,Blk.cols mq [Col.int .i64 tq]),(0,false,Blk.cols mp [Col.int .i64 tp])]]) (4)) (test (lim .i64 (x0+1)) (Kst (hd Tryz.f56 0) ([PV.ptr (PA.mk (2) (0) (0) (0)),PV.ptr (PA.mk (3) (0) (0) (0)),PV.int .i64 (x0+1)]) ([[(1,false,Blk.cols mq [Col.int .i64 tq]),(0,false,Blk.cols mp [Col.int .i64 tp]),(3,true,Blk.cells [PV.bool n2,PV.loose (PA.mk (1) (1) aq (0)) nq]),(2,true,Blk.cells [PV.bool n1,PV.loose (PA.mk (0) (1) ap (0)) np])]]) (4)) (False))) (False)) (False)) (False)) (False)) (Kret (PV.tf true) ([[(1,false,Blk.cols mq [Col.int .i64 tq]),(0,false,Blk.cols mp [Col.int .i64 tp])]]) (4))
theorem t556_0 (test:TT) (Kst:KS) (Kret:KR) (n1:Bool) (ap np mp:Nat) (tp:NI) (n2:Bool) (aq nq mq:Nat) (tq:NI) (x0:Int):run test Tryz.env true noX true 400 ⟨56,hd Tryz.f56 0,zipT [2,3,5] [PV.ptr (PA.mk (2) (0) (0) (0)),
 PV.ptr (PA.mk (3) (0) (0) (0)),PV.int .i64 x0],[[(2,(true,Blk.cells [PV.bool n1,PV.loose (PA.mk (0) (1) ap (0)) np])),(3,(true,Blk.cells [PV.bool n2,PV.loose (PA.mk (1) (1) aq (0)) nq]))],[(0,(false,.cols mp [.int .i64 tp])),(1,(false,.cols mq [.int .i64 tq]))]],4⟩ (proj 2 [2,3,5] Kst Kret)=
  T556_0 test Kst Kret n1 ap np mp tp n2 aq nq mq tq x0:=by kernel_rfl
noncomputable abbrev J556 (n1:Bool) (ap np mp:Nat) (tp:NI) (n2:Bool) (aq nq mq:Nat) (tq:NI):Rt556→Heap:=fun r=> [newL (2+1) ((N556 n1 ap np mp tp n2 aq nq mq tq) r)++ [(0,(false,.cols mp [.int .i64 tp])),(1,(false,.cols mq [.int .i64 tq]))]]
attribute [local irreducible] Int.subNatNat in
theorem be556 (n1:Bool) (ap np mp:Nat) (tp:NI) (n2:Bool) (aq nq mq:Nat) (tq:NI) (Kst:KS) (Kret:KR) (x:St556⊕Rt556) (hS:HS 2 400 ((I556 n1 ap np mp tp n2 aq nq mq tq)) Kst x) (hR:HR 2 400 ((V556 n1 ap np mp tp n2 aq nq mq tq)) (J556 n1 ap np mp tp n2 aq nq mq tq) Kret x) (h:p556 n1 ap np mp tp n2 aq nq mq tq=some x):Te556 cond Kst Kret n1 ap np mp tp n2 aq nq mq tq:=by
  unfold Te556
  unfold p556 at h
  refine bif_split h (fun c0 h=>bif_split h (fun c1 h=>bif_split h (fun c2 h=> ?_) (fun c2 h=> ?_)) (fun c1 h=> ?_)) (fun c0 h=>bif_split h (fun c1 h=> ?_) (fun c1 h=>bif_split h (fun c2 h=> ?_) (fun c2 h=> ?_)))
  all_goals first
    |exact ret_at hR _ h (fun n=>n) rfl rfl rfl (rn_bool_tf rfl) rfl (entl_bor (use_lo rfl) rfl rfl (entl_bor (use_lo rfl) rfl rfl entl_nil))
    |exact stop_at hS _ h (fun n=>bif Nat.beq n 2 then 2 else bif Nat.beq n 3 then 3 else n) rfl rfl rfl ⟨(rn_ptr (use_own rfl) rfl rfl),⟨(rn_ptr (use_own rfl) rfl rfl),⟨(rn_int rfl),trivial⟩⟩⟩ rfl (entl_b (use_own rfl) rfl (by simp) (rb_cells ⟨(rn_bool rfl),(rn_loose (use_lo rfl) rfl rfl rfl),trivial⟩) (entl_b (use_own rfl) rfl (by simp) (rb_cells ⟨(rn_bool rfl),(rn_loose (use_lo rfl) rfl rfl rfl),trivial⟩) (entl_bor (use_lo rfl) rfl rfl (entl_bor (use_lo rfl) rfl rfl entl_nil))))
attribute [local irreducible] Int.subNatNat in
theorem b556_0 (n1:Bool) (ap np mp:Nat) (tp:NI) (n2:Bool) (aq nq mq:Nat) (tq:NI) (Kst:KS) (Kret:KR) (x:St556⊕Rt556) (hS:HS 2 400 ((I556 n1 ap np mp tp n2 aq nq mq tq)) Kst x) (hR:HR 2 400 ((V556 n1 ap np mp tp n2 aq nq mq tq)) (J556 n1 ap np mp tp n2 aq nq mq tq) Kret x) (x0:Int) (h:q556 n1 ap np mp tp n2 aq nq mq tq (.h0 x0)=some x):T556_0 cond Kst Kret n1 ap np mp tp n2 aq nq mq tq x0:=by
  unfold T556_0
  rw [q556] at h
  exact bif_split h (fun c0 h=>bif_split h (fun c1 h=>bif_split h (fun c2 h=>bif_split h (fun c3 h=>bif_split h (fun c4 h=>bif_split h (fun c5 h=>ret_at hR _ h (fun n=>n) rfl rfl rfl (rn_bool_tf rfl) rfl (entl_bor (use_lo rfl) rfl rfl (entl_bor (use_lo rfl) rfl rfl entl_nil))) (fun c5 h=>bif_split h (fun c6 h=>stop_at hS _ h (fun n=>bif Nat.beq n 2 then 2 else bif Nat.beq n 3 then 3 else n) rfl rfl rfl ⟨(rn_ptr (use_own rfl) rfl rfl),⟨(rn_ptr (use_own rfl) rfl rfl),⟨(rn_int rfl),trivial⟩⟩⟩ rfl (entl_b (use_own rfl) rfl (by simp) (rb_cells ⟨(rn_bool rfl),(rn_loose (use_lo rfl) rfl rfl rfl),trivial⟩) (entl_b (use_own rfl) rfl (by simp) (rb_cells ⟨(rn_bool rfl),(rn_loose (use_lo rfl) rfl rfl rfl),trivial⟩) (entl_bor (use_lo rfl) rfl rfl (entl_bor (use_lo rfl) rfl rfl entl_nil))))) (fun c6 h=>no_some h))) (fun c4 h=>no_some h)) (fun c3 h=>no_some h)) (fun c2 h=>no_some h)) (fun c1 h=>no_some h)) (fun c0 h=>ret_at hR _ h (fun n=>n) rfl rfl rfl (rn_bool_tf rfl) rfl (entl_bor (use_lo rfl) rfl rfl (entl_bor (use_lo rfl) rfl rfl entl_nil)))
theorem a556 (n1:Bool) (ap np mp:Nat) (tp:NI) (n2:Bool) (aq nq mq:Nat) (tq:NI) {r:Rt556} (h:Goes ((q556 n1 ap np mp tp n2 aq nq mq tq)) ((p556 n1 ap np mp tp n2 aq nq mq tq)) r):CallR Tryz.prog 56 [.agg [.bool n1,.loose ⟨0,1,ap,0⟩ np],.agg [.bool n2,.loose ⟨1,1,aq,0⟩ nq]] [[(0,(false,.cols mp [.int .i64 tp])),(1,(false,.cols mq [.int .i64 tq]))]] 2 ((V556 n1 ap np mp tp n2 aq nq mq tq) r) ((J556 n1 ap np mp tp n2 aq nq mq tq) r) 400∧ ∃ F,Tryz.prog.funcs[56]? =some F∧F.body.isSome=true∧(F.name== "runtime.NumGoroutine")=false:=by
  refine dec_calls (f:=56) (lo:=2) (hi:=400) Tryz.envOk Tryz.mixed noX_ok ((I556 n1 ap np mp tp n2 aq nq mq tq)) ((V556 n1 ap np mp tp n2 aq nq mq tq)) (J556 n1 ap np mp tp n2 aq nq mq tq) (fn:=mkFn Tryz.f56) (ts:= [2,3,5]) (n:=400) rfl (by decide) (by simp) (names_of rfl) ?_ ?_ ?_ h
  · intro s; cases s<;>exact ⟨hd_ok _ _,by simp [I556],names_of rfl,Nat.le_of_ble_eq_true rfl⟩
  · intro Kst Kret x hS hR h
    exact Holds.eq (te556 cond Kst Kret n1 ap np mp tp n2 aq nq mq tq) (be556 n1 ap np mp tp n2 aq nq mq tq Kst Kret x hS hR h)
  · intro Kst Kret x hS hR s h
    cases s with
    |h0 x0=>exact Holds.eq (t556_0 cond Kst Kret n1 ap np mp tp n2 aq nq mq tq x0) (b556_0 n1 ap np mp tp n2 aq nq mq tq Kst Kret x hS hR x0 h)
noncomputable abbrev w556 {α:Type} (g:Bool→Nat→Nat→Nat→(Nat→Int)→Bool→Nat→Nat→Nat→(Nat→Int)→α) (x:(Bool×(Nat×Nat×Nat×(Nat→Int)×Unit)×Unit)×(Bool×(Nat×Nat×Nat×(Nat→Int)×Unit)×Unit)×Unit):α:=g x.1.1 x.1.2.1.1 x.1.2.1.2.1 x.1.2.1.2.2.1 x.1.2.1.2.2.2.1 x.2.1.1 x.2.1.2.1.1 x.2.1.2.1.2.1 x.2.1.2.1.2.2.1 x.2.1.2.1.2.2.2.1
noncomputable def k556:Con:=⟨56,[.agg [.plain (.bool),.list [.int .i64]],.agg [.plain (.bool),.list [.int .i64]]],w556 (fun n1 ap np mp tp n2 aq nq mq tq=>decide ((ap+np≤mp∧np≤1000000)∧aq+nq≤mq∧nq≤1000000)),w556 (fun n1 ap np mp tp n2 aq nq mq tq=>(V556 n1 ap np mp tp n2 aq nq mq tq) (S.samI n1 np (fun j=>tp (j+ap)) n2 nq (fun j=>tq (j+aq)))),w556 (fun n1 ap np mp tp n2 aq nq mq tq=>(N556 n1 ap np mp tp n2 aq nq mq tq) (S.samI n1 np (fun j=>tp (j+ap)) n2 nq (fun j=>tq (j+aq)))),fun _ _=> .dead⟩
theorem e556 (n1:Bool) (ap np mp:Nat) (tp:Nat→Int) (n2:Bool) (aq nq mq:Nat) (tq:Nat→Int) (h:np=nq):decide (S.mkl np (fun j=>tp (j+ap))=S.mkl nq (fun j=>tq (j+aq)))=true↔ ∀ j,j<np→tp (j+ap)=tq (j+aq):=by
  rw [decide_eq_true_eq,mkl_inj]
  simp only [h,true_and]
theorem s556' (n1:Bool) (ap np mp:Nat) (tp:Nat→Int) (n2:Bool) (aq nq mq:Nat) (tq:Nat→Int) (hp:(ap+np≤mp∧np≤1000000)∧aq+nq≤mq∧nq≤1000000) (he:np=nq): ∀ k i:Nat,i+k=np→(∀ j,j<i→tp (j+ap)=tq (j+aq))→Comes (q556 n1 ap np mp tp n2 aq nq mq tq) (.h0 (i:Int)) (decide (S.mkl np (fun j=>tp (j+ap))=S.mkl nq (fun j=>tq (j+aq)))):=by
  obtain ⟨⟨hp1,hp2⟩,hp3,hp4⟩:=hp
  have hq:=e556 n1 ap np mp tp n2 aq nq mq tq he
  generalize decide (S.mkl np (fun j=>tp (j+ap))=S.mkl nq (fun j=>tq (j+aq)))=R at hq ⊢
  intro k
  induction k with
  |zero=>
    intro i hi hj
    obtain rfl:np=i:=by omega
    apply Comes.of
    show Goes _ _ _
    (first|rw [q556]|unfold q556)
    repeat' (first|with_reducible refine goes_if (fun h=> ?_) (fun h=> ?_)<;>(try simp only [SH] at h)|exact goes_none.mpr (by omega))
    all_goals first|(exfalso; omega)|(exact goes_inr.mpr (hq.mpr hj).symm)
  | succ k ih=>
    intro i hi hj
    have hw: ∀ {P:Prop},(R=true→P)→ ¬ P→false=R:=fun h1 h2=>by cases R; rfl; exact absurd (h1 rfl) h2
    apply Comes.of
    show Goes _ _ _
    (first|rw [q556]|unfold q556)
    repeat' (first|with_reducible refine goes_if (fun h=> ?_) (fun h=> ?_)<;>(try simp only [SH] at h)|exact goes_none.mpr (by omega))
    all_goals first
      |(exfalso; omega)
      | (refine ih (i+1) (by omega) fun j hlt=> ?_
         rcases Nat.lt_or_eq_of_le (Nat.le_of_lt_succ hlt) with h1|h1
         · exact hj j h1
         · subst h1; simp_all)
      |(refine goes_inr.mpr (hw (fun e=>hq.mp e i (by omega)) fun e=> ?_); simp_all)
theorem samI_f {n1 n2:Bool} {n m:Nat} {t u:Nat→Int} (h:n1≠n2∨n≠m):S.samI n1 n t n2 m u=false:=by
  refine decide_eq_false fun x=> ?_
  rcases h with h|h
  · exact h x.1
  · exact h (mkl_inj.mp x.2).1
theorem samI_t {n1 n2:Bool} {n m:Nat} {t u:Nat→Int} (h:n1=n2):S.samI n1 n t n2 m u=decide (S.mkl n t=S.mkl m u):=by
  unfold S.samI
  rw [Bool.eq_iff_iff,decide_eq_true_eq,decide_eq_true_eq]
  exact ⟨fun x=>x.2,fun x=>⟨h,x⟩⟩
theorem s556 (n1:Bool) (ap np mp:Nat) (tp:Nat→Int) (n2:Bool) (aq nq mq:Nat) (tq:Nat→Int) (hp:(ap+np≤mp∧np≤1000000)∧aq+nq≤mq∧nq≤1000000):Goes ((q556 n1 ap np mp tp n2 aq nq mq tq)) ((p556 n1 ap np mp tp n2 aq nq mq tq)) (S.samI n1 np (fun j=>tp (j+ap)) n2 nq (fun j=>tq (j+aq))):=by
  by_cases hn:n1=n2
  · rw [samI_t hn]
    by_cases he:np=nq
    · have hm:=s556' n1 ap np mp tp n2 aq nq mq tq hp he np 0 (by omega) (fun j hj=>absurd hj (Nat.not_lt_zero j))
      subst hn
      cases n1 with
      |false=>
        show Goes _ _ _
        unfold p556
        repeat' (first|with_reducible refine goes_if (fun h=> ?_) (fun h=> ?_)<;>(try simp only [SH] at h)|exact goes_none.mpr (by omega))
        all_goals first|(exfalso; omega)|exact hm
      |true=>
        show Goes _ _ _
        unfold p556
        repeat' (first|with_reducible refine goes_if (fun h=> ?_) (fun h=> ?_)<;>(try simp only [SH] at h)|exact goes_none.mpr (by omega))
        all_goals first|(exfalso; omega)|exact hm
    · have hd:decide (S.mkl np (fun j=>tp (j+ap))=S.mkl nq (fun j=>tq (j+aq)))=false:=decide_eq_false (fun e=>he (mkl_inj.mp e).1)
      rw [hd]
      subst hn
      cases n1 with
      |false=>
        show Goes _ _ _
        unfold p556
        repeat' (first|with_reducible refine goes_if (fun h=> ?_) (fun h=> ?_)<;>(try simp only [SH] at h)|exact goes_none.mpr (by omega))
        all_goals first|(exfalso; omega)|exact goes_inr.mpr rfl
      |true=>
        show Goes _ _ _
        unfold p556
        repeat' (first|with_reducible refine goes_if (fun h=> ?_) (fun h=> ?_)<;>(try simp only [SH] at h)|exact goes_none.mpr (by omega))
        all_goals first|(exfalso; omega)|exact goes_inr.mpr rfl
  · rw [samI_f (.inl hn)]
    cases n1<;>cases n2<;>first|exact absurd rfl hn|(unfold p556; exact goes_inr.mpr rfl)
theorem k556_ok:k556.ok Tryz.prog:=by
  intro x hx
  obtain ⟨⟨n1,⟨ap,np,mp,tp,_⟩,_⟩,⟨n2,⟨aq,nq,mq,tq,_⟩,_⟩,_⟩:=x
  obtain ⟨h1,h2⟩:=a556 n1 ap np mp tp n2 aq nq mq tq (s556 n1 ap np mp tp n2 aq nq mq tq (of_dec hx rfl))
  exact ⟨⟨400,(by decide:2+1+0≤400),h1⟩,h2⟩
abbrev St541:=Empty
abbrev Rt541:=Bool
noncomputable def V541 (n1:Bool) (ap np mp:Nat) (tp:NI) (n2:Bool) (aq nq mq:Nat) (tq:NI) (r:Rt541):PV:=PV.bool r
noncomputable def N541 (n1:Bool) (ap np mp:Nat) (tp:NI) (n2:Bool) (aq nq mq:Nat) (tq:NI) (r:Rt541):List Blk:= []
noncomputable def I541 (n1:Bool) (ap np mp:Nat) (tp:NI) (n2:Bool) (aq nq mq:Nat) (tq:NI):St541→Hd:=fun s=>s.elim
noncomputable def q541 (n1:Bool) (ap np mp:Nat) (tp:NI) (n2:Bool) (aq nq mq:Nat) (tq:NI):St541→Option (St541⊕Rt541):=fun s=>s.elim
noncomputable def p541 (n1:Bool) (ap np mp:Nat) (tp:NI) (n2:Bool) (aq nq mq:Nat) (tq:NI):Option (St541⊕Rt541):=bif (decide ((ap+np≤mp∧np≤1000000)∧aq+nq≤mq∧nq≤1000000∧(S.okI n1 np fun j=>tp (j+ap))=true∧(S.okI n2 nq fun j=>tq (j+aq))=true)) then (bif ((S.cmpI n1 np (fun j=>tp (j+ap)) n2 nq fun j=>tq (j+aq))==0) then (some (.inr (true))) else (some (.inr (false)))) else (none)
noncomputable def Te541 (test:TT) (Kst:KS) (Kret:KR) (n1:Bool) (ap np mp:Nat) (tp:NI) (n2:Bool) (aq nq mq:Nat) (tq:NI):Prop:=test (decide ((ap+np≤mp∧np≤1000000)∧aq+nq≤mq∧nq≤1000000∧(S.okI n1 np fun j=>tp (j+ap))=true∧(S.okI n2 nq fun j=>tq (j+aq))=true)) (test ((S.cmpI n1 np (fun j=>tp (j+ap)) n2 nq fun j=>tq (j+aq))==0) (Kret (PV.tf true) ([[(1,false,Blk.cols mq [Col.int .i64 tq]),(0,false,Blk.cols mp [Col.int .i64 tp])]]) (5)) (Kret (PV.tf false) ([[(1,false,Blk.cols mq [Col.int .i64 tq]),(0,false,Blk.cols mp [Col.int .i64 tp])]]) (5))) (False)
theorem te541 (test:TT) (Kst:KS) (Kret:KR) (n1:Bool) (ap np mp:Nat) (tp:NI) (n2:Bool) (aq nq mq:Nat) (tq:NI):run test Tryz.env true (xR1 test) true 400 ⟨41,[.cd (mkFn Tryz.f41).body],argT 0 [.agg [.bool n1,.loose ⟨0,1,ap,0⟩ np],.agg [.bool n2,.loose ⟨1,1,aq,0⟩ nq]],[[],[(0,(false,.cols mp [.int .i64 tp])),(1,(false,.cols mq [.int .i64 tq]))]],2⟩ (proj 2 [] Kst Kret)=
  Te541 test Kst Kret n1 ap np mp tp n2 aq nq mq tq:=by kernel_rfl
noncomputable abbrev J541 (n1:Bool) (ap np mp:Nat) (tp:NI) (n2:Bool) (aq nq mq:Nat) (tq:NI):Rt541→Heap:=fun r=> [newL (2+1) ((N541 n1 ap np mp tp n2 aq nq mq tq) r)++ [(0,(false,.cols mp [.int .i64 tp])),(1,(false,.cols mq [.int .i64 tq]))]]
attribute [local irreducible] Int.subNatNat in
theorem be541 (n1:Bool) (ap np mp:Nat) (tp:NI) (n2:Bool) (aq nq mq:Nat) (tq:NI) (Kst:KS) (Kret:KR) (x:St541⊕Rt541) (hS:HS 2 400 ((I541 n1 ap np mp tp n2 aq nq mq tq)) Kst x) (hR:HR 2 400 ((V541 n1 ap np mp tp n2 aq nq mq tq)) (J541 n1 ap np mp tp n2 aq nq mq tq) Kret x) (h:p541 n1 ap np mp tp n2 aq nq mq tq=some x):Te541 cond Kst Kret n1 ap np mp tp n2 aq nq mq tq:=by
  unfold Te541
  unfold p541 at h
  exact bif_split h (fun c0 h=>bif_split h (fun c1 h=>ret_at hR _ h (fun n=>n) rfl rfl rfl (rn_bool_tf rfl) rfl (entl_bor (use_lo rfl) rfl rfl (entl_bor (use_lo rfl) rfl rfl entl_nil))) (fun c1 h=>ret_at hR _ h (fun n=>n) rfl rfl rfl (rn_bool_tf rfl) rfl (entl_bor (use_lo rfl) rfl rfl (entl_bor (use_lo rfl) rfl rfl entl_nil)))) (fun c0 h=>no_some h)
theorem a541 (n1:Bool) (ap np mp:Nat) (tp:NI) (n2:Bool) (aq nq mq:Nat) (tq:NI) {r:Rt541} (h:Goes ((q541 n1 ap np mp tp n2 aq nq mq tq)) ((p541 n1 ap np mp tp n2 aq nq mq tq)) r):CallR Tryz.prog 41 [.agg [.bool n1,.loose ⟨0,1,ap,0⟩ np],.agg [.bool n2,.loose ⟨1,1,aq,0⟩ nq]] [[(0,(false,.cols mp [.int .i64 tp])),(1,(false,.cols mq [.int .i64 tq]))]] 2 ((V541 n1 ap np mp tp n2 aq nq mq tq) r) ((J541 n1 ap np mp tp n2 aq nq mq tq) r) 400∧ ∃ F,Tryz.prog.funcs[41]? =some F∧F.body.isSome=true∧(F.name== "runtime.NumGoroutine")=false:=by
  refine dec_calls (f:=41) (lo:=2) (hi:=400) Tryz.envOk Tryz.mixed xR1_ok ((I541 n1 ap np mp tp n2 aq nq mq tq)) ((V541 n1 ap np mp tp n2 aq nq mq tq)) (J541 n1 ap np mp tp n2 aq nq mq tq) (fn:=mkFn Tryz.f41) (ts:= []) (n:=400) rfl (by decide) (by simp) (names_of rfl) ?_ ?_ ?_ h
  · intro s; exact s.elim
  · intro Kst Kret x hS hR h
    exact Holds.eq (te541 cond Kst Kret n1 ap np mp tp n2 aq nq mq tq) (be541 n1 ap np mp tp n2 aq nq mq tq Kst Kret x hS hR h)
  · intro Kst Kret x hS hR s h; exact s.elim
noncomputable abbrev w541 {α:Type} (g:Bool→Nat→Nat→Nat→(Nat→Int)→Bool→Nat→Nat→Nat→(Nat→Int)→α) (x:(Bool×(Nat×Nat×Nat×(Nat→Int)×Unit)×Unit)×(Bool×(Nat×Nat×Nat×(Nat→Int)×Unit)×Unit)×Unit):α:=g x.1.1 x.1.2.1.1 x.1.2.1.2.1 x.1.2.1.2.2.1 x.1.2.1.2.2.2.1 x.2.1.1 x.2.1.2.1.1 x.2.1.2.1.2.1 x.2.1.2.1.2.2.1 x.2.1.2.1.2.2.2.1
noncomputable def k541:Con:=⟨41,[.agg [.plain (.bool),.list [.int .i64]],.agg [.plain (.bool),.list [.int .i64]]],w541 (fun n1 ap np mp tp n2 aq nq mq tq=>decide ((ap+np≤mp∧np≤1000000)∧aq+nq≤mq∧nq≤1000000∧S.okI n1 np (fun j=>tp (j+ap))=true∧S.okI n2 nq (fun j=>tq (j+aq))=true)),w541 (fun n1 ap np mp tp n2 aq nq mq tq=>(V541 n1 ap np mp tp n2 aq nq mq tq) (decide (S.cmpI n1 np (fun j=>tp (j+ap)) n2 nq (fun j=>tq (j+aq))=0))),w541 (fun n1 ap np mp tp n2 aq nq mq tq=>(N541 n1 ap np mp tp n2 aq nq mq tq) (decide (S.cmpI n1 np (fun j=>tp (j+ap)) n2 nq (fun j=>tq (j+aq))=0))),fun _ _=> .dead⟩
theorem s541 (n1:Bool) (ap np mp:Nat) (tp:Nat→Int) (n2:Bool) (aq nq mq:Nat) (tq:Nat→Int) (hp:(ap+np≤mp∧np≤1000000)∧aq+nq≤mq∧nq≤1000000∧S.okI n1 np (fun j=>tp (j+ap))=true∧S.okI n2 nq (fun j=>tq (j+aq))=true):Goes ((q541 n1 ap np mp tp n2 aq nq mq tq)) ((p541 n1 ap np mp tp n2 aq nq mq tq)) (decide (S.cmpI n1 np (fun j=>tp (j+ap)) n2 nq (fun j=>tq (j+aq))=0)):=by
  obtain ⟨⟨hp1,hp2⟩,hp3,hp4,g1,g2⟩:=hp
  unfold p541
  with_reducible refine goes_ok (decide_eq_true ⟨⟨hp1,hp2⟩,hp3,hp4,g1,g2⟩) ?_
  by_cases h:S.cmpI n1 np (fun j=>tp (j+ap)) n2 nq (fun j=>tq (j+aq))=0
  · rw [decide_eq_true h]
    with_reducible refine goes_ok (beq_iff_eq.mpr h) ?_
    exact goes_inr.mpr rfl
  · rw [decide_eq_false h]
    with_reducible refine goes_no (beq_eq_false_iff_ne.mpr h) ?_
    exact goes_inr.mpr rfl
theorem k541_ok:k541.ok Tryz.prog:=by
  intro x hx
  obtain ⟨⟨n1,⟨ap,np,mp,tp,_⟩,_⟩,⟨n2,⟨aq,nq,mq,tq,_⟩,_⟩,_⟩:=x
  obtain ⟨h1,h2⟩:=a541 n1 ap np mp tp n2 aq nq mq tq (s541 n1 ap np mp tp n2 aq nq mq tq (of_dec hx rfl))
  exact ⟨⟨400,(by decide:2+1+0≤400),h1⟩,h2⟩
theorem gcdV_sv {n1 n2:Bool} {V W:Int}:S.gcdV (S.sv n1 V) (S.sv n2 W)=S.gcdV V W:=by
  unfold S.gcdV S.sv
  cases n1<;>cases n2<;>simp only [cond_true,cond_false,Int.gcd_neg,Int.neg_gcd]
theorem gcdV_dvd {a c:Int}:S.gcdV a c ∣ a∧S.gcdV a c ∣ c:=⟨Int.gcd_dvd_left ..,Int.gcd_dvd_right ..⟩
theorem gcdV_nn {a c:Int}:0≤S.gcdV a c:=Int.natCast_nonneg _
theorem gcdV_pos {a c:Int} (h:c≠0):0<S.gcdV a c:=by
  refine Int.not_le.mp fun e=>h ?_
  have:=(gcdV_dvd (a:=a) (c:=c)).2
  rw [show S.gcdV a c=0 by have:=gcdV_nn (a:=a) (c:=c); omega] at this
  exact Int.zero_dvd.mp this
theorem gcdV_le {a c:Int} (h:c≠0):S.gcdV a c≤(c.natAbs:Int):=by
  refine Int.le_of_dvd (by omega) ?_
  exact Int.dvd_natAbs.mpr (gcdV_dvd (a:=a)).2
namespace S
noncomputable def rn (a c:Int):Int:=(if c<0 then-a else a) / gcdV a c
noncomputable def rd (a c:Int):Int:=(c.natAbs:Int) / gcdV a c
def okR (n1:Bool) (n:Nat) (t:Nat→Int) (n2:Bool) (m:Nat) (u:Nat→Int):Bool:=okI n1 n t&&(okI n2 m u&&(!n2&&(decide (0<m)&&decide (Int.gcd (val n t) (val m u)=1))))
end S
theorem rn_mul {a c:Int}:S.rn a c*S.gcdV a c=if c<0 then-a else a:=by
  unfold S.rn
  refine Int.ediv_mul_cancel ?_
  have:=(gcdV_dvd (a:=a) (c:=c)).1
  split
  · exact Int.dvd_neg.mpr this
  · exact this
theorem rd_mul {a c:Int}:S.rd a c*S.gcdV a c=(c.natAbs:Int):=by
  unfold S.rd
  exact Int.ediv_mul_cancel (Int.dvd_natAbs.mpr (gcdV_dvd (a:=a)).2)
theorem rd_pos {a c:Int} (h:c≠0):0<S.rd a c:=by
  have e:=rd_mul (a:=a) (c:=c)
  have g:=gcdV_pos (a:=a) h
  refine Int.not_le.mp fun h1=> ?_
  have:=Int.mul_nonpos_of_nonpos_of_nonneg h1 (Int.le_of_lt g)
  omega
theorem le_mul_pos {x g:Int} (hx:0≤x) (hg:0<g):x≤x*g:=by
  have:=Int.mul_le_mul_of_nonneg_left (show 1≤g by omega) hx
  omega
theorem rn_le {a c:Int} (h:c≠0):((S.rn a c).natAbs:Int)≤a.natAbs:=by
  have e:=rn_mul (a:=a) (c:=c)
  have g:=gcdV_pos (a:=a) h
  have:=le_mul_pos (x:=((S.rn a c).natAbs:Int)) (by omega) g
  have e2:((S.rn a c).natAbs:Int)*S.gcdV a c=((S.rn a c*S.gcdV a c).natAbs:Int):=by
    rw [Int.natAbs_mul,Int.natCast_mul,show ((Int.natAbs (S.gcdV a c):Nat):Int)=S.gcdV a c by omega]
  rw [e2,e] at this
  split at this<;>omega
theorem rd_le {a c:Int} (h:c≠0):S.rd a c≤(c.natAbs:Int):=by
  have:=le_mul_pos (x:=S.rd a c) (Int.le_of_lt (rd_pos h)) (gcdV_pos (a:=a) h)
  rw [rd_mul] at this
  exact this
abbrev St51:=Empty
abbrev Rt51:=Bool×List Int
noncomputable def V51 (n1:Bool) (ap np mp:Nat) (tp:NI) (r:Rt51):PV:=PV.agg [PV.bool r.1,PV.own (2) (1) (List.length r.2)]
noncomputable def N51 (n1:Bool) (ap np mp:Nat) (tp:NI) (r:Rt51):List Blk:= [Blk.cols (List.length r.2) [Col.int .i64 fun j=>S.at' r.2 j]]
noncomputable def I51 (n1:Bool) (ap np mp:Nat) (tp:NI):St51→Hd:=fun s=>s.elim
noncomputable def q51 (n1:Bool) (ap np mp:Nat) (tp:NI):St51→Option (St51⊕Rt51):=fun s=>s.elim
noncomputable def p51 (n1:Bool) (ap np mp:Nat) (tp:NI):Option (St51⊕Rt51):=bif (n1) then (bif (decide (ap+np≤mp∧np≤1000000∧(S.okD np fun j=>tp (j+ap))=true)) then (some (.inr (S.sgB false (S.val np fun j=>tp (j+ap)),S.grp (S.val np fun j=>tp (j+ap))))) else (none)) else (bif (decide (ap+np≤mp∧np≤1000000∧(S.okD np fun j=>tp (j+ap))=true)) then (some (.inr (S.sgB true (S.val np fun j=>tp (j+ap)),S.grp (S.val np fun j=>tp (j+ap))))) else (none))
noncomputable def Te51 (test:TT) (Kst:KS) (Kret:KR) (n1:Bool) (ap np mp:Nat) (tp:NI):Prop:=test (n1) (test (decide (ap+np≤mp∧np≤1000000∧(S.okD np fun j=>tp (j+ap))=true)) (Kret (PV.agg [PV.bool (S.sgB false (S.val np fun j=>tp (j+ap))),PV.own (4) (1) (List.length (S.grp (S.val np fun j=>tp (j+ap))))]) ([[(0,false,Blk.cols mp [Col.int .i64 tp]),(4,true,Blk.cols (List.length (S.grp (S.val np fun j=>tp (j+ap)))) [Col.int .i64 fun j=>S.at' (S.grp (S.val np fun j=>tp (j+ap))) j])]]) (5)) (False)) (test (decide (ap+np≤mp∧np≤1000000∧(S.okD np fun j=>tp (j+ap))=true)) (Kret (PV.agg [PV.bool (S.sgB true (S.val np fun j=>tp (j+ap))),PV.own (4) (1) (List.length (S.grp (S.val np fun j=>tp (j+ap))))]) ([[(0,false,Blk.cols mp [Col.int .i64 tp]),(4,true,Blk.cols (List.length (S.grp (S.val np fun j=>tp (j+ap)))) [Col.int .i64 fun j=>S.at' (S.grp (S.val np fun j=>tp (j+ap))) j])]]) (5)) (False))
theorem te51 (test:TT) (Kst:KS) (Kret:KR) (n1:Bool) (ap np mp:Nat) (tp:NI):run test Tryz.env true (xD test) true 400 ⟨96,[.cd (mkFn Tryz.f96).body],argT 0 [.agg [.bool n1,.loose ⟨0,1,ap,0⟩ np]],[[],[(0,(false,.cols mp [.int .i64 tp]))]],1⟩ (proj 1 [] Kst Kret)=
  Te51 test Kst Kret n1 ap np mp tp:=by kernel_rfl
noncomputable abbrev J51 (n1:Bool) (ap np mp:Nat) (tp:NI):Rt51→Heap:=fun r=> [newL (1+1) ((N51 n1 ap np mp tp) r)++ [(0,(false,.cols mp [.int .i64 tp]))]]
attribute [local irreducible] Int.subNatNat in
theorem be51 (n1:Bool) (ap np mp:Nat) (tp:NI) (Kst:KS) (Kret:KR) (x:St51⊕Rt51) (hS:HS 1 400 ((I51 n1 ap np mp tp)) Kst x) (hR:HR 1 400 ((V51 n1 ap np mp tp)) (J51 n1 ap np mp tp) Kret x) (h:p51 n1 ap np mp tp=some x):Te51 cond Kst Kret n1 ap np mp tp:=by
  unfold Te51
  unfold p51 at h
  exact bif_split h (fun c0 h=>bif_split h (fun c1 h=>ret_at hR _ h (fun n=>bif Nat.beq n 2 then 4 else n) rfl rfl rfl (rn_agg ⟨(rn_bool rfl),(rn_own (use_own rfl) rfl rfl),trivial⟩) rfl (entl_new (use_own rfl) rfl (Nat.le_of_eq rfl) (rcs_int (fun _ _=>rfl) rcs_nil) (entl_bor (use_lo rfl) rfl rfl entl_nil))) (fun c1 h=>no_some h)) (fun c0 h=>bif_split h (fun c1 h=>ret_at hR _ h (fun n=>bif Nat.beq n 2 then 4 else n) rfl rfl rfl (rn_agg ⟨(rn_bool rfl),(rn_own (use_own rfl) rfl rfl),trivial⟩) rfl (entl_new (use_own rfl) rfl (Nat.le_of_eq rfl) (rcs_int (fun _ _=>rfl) rcs_nil) (entl_bor (use_lo rfl) rfl rfl entl_nil))) (fun c1 h=>no_some h))
theorem a51 (n1:Bool) (ap np mp:Nat) (tp:NI) {r:Rt51} (h:Goes ((q51 n1 ap np mp tp)) ((p51 n1 ap np mp tp)) r):CallR Tryz.prog 96 [.agg [.bool n1,.loose ⟨0,1,ap,0⟩ np]] [[(0,(false,.cols mp [.int .i64 tp]))]] 1 ((V51 n1 ap np mp tp) r) ((J51 n1 ap np mp tp) r) 400∧ ∃ F,Tryz.prog.funcs[96]? =some F∧F.body.isSome=true∧(F.name== "runtime.NumGoroutine")=false:=by
  refine dec_calls (f:=96) (lo:=1) (hi:=400) Tryz.envOk Tryz.mixed xD_ok ((I51 n1 ap np mp tp)) ((V51 n1 ap np mp tp)) (J51 n1 ap np mp tp) (fn:=mkFn Tryz.f96) (ts:= []) (n:=400) rfl (by decide) (by simp) (names_of rfl) ?_ ?_ ?_ h
  · intro s; exact s.elim
  · intro Kst Kret x hS hR h
    exact Holds.eq (te51 cond Kst Kret n1 ap np mp tp) (be51 n1 ap np mp tp Kst Kret x hS hR h)
  · intro Kst Kret x hS hR s h; exact s.elim
noncomputable abbrev w51 {α:Type} (g:Bool→Nat→Nat→Nat→(Nat→Int)→α) (x:(Bool×(Nat×Nat×Nat×(Nat→Int)×Unit)×Unit)×Unit):α:=g x.1.1 x.1.2.1.1 x.1.2.1.2.1 x.1.2.1.2.2.1 x.1.2.1.2.2.2.1
noncomputable def k51:Con:=⟨96,[.agg [.plain (.bool),.list [.int .i64]]],w51 (fun n1 ap np mp tp=>decide ((ap+np≤mp∧np≤1000000)∧S.okD np (fun j=>tp (j+ap))=true)),w51 (fun n1 ap np mp tp=>(V51 n1 ap np mp tp) (S.sgB (!n1) (S.val np (fun j=>tp (j+ap))),S.grp (S.val np (fun j=>tp (j+ap))))),w51 (fun n1 ap np mp tp=>(N51 n1 ap np mp tp) (S.sgB (!n1) (S.val np (fun j=>tp (j+ap))),S.grp (S.val np (fun j=>tp (j+ap))))),fun _ _=> .dead⟩
theorem s51 (n1:Bool) (ap np mp:Nat) (tp:Nat→Int) (hp:(ap+np≤mp∧np≤1000000)∧S.okD np (fun j=>tp (j+ap))=true):Goes ((q51 n1 ap np mp tp)) ((p51 n1 ap np mp tp)) ((S.sgB (!n1) (S.val np (fun j=>tp (j+ap))),S.grp (S.val np (fun j=>tp (j+ap))))):=by
  obtain ⟨⟨hp1,hp2⟩,hp3⟩:=hp
  unfold p51
  cases n1
  · with_reducible refine goes_no rfl ?_
    with_reducible refine goes_ok (decide_eq_true ⟨hp1,hp2,hp3⟩) ?_
    exact goes_inr.mpr rfl
  · with_reducible refine goes_ok rfl ?_
    with_reducible refine goes_ok (decide_eq_true ⟨hp1,hp2,hp3⟩) ?_
    exact goes_inr.mpr rfl
theorem k51_ok:k51.ok Tryz.prog:=by
  intro x hx
  obtain ⟨⟨n1,⟨ap,np,mp,tp,_⟩,_⟩,_⟩:=x
  obtain ⟨h1,h2⟩:=a51 n1 ap np mp tp (s51 n1 ap np mp tp (of_dec hx rfl))
  exact ⟨⟨400,(by decide:1+1+1≤400),h1⟩,h2⟩
noncomputable def xR0 (test:Bool→Prop→Prop→Prop):Ext:=consX test [k34,k35,k29,k30,k51]
theorem xR0_ok:ExtOk Tryz.prog (xR0 cond):=consX_ok ⟨k34_ok,k35_ok,k29_ok,k30_ok,k51_ok,trivial⟩
namespace S
noncomputable def redV (a c:Int):Bool×Bool×List Int×List Int:=(decide (rn a c<0),false,grp ((rn a c).natAbs:Int),grp (rd a c))
end S
theorem okI_N {ng:Bool} {r:Int} (h0:0<r) (h:r<S.pw 80):S.okI ng (S.grp r).length (fun j=>S.at' (S.grp r) j)=true∧S.sv ng (S.val (S.grp r).length fun j=>S.at' (S.grp r) j)=S.sv ng r:=
  ⟨okI_iff.mpr ⟨grp_le h,grp_ok,.inl (len_pos h0)⟩,by rw [val_grpL (by omega)]⟩
theorem rn_neg {a c:Int} (h:c≠0):S.rn (-a) (-c)=S.rn a c:=by
  unfold S.rn S.gcdV
  rw [Int.gcd_neg,Int.neg_gcd]
  by_cases h1:c<0
  · rw [if_neg (by omega),if_pos h1]
  · rw [if_pos (by omega),if_neg h1,Int.neg_neg]
theorem rd_neg {a c:Int}:S.rd (-a) (-c)=S.rd a c:=by
  unfold S.rd S.gcdV
  rw [Int.gcd_neg,Int.neg_gcd,Int.natAbs_neg]
section
variable {n1 n2:Bool} {n m:Nat} {t u:Nat→Int}
theorem gV_pos (g2:S.okI n2 m u=true) (hm:0<m):0<S.gcdV (S.val n t) (S.val m u):=gcdV_pos (by have:=val_pos (okI_G g2).2 hm; omega)
theorem gV_lt (g2:S.okI n2 m u=true) (hm:0<m):S.gcdV (S.val n t) (S.val m u)<S.pw 80:=by
  have h1:=val_pos (okI_G g2).2 hm
  have h2:=val_lt (okG_D (okI_G g2).2) (okI_G g2).1
  have:=gcdV_le (a:=S.val n t) (c:=S.val m u) (by omega)
  omega
theorem div_sgn {a g:Int} (h:g ∣ a):a / S.sv n2 g=S.sv n2 (a / g):=by
  cases n2
  · rfl
  · exact Int.ediv_neg _ _
theorem mod_sgn {a g:Int} (h:g ∣ a):a % S.sv n2 g=0:=by
  cases n2
  · exact Int.emod_eq_zero_of_dvd h
  · show a % (-g)=0
    rw [Int.emod_neg]; exact Int.emod_eq_zero_of_dvd h
theorem rn_sv (hm:0<S.val m u):S.rn (S.sv n1 (S.val n t)) (S.sv n2 (S.val m u))=S.sv n2 (S.sv n1 (S.val n t) / S.gcdV (S.val n t) (S.val m u)):=by
  unfold S.rn
  rw [gcdV_sv]
  have d:S.gcdV (S.val n t) (S.val m u) ∣ S.sv n1 (S.val n t):=by
    cases n1
    · exact gcdV_dvd.1
    · exact Int.dvd_neg.mpr gcdV_dvd.1
  cases n2
  · rw [if_neg (by show ¬ S.val m u<0; omega)]; rfl
  · rw [if_pos (by show-S.val m u<0; omega),Int.neg_ediv_of_dvd d]; rfl
theorem rd_sv (hm:0<S.val m u):S.rd (S.sv n1 (S.val n t)) (S.sv n2 (S.val m u))=S.val m u / S.gcdV (S.val n t) (S.val m u):=by
  unfold S.rd
  rw [gcdV_sv,sv_abs]
  congr 1
  omega
theorem div_red1 (g1:S.okI n1 n t=true) (g2:S.okI n2 m u=true) (hm:0<m):S.divI n1 n t n2 (S.grp (S.gcdV (S.val n t) (S.val m u))).length (fun j=>S.at' (S.grp (S.gcdV (S.val n t) (S.val m u))) j)=(decide (S.rn (S.sv n1 (S.val n t)) (S.sv n2 (S.val m u))<0),0,[],S.grp ((S.rn (S.sv n1 (S.val n t)) (S.sv n2 (S.val m u))).natAbs:Int)):=by
  have hp:=gV_pos (n:=n) (t:=t) g2 hm
  have ho:=okI_N (ng:=n2) hp (gV_lt g2 hm)
  have d:S.gcdV (S.val n t) (S.val m u) ∣ S.sv n1 (S.val n t):=by
    cases n1
    · exact gcdV_dvd.1
    · exact Int.dvd_neg.mpr gcdV_dvd.1
  rw [divI_ok g1 ho.1 (by have:=len_pos hp; omega),ho.2,div_sgn d,mod_sgn d,rn_sv (val_pos (okI_G g2).2 hm),grp_zero]
theorem div_red2 (g1:S.okI n1 n t=true) (g2:S.okI n2 m u=true) (hm:0<m):S.divI n2 m u n2 (S.grp (S.gcdV (S.val n t) (S.val m u))).length (fun j=>S.at' (S.grp (S.gcdV (S.val n t) (S.val m u))) j)=(false,0,[],S.grp (S.rd (S.sv n1 (S.val n t)) (S.sv n2 (S.val m u)))):=by
  have hp:=gV_pos (n:=n) (t:=t) g2 hm
  have hv:=val_pos (okI_G g2).2 hm
  have ho:=okI_N (ng:=n2) hp (gV_lt g2 hm)
  have d1:S.gcdV (S.val n t) (S.val m u) ∣ S.val m u:=gcdV_dvd.2
  have d:S.gcdV (S.val n t) (S.val m u) ∣ S.sv n2 (S.val m u):=by
    cases n2
    · exact d1
    · exact Int.dvd_neg.mpr d1
  have e:S.sv n2 (S.val m u) / S.sv n2 (S.gcdV (S.val n t) (S.val m u))=S.val m u / S.gcdV (S.val n t) (S.val m u):=by
    rw [div_sgn d]
    cases n2
    · rfl
    · show-(-S.val m u / _)=_
      rw [Int.neg_ediv_of_dvd d1,Int.neg_neg]
  have q:=Int.ediv_nonneg (Int.le_of_lt hv) (Int.le_of_lt hp)
  rw [divI_ok g2 ho.1 (by have:=len_pos hp; omega),ho.2,e,mod_sgn d,rd_sv hv,grp_zero,decide_eq_false (by omega),show ((S.val m u / S.gcdV (S.val n t) (S.val m u)).natAbs:Int)=S.val m u / S.gcdV (S.val n t) (S.val m u) by omega]
end
noncomputable abbrev c553_e_0 (n1:Bool) (ap np:Nat) (tp:NI) (n2:Bool) (aq nq:Nat) (tq:NI):=Prod.snd ((S.gcdS n1 np (fun j=>tp (j+ap)) n2 nq fun j=>tq (j+aq)).2)
noncomputable abbrev c553_e_1 (n1:Bool) (ap np mp:Nat) (tp:NI) (n2:Bool) (aq nq:Nat) (tq:NI):=decide ((ap+np≤mp∧np≤1000000)∧0+List.length (c553_e_0 n1 ap np tp n2 aq nq tq)≤List.length ((S.gcdS n1 np (fun j=>tp (j+ap)) n2 nq fun j=>tq (j+aq)).2.2)∧List.length ((S.gcdS n1 np (fun j=>tp (j+ap)) n2 nq fun j=>tq (j+aq)).2.2)≤1000000)
noncomputable abbrev c553_e_2 (n1:Bool) (ap np:Nat) (tp:NI) (n2:Bool) (aq nq mq:Nat) (tq:NI):=decide ((aq+nq≤mq∧nq≤1000000)∧0+List.length (c553_e_0 n1 ap np tp n2 aq nq tq)≤List.length ((S.gcdS n1 np (fun j=>tp (j+ap)) n2 nq fun j=>tq (j+aq)).2.2)∧List.length ((S.gcdS n1 np (fun j=>tp (j+ap)) n2 nq fun j=>tq (j+aq)).2.2)≤1000000)
noncomputable abbrev c553_e_3 (n1:Bool) (ap np:Nat) (tp:NI) (n2:Bool) (aq nq:Nat) (tq:NI):=Prod.snd (Prod.snd (S.gcdS n1 np (fun j=>tp (j+ap)) n2 nq fun j=>tq (j+aq)))
abbrev St553:=Empty
abbrev Rt553:=Bool×Bool×List Int×List Int
noncomputable def V553 (n1:Bool) (ap np mp:Nat) (tp:NI) (n2:Bool) (aq nq mq:Nat) (tq:NI) (r:Rt553):PV:=PV.agg [PV.bool r.1,PV.own (3) (1) (List.length r.2.2.1),PV.bool r.2.1,PV.own (4) (1) (List.length r.2.2.2)]
noncomputable def N553 (n1:Bool) (ap np mp:Nat) (tp:NI) (n2:Bool) (aq nq mq:Nat) (tq:NI) (r:Rt553):List Blk:= [Blk.cols (List.length r.2.2.1) [Col.int .i64 fun j=>S.at' r.2.2.1 j],Blk.cols (List.length r.2.2.2) [Col.int .i64 fun j=>S.at' r.2.2.2 j]]
noncomputable def I553 (n1:Bool) (ap np mp:Nat) (tp:NI) (n2:Bool) (aq nq mq:Nat) (tq:NI):St553→Hd:=fun s=>s.elim
noncomputable def q553 (n1:Bool) (ap np mp:Nat) (tp:NI) (n2:Bool) (aq nq mq:Nat) (tq:NI):St553→Option (St553⊕Rt553):=fun s=>s.elim
noncomputable def p553 (n1:Bool) (ap np mp:Nat) (tp:NI) (n2:Bool) (aq nq mq:Nat) (tq:NI):Option (St553⊕Rt553):=bif (decide ((ap+np≤mp∧np≤1000000)∧aq+nq≤mq∧nq≤1000000)) then (bif (n2) then (bif (c553_e_1 n1 ap np mp tp n2 aq nq tq) then (bif (c553_e_2 n1 ap np tp n2 aq nq mq tq) then (some (.inr (Prod.fst (S.divI n1 np (fun j=>tp (j+ap)) true (List.length ((S.gcdS n1 np (fun j=>tp (j+ap)) n2 nq fun j=>tq (j+aq)).2.2)) fun j=>S.at' ((S.gcdS n1 np (fun j=>tp (j+ap)) n2 nq fun j=>tq (j+aq)).2.2) j),Prod.fst (S.divI n2 nq (fun j=>tq (j+aq)) true (List.length ((S.gcdS n1 np (fun j=>tp (j+ap)) n2 nq fun j=>tq (j+aq)).2.2)) fun j=>S.at' ((S.gcdS n1 np (fun j=>tp (j+ap)) n2 nq fun j=>tq (j+aq)).2.2) j),Prod.snd (Prod.snd (Prod.snd (S.divI n1 np (fun j=>tp (j+ap)) true (List.length ((S.gcdS n1 np (fun j=>tp (j+ap)) n2 nq fun j=>tq (j+aq)).2.2)) fun j=>S.at' ((S.gcdS n1 np (fun j=>tp (j+ap)) n2 nq fun j=>tq (j+aq)).2.2) j))),Prod.snd (Prod.snd (Prod.snd (S.divI n2 nq (fun j=>tq (j+aq)) true (List.length ((S.gcdS n1 np (fun j=>tp (j+ap)) n2 nq fun j=>tq (j+aq)).2.2)) fun j=>S.at' ((S.gcdS n1 np (fun j=>tp (j+ap)) n2 nq fun j=>tq (j+aq)).2.2) j)))))) else (none)) else (none)) else (bif (c553_e_1 n1 ap np mp tp n2 aq nq tq) then (bif (c553_e_2 n1 ap np tp n2 aq nq mq tq) then (some (.inr (Prod.fst (S.divI n1 np (fun j=>tp (j+ap)) false (List.length ((S.gcdS n1 np (fun j=>tp (j+ap)) n2 nq fun j=>tq (j+aq)).2.2)) fun j=>S.at' ((S.gcdS n1 np (fun j=>tp (j+ap)) n2 nq fun j=>tq (j+aq)).2.2) j),Prod.fst (S.divI n2 nq (fun j=>tq (j+aq)) false (List.length ((S.gcdS n1 np (fun j=>tp (j+ap)) n2 nq fun j=>tq (j+aq)).2.2)) fun j=>S.at' ((S.gcdS n1 np (fun j=>tp (j+ap)) n2 nq fun j=>tq (j+aq)).2.2) j),Prod.snd (Prod.snd (Prod.snd (S.divI n1 np (fun j=>tp (j+ap)) false (List.length ((S.gcdS n1 np (fun j=>tp (j+ap)) n2 nq fun j=>tq (j+aq)).2.2)) fun j=>S.at' ((S.gcdS n1 np (fun j=>tp (j+ap)) n2 nq fun j=>tq (j+aq)).2.2) j))),Prod.snd (Prod.snd (Prod.snd (S.divI n2 nq (fun j=>tq (j+aq)) false (List.length ((S.gcdS n1 np (fun j=>tp (j+ap)) n2 nq fun j=>tq (j+aq)).2.2)) fun j=>S.at' ((S.gcdS n1 np (fun j=>tp (j+ap)) n2 nq fun j=>tq (j+aq)).2.2) j)))))) else (none)) else (none))) else (none)
noncomputable def Te553 (test:TT) (Kst:KS) (Kret:KR) (n1:Bool) (ap np mp:Nat) (tp:NI) (n2:Bool) (aq nq mq:Nat) (tq:NI):Prop:=test (decide ((ap+np≤mp∧np≤1000000)∧aq+nq≤mq∧nq≤1000000)) (test (n2) (test (c553_e_1 n1 ap np mp tp n2 aq nq tq) (test (c553_e_2 n1 ap np tp n2 aq nq mq tq) (Kret (PV.agg [PV.bool (S.divI n1 np (fun j=>tp (j+ap)) true (List.length (c553_e_0 n1 ap np tp n2 aq nq tq)) fun j=>S.at' (S.gcdS n1 np (fun j=>tp (j+ap)) n2 nq fun j=>tq (j+aq)).2.2 j).1,PV.own (10) (1) (List.length (S.divI n1 np (fun j=>tp (j+ap)) true (List.length (c553_e_0 n1 ap np tp n2 aq nq tq)) fun j=>S.at' (c553_e_0 n1 ap np tp n2 aq nq tq) j).2.2.2),PV.bool (S.divI n2 nq (fun j=>tq (j+aq)) true (List.length (c553_e_0 n1 ap np tp n2 aq nq tq)) fun j=>S.at' (S.gcdS n1 np (fun j=>tp (j+ap)) n2 nq fun j=>tq (j+aq)).2.2 j).1,PV.own (15) (1) (List.length (S.divI n2 nq (fun j=>tq (j+aq)) true (List.length (c553_e_0 n1 ap np tp n2 aq nq tq)) fun j=>S.at' (c553_e_0 n1 ap np tp n2 aq nq tq) j).2.2.2)]) ([[(1,false,Blk.cols mq [Col.int .i64 tq]),(0,false,Blk.cols mp [Col.int .i64 tp]),(15,true,Blk.cols (List.length (S.divI n2 nq (fun j=>tq (j+aq)) true (List.length (c553_e_3 n1 ap np tp n2 aq nq tq)) fun j=>S.at' (c553_e_0 n1 ap np tp n2 aq nq tq) j).2.2.2) [Col.int .i64 fun j=>S.at' (S.divI n2 nq (fun j=>tq (j+aq)) true (List.length (c553_e_3 n1 ap np tp n2 aq nq tq)) fun j=>S.at' (c553_e_3 n1 ap np tp n2 aq nq tq) j).2.2.2 j]),(10,true,Blk.cols (List.length (S.divI n1 np (fun j=>tp (j+ap)) true (List.length (c553_e_3 n1 ap np tp n2 aq nq tq)) fun j=>S.at' (c553_e_0 n1 ap np tp n2 aq nq tq) j).2.2.2) [Col.int .i64 fun j=>S.at' (S.divI n1 np (fun j=>tp (j+ap)) true (List.length (c553_e_3 n1 ap np tp n2 aq nq tq)) fun j=>S.at' (c553_e_3 n1 ap np tp n2 aq nq tq) j).2.2.2 j])]]) (18)) (False)) (False)) (test (c553_e_1 n1 ap np mp tp n2 aq nq tq) (test (c553_e_2 n1 ap np tp n2 aq nq mq tq) (Kret (PV.agg [PV.bool (S.divI n1 np (fun j=>tp (j+ap)) false (List.length (c553_e_0 n1 ap np tp n2 aq nq tq)) fun j=>S.at' (S.gcdS n1 np (fun j=>tp (j+ap)) n2 nq fun j=>tq (j+aq)).2.2 j).1,PV.own (10) (1) (List.length (S.divI n1 np (fun j=>tp (j+ap)) false (List.length (c553_e_0 n1 ap np tp n2 aq nq tq)) fun j=>S.at' (c553_e_0 n1 ap np tp n2 aq nq tq) j).2.2.2),PV.bool (S.divI n2 nq (fun j=>tq (j+aq)) false (List.length (c553_e_0 n1 ap np tp n2 aq nq tq)) fun j=>S.at' (S.gcdS n1 np (fun j=>tp (j+ap)) n2 nq fun j=>tq (j+aq)).2.2 j).1,PV.own (15) (1) (List.length (S.divI n2 nq (fun j=>tq (j+aq)) false (List.length (c553_e_0 n1 ap np tp n2 aq nq tq)) fun j=>S.at' (c553_e_0 n1 ap np tp n2 aq nq tq) j).2.2.2)]) ([[(1,false,Blk.cols mq [Col.int .i64 tq]),(0,false,Blk.cols mp [Col.int .i64 tp]),(15,true,Blk.cols (List.length (S.divI n2 nq (fun j=>tq (j+aq)) false (List.length (c553_e_3 n1 ap np tp n2 aq nq tq)) fun j=>S.at' (c553_e_0 n1 ap np tp n2 aq nq tq) j).2.2.2) [Col.int .i64 fun j=>S.at' (S.divI n2 nq (fun j=>tq (j+aq)) false (List.length (c553_e_3 n1 ap np tp n2 aq nq tq)) fun j=>S.at' (c553_e_3 n1 ap np tp n2 aq nq tq) j).2.2.2 j]),(10,true,Blk.cols (List.length (S.divI n1 np (fun j=>tp (j+ap)) false (List.length (c553_e_3 n1 ap np tp n2 aq nq tq)) fun j=>S.at' (c553_e_0 n1 ap np tp n2 aq nq tq) j).2.2.2) [Col.int .i64 fun j=>S.at' (S.divI n1 np (fun j=>tp (j+ap)) false (List.length (c553_e_3 n1 ap np tp n2 aq nq tq)) fun j=>S.at' (c553_e_3 n1 ap np tp n2 aq nq tq) j).2.2.2 j])]]) (18)) (False)) (False))) (False)
theorem te553 (test:TT) (Kst:KS) (Kret:KR) (n1:Bool) (ap np mp:Nat) (tp:NI) (n2:Bool) (aq nq mq:Nat) (tq:NI):run test Tryz.env true (xR0 test) true 400 ⟨53,[.cd (mkFn Tryz.f53).body],argT 0 [.agg [.bool n1,.loose ⟨0,1,ap,0⟩ np],.agg [.bool n2,.loose ⟨1,1,aq,0⟩ nq]],[[],[(0,(false,.cols mp [.int .i64 tp])),(1,(false,.cols mq [.int .i64 tq]))]],2⟩ (proj 2 [] Kst Kret)=
  Te553 test Kst Kret n1 ap np mp tp n2 aq nq mq tq:=by kernel_rfl
noncomputable abbrev J553 (n1:Bool) (ap np mp:Nat) (tp:NI) (n2:Bool) (aq nq mq:Nat) (tq:NI):Rt553→Heap:=fun r=> [newL (2+1) ((N553 n1 ap np mp tp n2 aq nq mq tq) r)++ [(0,(false,.cols mp [.int .i64 tp])),(1,(false,.cols mq [.int .i64 tq]))]]
attribute [local irreducible] Int.subNatNat in
theorem be553 (n1:Bool) (ap np mp:Nat) (tp:NI) (n2:Bool) (aq nq mq:Nat) (tq:NI) (Kst:KS) (Kret:KR) (x:St553⊕Rt553) (hS:HS 2 400 ((I553 n1 ap np mp tp n2 aq nq mq tq)) Kst x) (hR:HR 2 400 ((V553 n1 ap np mp tp n2 aq nq mq tq)) (J553 n1 ap np mp tp n2 aq nq mq tq) Kret x) (h:p553 n1 ap np mp tp n2 aq nq mq tq=some x):Te553 cond Kst Kret n1 ap np mp tp n2 aq nq mq tq:=by
  unfold Te553
  unfold p553 at h
  refine bif_split h (fun c0 h=>bif_split h (fun c1 h=>bif_split h (fun c2 h=>bif_split h (fun c3 h=> ?_) (fun c3 h=> ?_)) (fun c2 h=> ?_)) (fun c1 h=>bif_split h (fun c2 h=>bif_split h (fun c3 h=> ?_) (fun c3 h=> ?_)) (fun c2 h=> ?_))) (fun c0 h=> ?_)
  all_goals first
    |exact no_some h
    |exact ret_at hR _ h (fun n=>bif Nat.beq n 3 then 10 else bif Nat.beq n 4 then 15 else n) rfl rfl rfl (rn_agg ⟨(rn_bool rfl),(rn_own (use_own rfl) rfl rfl),(rn_bool rfl),(rn_own (use_own rfl) rfl rfl),trivial⟩) rfl (entl_new (use_own rfl) rfl (Nat.le_of_eq rfl) (rcs_int (fun _ _=>rfl) rcs_nil) (entl_new (use_own rfl) rfl (Nat.le_of_eq rfl) (rcs_int (fun _ _=>rfl) rcs_nil) (entl_bor (use_lo rfl) rfl rfl (entl_bor (use_lo rfl) rfl rfl entl_nil))))
theorem a553 (n1:Bool) (ap np mp:Nat) (tp:NI) (n2:Bool) (aq nq mq:Nat) (tq:NI) {r:Rt553} (h:Goes ((q553 n1 ap np mp tp n2 aq nq mq tq)) ((p553 n1 ap np mp tp n2 aq nq mq tq)) r):CallR Tryz.prog 53 [.agg [.bool n1,.loose ⟨0,1,ap,0⟩ np],.agg [.bool n2,.loose ⟨1,1,aq,0⟩ nq]] [[(0,(false,.cols mp [.int .i64 tp])),(1,(false,.cols mq [.int .i64 tq]))]] 2 ((V553 n1 ap np mp tp n2 aq nq mq tq) r) ((J553 n1 ap np mp tp n2 aq nq mq tq) r) 400∧ ∃ F,Tryz.prog.funcs[53]? =some F∧F.body.isSome=true∧(F.name== "runtime.NumGoroutine")=false:=by
  refine dec_calls (f:=53) (lo:=2) (hi:=400) Tryz.envOk Tryz.mixed xR0_ok ((I553 n1 ap np mp tp n2 aq nq mq tq)) ((V553 n1 ap np mp tp n2 aq nq mq tq)) (J553 n1 ap np mp tp n2 aq nq mq tq) (fn:=mkFn Tryz.f53) (ts:= []) (n:=400) rfl (by decide) (by simp) (names_of rfl) ?_ ?_ ?_ h
  · intro s; exact s.elim
  · intro Kst Kret x hS hR h
    exact Holds.eq (te553 cond Kst Kret n1 ap np mp tp n2 aq nq mq tq) (be553 n1 ap np mp tp n2 aq nq mq tq Kst Kret x hS hR h)
  · intro Kst Kret x hS hR s h; exact s.elim
noncomputable abbrev w553 {α:Type} (g:Bool→Nat→Nat→Nat→(Nat→Int)→Bool→Nat→Nat→Nat→(Nat→Int)→α) (x:(Bool×(Nat×Nat×Nat×(Nat→Int)×Unit)×Unit)×(Bool×(Nat×Nat×Nat×(Nat→Int)×Unit)×Unit)×Unit):α:=g x.1.1 x.1.2.1.1 x.1.2.1.2.1 x.1.2.1.2.2.1 x.1.2.1.2.2.2.1 x.2.1.1 x.2.1.2.1.1 x.2.1.2.1.2.1 x.2.1.2.1.2.2.1 x.2.1.2.1.2.2.2.1
noncomputable def k553:Con:=⟨53,[.agg [.plain (.bool),.list [.int .i64]],.agg [.plain (.bool),.list [.int .i64]]],w553 (fun n1 ap np mp tp n2 aq nq mq tq=>decide (((ap+np≤mp∧np≤1000000)∧aq+nq≤mq∧nq≤1000000)∧S.okI n1 np (fun j=>tp (j+ap))=true∧S.okI n2 nq (fun j=>tq (j+aq))=true∧0<nq)),w553 (fun n1 ap np mp tp n2 aq nq mq tq=>(V553 n1 ap np mp tp n2 aq nq mq tq) ((S.redV (S.sv n1 (S.val np (fun j=>tp (j+ap)))) (S.sv n2 (S.val nq (fun j=>tq (j+aq))))).1,(S.redV (S.sv n1 (S.val np (fun j=>tp (j+ap)))) (S.sv n2 (S.val nq (fun j=>tq (j+aq))))).2.1,(S.redV (S.sv n1 (S.val np (fun j=>tp (j+ap)))) (S.sv n2 (S.val nq (fun j=>tq (j+aq))))).2.2.1,(S.redV (S.sv n1 (S.val np (fun j=>tp (j+ap)))) (S.sv n2 (S.val nq (fun j=>tq (j+aq))))).2.2.2)),w553 (fun n1 ap np mp tp n2 aq nq mq tq=>(N553 n1 ap np mp tp n2 aq nq mq tq) ((S.redV (S.sv n1 (S.val np (fun j=>tp (j+ap)))) (S.sv n2 (S.val nq (fun j=>tq (j+aq))))).1,(S.redV (S.sv n1 (S.val np (fun j=>tp (j+ap)))) (S.sv n2 (S.val nq (fun j=>tq (j+aq))))).2.1,(S.redV (S.sv n1 (S.val np (fun j=>tp (j+ap)))) (S.sv n2 (S.val nq (fun j=>tq (j+aq))))).2.2.1,(S.redV (S.sv n1 (S.val np (fun j=>tp (j+ap)))) (S.sv n2 (S.val nq (fun j=>tq (j+aq))))).2.2.2)),fun _ _=> .dead⟩
theorem s553 (n1:Bool) (ap np mp:Nat) (tp:Nat→Int) (n2:Bool) (aq nq mq:Nat) (tq:Nat→Int) (hp:((ap+np≤mp∧np≤1000000)∧aq+nq≤mq∧nq≤1000000)∧S.okI n1 np (fun j=>tp (j+ap))=true∧S.okI n2 nq (fun j=>tq (j+aq))=true∧0<nq):Goes ((q553 n1 ap np mp tp n2 aq nq mq tq)) ((p553 n1 ap np mp tp n2 aq nq mq tq)) (((S.redV (S.sv n1 (S.val np (fun j=>tp (j+ap)))) (S.sv n2 (S.val nq (fun j=>tq (j+aq))))).1,(S.redV (S.sv n1 (S.val np (fun j=>tp (j+ap)))) (S.sv n2 (S.val nq (fun j=>tq (j+aq))))).2.1,(S.redV (S.sv n1 (S.val np (fun j=>tp (j+ap)))) (S.sv n2 (S.val nq (fun j=>tq (j+aq))))).2.2.1,(S.redV (S.sv n1 (S.val np (fun j=>tp (j+ap)))) (S.sv n2 (S.val nq (fun j=>tq (j+aq))))).2.2.2)):=by
  obtain ⟨⟨⟨hp1,hp2⟩,hp3,hp4⟩,g1,g2,hn⟩:=hp
  have hr:S.gcdS n1 np (fun j=>tp (j+ap)) n2 nq (fun j=>tq (j+aq))=(false,0,S.grp (S.gcdV (S.val np (fun j=>tp (j+ap))) (S.val nq (fun j=>tq (j+aq))))):=by unfold S.gcdS; rw [if_pos ⟨g1,g2⟩]
  have e1:=div_red1 g1 g2 hn
  have e2:=div_red2 g1 g2 hn
  have lg:=grp_le (gV_lt (n:=np) (t:=(fun j=>tp (j+ap))) g2 hn)
  unfold p553
  with_reducible refine goes_ok (decide_eq_true ⟨⟨hp1,hp2⟩,hp3,hp4⟩) ?_
  simp only [-eq_self,c553_e_0,c553_e_1,c553_e_2,c553_e_3,hr]
  cases n2
  · with_reducible refine goes_no rfl ?_
    with_reducible refine goes_ok (decide_eq_true ⟨⟨hp1,hp2⟩,by omega,by omega⟩) ?_
    with_reducible refine goes_ok (decide_eq_true ⟨⟨hp3,hp4⟩,by omega,by omega⟩) ?_
    rw [e1,e2]
    exact goes_inr.mpr rfl
  · with_reducible refine goes_ok rfl ?_
    with_reducible refine goes_ok (decide_eq_true ⟨⟨hp1,hp2⟩,by omega,by omega⟩) ?_
    with_reducible refine goes_ok (decide_eq_true ⟨⟨hp3,hp4⟩,by omega,by omega⟩) ?_
    rw [e1,e2]
    exact goes_inr.mpr rfl
theorem k553_ok:k553.ok Tryz.prog:=by
  intro x hx
  obtain ⟨⟨n1,⟨ap,np,mp,tp,_⟩,_⟩,⟨n2,⟨aq,nq,mq,tq,_⟩,_⟩,_⟩:=x
  obtain ⟨h1,h2⟩:=a553 n1 ap np mp tp n2 aq nq mq tq (s553 n1 ap np mp tp n2 aq nq mq tq (of_dec hx rfl))
  exact ⟨⟨400,(by decide:2+1+2≤400),h1⟩,h2⟩
theorem okI_S {ng:Bool} {V:Int} (h0:0≤V) (h:V<S.pw 80):S.okI (S.sgB ng V) (S.grp V).length (fun j=>S.at' (S.grp V) j)=true∧S.sv (S.sgB ng V) (S.val (S.grp V).length fun j=>S.at' (S.grp V) j)=S.sv ng V:=by
  refine ⟨okI_iff.mpr ⟨grp_le h,grp_ok,?_⟩,by rw [val_grpL h0,sv_sg h0]⟩
  by_cases hv:0<V
  · exact .inl (len_pos hv)
  · refine .inr ?_
    unfold S.sgB
    rw [decide_eq_false hv,Bool.and_false]
noncomputable abbrev c550_e_0 (n1:Bool) (ap np:Nat) (tp:NI) (n2:Bool) (aq nq:Nat) (tq:NI):=S.gcdS (S.sgB (!n1) (S.val np fun j=>tp (j+ap))) (List.length (S.grp (S.val np fun j=>tp (j+ap)))) (fun j=>S.at' (S.grp (S.val np fun j=>tp (j+ap))) j) (S.sgB (!n2) (S.val nq fun j=>tq (j+aq))) (List.length (S.grp (S.val nq fun j=>tq (j+aq)))) fun j=>S.at' (S.grp (S.val nq fun j=>tq (j+aq))) j
noncomputable abbrev c550_e_1 (n1:Bool) (ap np:Nat) (tp:NI) (n2:Bool) (aq nq:Nat) (tq:NI):=S.divI (S.sgB (!n1) (S.val np fun j=>tp (j+ap))) (List.length (S.grp (S.val np fun j=>tp (j+ap)))) (fun j=>S.at' (S.grp (S.val np fun j=>tp (j+ap))) j) (Prod.fst (c550_e_0 n1 ap np tp n2 aq nq tq)) (List.length (Prod.snd (Prod.snd (c550_e_0 n1 ap np tp n2 aq nq tq)))) fun j=>S.at' (Prod.snd (Prod.snd (c550_e_0 n1 ap np tp n2 aq nq tq))) j
noncomputable abbrev c550_e_2 (n1:Bool) (ap np:Nat) (tp:NI) (n2:Bool) (aq nq:Nat) (tq:NI):=S.divI (S.sgB (!n2) (S.val nq fun j=>tq (j+aq))) (List.length (S.grp (S.val nq fun j=>tq (j+aq)))) (fun j=>S.at' (S.grp (S.val nq fun j=>tq (j+aq))) j) (Prod.fst (c550_e_0 n1 ap np tp n2 aq nq tq)) (List.length (Prod.snd (Prod.snd (c550_e_0 n1 ap np tp n2 aq nq tq)))) fun j=>S.at' (Prod.snd (Prod.snd (c550_e_0 n1 ap np tp n2 aq nq tq))) j
noncomputable abbrev c550_e_3 (n1:Bool) (ap np:Nat) (tp:NI) (n2:Bool) (aq nq:Nat) (tq:NI):=Prod.snd (Prod.snd (S.gcdS (S.sgB (!n1) (S.val np fun j=>tp (j+ap))) (List.length (S.grp (S.val np fun j=>tp (j+ap)))) (fun j=>S.at' (S.grp (S.val np fun j=>tp (j+ap))) j) (S.sgB (!n2) (S.val nq fun j=>tq (j+aq))) (List.length (S.grp (S.val nq fun j=>tq (j+aq)))) fun j=>S.at' (S.grp (S.val nq fun j=>tq (j+aq))) j))
noncomputable abbrev c550_e_4 (n1:Bool) (ap np:Nat) (tp:NI) (n2:Bool) (aq nq:Nat) (tq:NI):=Prod.snd ((S.gcdS n1 np (fun j=>tp (j+ap)) n2 nq fun j=>tq (j+aq)).2)
abbrev St550:=Empty
abbrev Rt550:=Bool×Bool×List Int×List Int
noncomputable def V550 (n1:Bool) (ap np mp:Nat) (tp:NI) (n2:Bool) (aq nq mq:Nat) (tq:NI) (r:Rt550):PV:=PV.agg [PV.bool r.1,PV.own (3) (1) (List.length r.2.2.1),PV.bool r.2.1,PV.own (4) (1) (List.length r.2.2.2)]
noncomputable def N550 (n1:Bool) (ap np mp:Nat) (tp:NI) (n2:Bool) (aq nq mq:Nat) (tq:NI) (r:Rt550):List Blk:= [Blk.cols (List.length r.2.2.1) [Col.int .i64 fun j=>S.at' r.2.2.1 j],Blk.cols (List.length r.2.2.2) [Col.int .i64 fun j=>S.at' r.2.2.2 j]]
noncomputable def I550 (n1:Bool) (ap np mp:Nat) (tp:NI) (n2:Bool) (aq nq mq:Nat) (tq:NI):St550→Hd:=fun s=>s.elim
noncomputable def q550 (n1:Bool) (ap np mp:Nat) (tp:NI) (n2:Bool) (aq nq mq:Nat) (tq:NI):St550→Option (St550⊕Rt550):=fun s=>s.elim
noncomputable def p550 (n1:Bool) (ap np mp:Nat) (tp:NI) (n2:Bool) (aq nq mq:Nat) (tq:NI):Option (St550⊕Rt550):=bif (n2) then (bif (decide ((ap+np≤mp∧np≤1000000)∧(S.okD np fun j=>tp (j+ap))=true)) then (bif (decide ((aq+nq≤mq∧nq≤1000000)∧(S.okD nq fun j=>tq (j+aq))=true)) then (bif (decide ((0+List.length (S.grp (S.val np fun j=>tp (j+ap)))≤List.length (S.grp (S.val np fun j=>tp (j+ap)))∧List.length (S.grp (S.val np fun j=>tp (j+ap)))≤1000000)∧0+List.length (S.grp (S.val nq fun j=>tq (j+aq)))≤List.length (S.grp (S.val nq fun j=>tq (j+aq)))∧List.length (S.grp (S.val nq fun j=>tq (j+aq)))≤1000000)) then (bif (decide ((0+List.length (S.grp (S.val np fun j=>tp (j+ap)))≤List.length (S.grp (S.val np fun j=>tp (j+ap)))∧List.length (S.grp (S.val np fun j=>tp (j+ap)))≤1000000)∧0+List.length (Prod.snd (Prod.snd (c550_e_0 n1 ap np tp n2 aq nq tq)))≤List.length (Prod.snd (Prod.snd (c550_e_0 n1 ap np tp n2 aq nq tq)))∧List.length (Prod.snd (Prod.snd (c550_e_0 n1 ap np tp n2 aq nq tq)))≤1000000)) then (bif (decide ((0+List.length (S.grp (S.val nq fun j=>tq (j+aq)))≤List.length (S.grp (S.val nq fun j=>tq (j+aq)))∧List.length (S.grp (S.val nq fun j=>tq (j+aq)))≤1000000)∧0+List.length (Prod.snd (Prod.snd (c550_e_0 n1 ap np tp n2 aq nq tq)))≤List.length (Prod.snd (Prod.snd (c550_e_0 n1 ap np tp n2 aq nq tq)))∧List.length (Prod.snd (Prod.snd (c550_e_0 n1 ap np tp n2 aq nq tq)))≤1000000)) then (some (.inr (Prod.fst (c550_e_1 n1 ap np tp n2 aq nq tq),Prod.fst (c550_e_2 n1 ap np tp n2 aq nq tq),Prod.snd (Prod.snd (Prod.snd (c550_e_1 n1 ap np tp n2 aq nq tq))),Prod.snd (Prod.snd (Prod.snd (c550_e_2 n1 ap np tp n2 aq nq tq)))))) else (none)) else (none)) else (none)) else (none)) else (none)) else (bif (decide ((ap+np≤mp∧np≤1000000)∧aq+nq≤mq∧nq≤1000000)) then (bif (decide ((ap+np≤mp∧np≤1000000)∧0+List.length (c550_e_4 n1 ap np tp n2 aq nq tq)≤List.length ((S.gcdS n1 np (fun j=>tp (j+ap)) n2 nq fun j=>tq (j+aq)).2.2)∧List.length ((S.gcdS n1 np (fun j=>tp (j+ap)) n2 nq fun j=>tq (j+aq)).2.2)≤1000000)) then (bif (decide ((aq+nq≤mq∧nq≤1000000)∧0+List.length (c550_e_4 n1 ap np tp n2 aq nq tq)≤List.length ((S.gcdS n1 np (fun j=>tp (j+ap)) n2 nq fun j=>tq (j+aq)).2.2)∧List.length ((S.gcdS n1 np (fun j=>tp (j+ap)) n2 nq fun j=>tq (j+aq)).2.2)≤1000000)) then (some (.inr (Prod.fst (S.divI n1 np (fun j=>tp (j+ap)) ((S.gcdS n1 np (fun j=>tp (j+ap)) n2 nq fun j=>tq (j+aq)).1) (List.length ((S.gcdS n1 np (fun j=>tp (j+ap)) n2 nq fun j=>tq (j+aq)).2.2)) fun j=>S.at' ((S.gcdS n1 np (fun j=>tp (j+ap)) n2 nq fun j=>tq (j+aq)).2.2) j),Prod.fst (S.divI n2 nq (fun j=>tq (j+aq)) ((S.gcdS n1 np (fun j=>tp (j+ap)) n2 nq fun j=>tq (j+aq)).1) (List.length ((S.gcdS n1 np (fun j=>tp (j+ap)) n2 nq fun j=>tq (j+aq)).2.2)) fun j=>S.at' ((S.gcdS n1 np (fun j=>tp (j+ap)) n2 nq fun j=>tq (j+aq)).2.2) j),Prod.snd (Prod.snd (Prod.snd (S.divI n1 np (fun j=>tp (j+ap)) ((S.gcdS n1 np (fun j=>tp (j+ap)) n2 nq fun j=>tq (j+aq)).1) (List.length ((S.gcdS n1 np (fun j=>tp (j+ap)) n2 nq fun j=>tq (j+aq)).2.2)) fun j=>S.at' ((S.gcdS n1 np (fun j=>tp (j+ap)) n2 nq fun j=>tq (j+aq)).2.2) j))),Prod.snd (Prod.snd (Prod.snd (S.divI n2 nq (fun j=>tq (j+aq)) ((S.gcdS n1 np (fun j=>tp (j+ap)) n2 nq fun j=>tq (j+aq)).1) (List.length ((S.gcdS n1 np (fun j=>tp (j+ap)) n2 nq fun j=>tq (j+aq)).2.2)) fun j=>S.at' ((S.gcdS n1 np (fun j=>tp (j+ap)) n2 nq fun j=>tq (j+aq)).2.2) j)))))) else (none)) else (none)) else (none))
noncomputable abbrev u550_e_0 (n1:Bool) (ap np:Nat) (tp:NI) (n2:Bool) (aq nq:Nat) (tq:NI):=S.gcdS n1 np (fun j=>tp (j+ap)) n2 nq fun j=>tq (j+aq)
noncomputable def Te550 (test:TT) (Kst:KS) (Kret:KR) (n1:Bool) (ap np mp:Nat) (tp:NI) (n2:Bool) (aq nq mq:Nat) (tq:NI):Prop:=test (n2) (test (decide ((ap+np≤mp∧np≤1000000)∧(S.okD np fun j=>tp (j+ap))=true)) (test (decide ((aq+nq≤mq∧nq≤1000000)∧(S.okD nq fun j=>tq (j+aq))=true)) (test (decide ((0+List.length (S.grp (S.val np fun j=>tp (j+ap)))≤List.length (S.grp (S.val np fun j=>tp (j+ap)))∧List.length (S.grp (S.val np fun j=>tp (j+ap)))≤1000000)∧0+List.length (S.grp (S.val nq fun j=>tq (j+aq)))≤List.length (S.grp (S.val nq fun j=>tq (j+aq)))∧List.length (S.grp (S.val nq fun j=>tq (j+aq)))≤1000000)) (test (decide ((0+List.length (S.grp (S.val np fun j=>tp (j+ap)))≤List.length (S.grp (S.val np fun j=>tp (j+ap)))∧List.length (S.grp (S.val np fun j=>tp (j+ap)))≤1000000)∧0+List.length (c550_e_0 n1 ap np tp n2 aq nq tq).2.2≤List.length (c550_e_0 n1 ap np tp n2 aq nq tq).2.2∧List.length (c550_e_0 n1 ap np tp n2 aq nq tq).2.2≤1000000)) (test (decide ((0+List.length (S.grp (S.val nq fun j=>tq (j+aq)))≤List.length (S.grp (S.val nq fun j=>tq (j+aq)))∧List.length (S.grp (S.val nq fun j=>tq (j+aq)))≤1000000)∧0+List.length (c550_e_0 n1 ap np tp n2 aq nq tq).2.2≤List.length (c550_e_0 n1 ap np tp n2 aq nq tq).2.2∧List.length (c550_e_0 n1 ap np tp n2 aq nq tq).2.2≤1000000)) (Kret (PV.agg [PV.bool (c550_e_1 n1 ap np tp n2 aq nq tq).1,PV.own (14) (1) (List.length (c550_e_1 n1 ap np tp n2 aq nq tq).2.2.2),PV.bool (c550_e_2 n1 ap np tp n2 aq nq tq).1,PV.own (19) (1) (List.length (c550_e_2 n1 ap np tp n2 aq nq tq).2.2.2)]) ([[(1,false,Blk.cols mq [Col.int .i64 tq]),(0,false,Blk.cols mp [Col.int .i64 tp]),(19,true,Blk.cols (List.length (c550_e_2 n1 ap np tp n2 aq nq tq).2.2.2) [Col.int .i64 fun j=>S.at' (S.divI (S.sgB (!n2) (S.val nq fun j=>tq (j+aq))) (List.length (S.grp (S.val nq fun j=>tq (j+aq)))) (fun j=>S.at' (S.grp (S.val nq fun j=>tq (j+aq))) j) (c550_e_0 n1 ap np tp n2 aq nq tq).1 (List.length (c550_e_3 n1 ap np tp n2 aq nq tq)) fun j=>S.at' (c550_e_3 n1 ap np tp n2 aq nq tq) j).2.2.2 j]),(14,true,Blk.cols (List.length (c550_e_1 n1 ap np tp n2 aq nq tq).2.2.2) [Col.int .i64 fun j=>S.at' (S.divI (S.sgB (!n1) (S.val np fun j=>tp (j+ap))) (List.length (S.grp (S.val np fun j=>tp (j+ap)))) (fun j=>S.at' (S.grp (S.val np fun j=>tp (j+ap))) j) (c550_e_0 n1 ap np tp n2 aq nq tq).1 (List.length (c550_e_3 n1 ap np tp n2 aq nq tq)) fun j=>S.at' (c550_e_3 n1 ap np tp n2 aq nq tq) j).2.2.2 j])]]) (22)) (False)) (False)) (False)) (False)) (False)) (test (decide ((ap+np≤mp∧np≤1000000)∧aq+nq≤mq∧nq≤1000000)) (test (decide ((ap+np≤mp∧np≤1000000)∧0+List.length (c550_e_4 n1 ap np tp n2 aq nq tq)≤List.length (u550_e_0 n1 ap np tp n2 aq nq tq).2.2∧List.length (u550_e_0 n1 ap np tp n2 aq nq tq).2.2≤1000000)) (test (decide ((aq+nq≤mq∧nq≤1000000)∧0+List.length (c550_e_4 n1 ap np tp n2 aq nq tq)≤List.length (u550_e_0 n1 ap np tp n2 aq nq tq).2.2∧List.length (u550_e_0 n1 ap np tp n2 aq nq tq).2.2≤1000000)) (Kret (PV.agg [PV.bool (S.divI n1 np (fun j=>tp (j+ap)) (u550_e_0 n1 ap np tp n2 aq nq tq).1 (List.length (c550_e_4 n1 ap np tp n2 aq nq tq)) fun j=>S.at' (u550_e_0 n1 ap np tp n2 aq nq tq).2.2 j).1,PV.own (10) (1) (List.length (S.divI n1 np (fun j=>tp (j+ap)) (u550_e_0 n1 ap np tp n2 aq nq tq).1 (List.length (c550_e_4 n1 ap np tp n2 aq nq tq)) fun j=>S.at' (c550_e_4 n1 ap np tp n2 aq nq tq) j).2.2.2),PV.bool (S.divI n2 nq (fun j=>tq (j+aq)) (u550_e_0 n1 ap np tp n2 aq nq tq).1 (List.length (c550_e_4 n1 ap np tp n2 aq nq tq)) fun j=>S.at' (u550_e_0 n1 ap np tp n2 aq nq tq).2.2 j).1,PV.own (15) (1) (List.length (S.divI n2 nq (fun j=>tq (j+aq)) (u550_e_0 n1 ap np tp n2 aq nq tq).1 (List.length (c550_e_4 n1 ap np tp n2 aq nq tq)) fun j=>S.at' (c550_e_4 n1 ap np tp n2 aq nq tq) j).2.2.2)]) ([[(1,false,Blk.cols mq [Col.int .i64 tq]),(0,false,Blk.cols mp [Col.int .i64 tp]),(15,true,Blk.cols (List.length (S.divI n2 nq (fun j=>tq (j+aq)) (u550_e_0 n1 ap np tp n2 aq nq tq).1 (List.length (u550_e_0 n1 ap np tp n2 aq nq tq).2.2) fun j=>S.at' (c550_e_4 n1 ap np tp n2 aq nq tq) j).2.2.2) [Col.int .i64 fun j=>S.at' (S.divI n2 nq (fun j=>tq (j+aq)) (u550_e_0 n1 ap np tp n2 aq nq tq).1 (List.length (u550_e_0 n1 ap np tp n2 aq nq tq).2.2) fun j=>S.at' (u550_e_0 n1 ap np tp n2 aq nq tq).2.2 j).2.2.2 j]),(10,true,Blk.cols (List.length (S.divI n1 np (fun j=>tp (j+ap)) (u550_e_0 n1 ap np tp n2 aq nq tq).1 (List.length (u550_e_0 n1 ap np tp n2 aq nq tq).2.2) fun j=>S.at' (c550_e_4 n1 ap np tp n2 aq nq tq) j).2.2.2) [Col.int .i64 fun j=>S.at' (S.divI n1 np (fun j=>tp (j+ap)) (u550_e_0 n1 ap np tp n2 aq nq tq).1 (List.length (u550_e_0 n1 ap np tp n2 aq nq tq).2.2) fun j=>S.at' (u550_e_0 n1 ap np tp n2 aq nq tq).2.2 j).2.2.2 j])]]) (18)) (False)) (False)) (False))
theorem te550 (test:TT) (Kst:KS) (Kret:KR) (n1:Bool) (ap np mp:Nat) (tp:NI) (n2:Bool) (aq nq mq:Nat) (tq:NI):run test Tryz.env true (xR0 test) true 400 ⟨50,[.cd (mkFn Tryz.f50).body],argT 0 [.agg [.bool n1,.loose ⟨0,1,ap,0⟩ np],.agg [.bool n2,.loose ⟨1,1,aq,0⟩ nq]],[[],[(0,(false,.cols mp [.int .i64 tp])),(1,(false,.cols mq [.int .i64 tq]))]],2⟩ (proj 2 [] Kst Kret)=
  Te550 test Kst Kret n1 ap np mp tp n2 aq nq mq tq:=by kernel_rfl
noncomputable abbrev J550 (n1:Bool) (ap np mp:Nat) (tp:NI) (n2:Bool) (aq nq mq:Nat) (tq:NI):Rt550→Heap:=fun r=> [newL (2+1) ((N550 n1 ap np mp tp n2 aq nq mq tq) r)++ [(0,(false,.cols mp [.int .i64 tp])),(1,(false,.cols mq [.int .i64 tq]))]]
attribute [local irreducible] Int.subNatNat in
theorem be550 (n1:Bool) (ap np mp:Nat) (tp:NI) (n2:Bool) (aq nq mq:Nat) (tq:NI) (Kst:KS) (Kret:KR) (x:St550⊕Rt550) (hS:HS 2 400 ((I550 n1 ap np mp tp n2 aq nq mq tq)) Kst x) (hR:HR 2 400 ((V550 n1 ap np mp tp n2 aq nq mq tq)) (J550 n1 ap np mp tp n2 aq nq mq tq) Kret x) (h:p550 n1 ap np mp tp n2 aq nq mq tq=some x):Te550 cond Kst Kret n1 ap np mp tp n2 aq nq mq tq:=by
  unfold Te550
  unfold p550 at h
  exact bif_split h (fun c0 h=>bif_split h (fun c1 h=>bif_split h (fun c2 h=>bif_split h (fun c3 h=>bif_split h (fun c4 h=>bif_split h (fun c5 h=>ret_at hR _ h (fun n=>bif Nat.beq n 3 then 14 else bif Nat.beq n 4 then 19 else n) rfl rfl rfl (rn_agg ⟨(rn_bool rfl),(rn_own (use_own rfl) rfl rfl),(rn_bool rfl),(rn_own (use_own rfl) rfl rfl),trivial⟩) rfl (entl_new (use_own rfl) rfl (Nat.le_of_eq rfl) (rcs_int (fun _ _=>rfl) rcs_nil) (entl_new (use_own rfl) rfl (Nat.le_of_eq rfl) (rcs_int (fun _ _=>rfl) rcs_nil) (entl_bor (use_lo rfl) rfl rfl (entl_bor (use_lo rfl) rfl rfl entl_nil))))) (fun c5 h=>no_some h)) (fun c4 h=>no_some h)) (fun c3 h=>no_some h)) (fun c2 h=>no_some h)) (fun c1 h=>no_some h)) (fun c0 h=>bif_split h (fun c1 h=>bif_split h (fun c2 h=>bif_split h (fun c3 h=>ret_at hR _ h (fun n=>bif Nat.beq n 3 then 10 else bif Nat.beq n 4 then 15 else n) rfl rfl rfl (rn_agg ⟨(rn_bool rfl),(rn_own (use_own rfl) rfl rfl),(rn_bool rfl),(rn_own (use_own rfl) rfl rfl),trivial⟩) rfl (entl_new (use_own rfl) rfl (Nat.le_of_eq rfl) (rcs_int (fun _ _=>rfl) rcs_nil) (entl_new (use_own rfl) rfl (Nat.le_of_eq rfl) (rcs_int (fun _ _=>rfl) rcs_nil) (entl_bor (use_lo rfl) rfl rfl (entl_bor (use_lo rfl) rfl rfl entl_nil))))) (fun c3 h=>no_some h)) (fun c2 h=>no_some h)) (fun c1 h=>no_some h))
theorem a550 (n1:Bool) (ap np mp:Nat) (tp:NI) (n2:Bool) (aq nq mq:Nat) (tq:NI) {r:Rt550} (h:Goes ((q550 n1 ap np mp tp n2 aq nq mq tq)) ((p550 n1 ap np mp tp n2 aq nq mq tq)) r):CallR Tryz.prog 50 [.agg [.bool n1,.loose ⟨0,1,ap,0⟩ np],.agg [.bool n2,.loose ⟨1,1,aq,0⟩ nq]] [[(0,(false,.cols mp [.int .i64 tp])),(1,(false,.cols mq [.int .i64 tq]))]] 2 ((V550 n1 ap np mp tp n2 aq nq mq tq) r) ((J550 n1 ap np mp tp n2 aq nq mq tq) r) 400∧ ∃ F,Tryz.prog.funcs[50]? =some F∧F.body.isSome=true∧(F.name== "runtime.NumGoroutine")=false:=by
  refine dec_calls (f:=50) (lo:=2) (hi:=400) Tryz.envOk Tryz.mixed xR0_ok ((I550 n1 ap np mp tp n2 aq nq mq tq)) ((V550 n1 ap np mp tp n2 aq nq mq tq)) (J550 n1 ap np mp tp n2 aq nq mq tq) (fn:=mkFn Tryz.f50) (ts:= []) (n:=400) rfl (by decide) (by simp) (names_of rfl) ?_ ?_ ?_ h
  · intro s; exact s.elim
  · intro Kst Kret x hS hR h
    exact Holds.eq (te550 cond Kst Kret n1 ap np mp tp n2 aq nq mq tq) (be550 n1 ap np mp tp n2 aq nq mq tq Kst Kret x hS hR h)
  · intro Kst Kret x hS hR s h; exact s.elim
noncomputable abbrev w550 {α:Type} (g:Bool→Nat→Nat→Nat→(Nat→Int)→Bool→Nat→Nat→Nat→(Nat→Int)→α) (x:(Bool×(Nat×Nat×Nat×(Nat→Int)×Unit)×Unit)×(Bool×(Nat×Nat×Nat×(Nat→Int)×Unit)×Unit)×Unit):α:=g x.1.1 x.1.2.1.1 x.1.2.1.2.1 x.1.2.1.2.2.1 x.1.2.1.2.2.2.1 x.2.1.1 x.2.1.2.1.1 x.2.1.2.1.2.1 x.2.1.2.1.2.2.1 x.2.1.2.1.2.2.2.1
noncomputable def k550:Con:=⟨50,[.agg [.plain (.bool),.list [.int .i64]],.agg [.plain (.bool),.list [.int .i64]]],w550 (fun n1 ap np mp tp n2 aq nq mq tq=>decide (((ap+np≤mp∧np≤1000000)∧aq+nq≤mq∧nq≤1000000)∧S.okI n1 np (fun j=>tp (j+ap))=true∧S.okI n2 nq (fun j=>tq (j+aq))=true∧0<nq)),w550 (fun n1 ap np mp tp n2 aq nq mq tq=>(V550 n1 ap np mp tp n2 aq nq mq tq) ((S.redV (S.sv n1 (S.val np (fun j=>tp (j+ap)))) (S.sv n2 (S.val nq (fun j=>tq (j+aq))))).1,(S.redV (S.sv n1 (S.val np (fun j=>tp (j+ap)))) (S.sv n2 (S.val nq (fun j=>tq (j+aq))))).2.1,(S.redV (S.sv n1 (S.val np (fun j=>tp (j+ap)))) (S.sv n2 (S.val nq (fun j=>tq (j+aq))))).2.2.1,(S.redV (S.sv n1 (S.val np (fun j=>tp (j+ap)))) (S.sv n2 (S.val nq (fun j=>tq (j+aq))))).2.2.2)),w550 (fun n1 ap np mp tp n2 aq nq mq tq=>(N550 n1 ap np mp tp n2 aq nq mq tq) ((S.redV (S.sv n1 (S.val np (fun j=>tp (j+ap)))) (S.sv n2 (S.val nq (fun j=>tq (j+aq))))).1,(S.redV (S.sv n1 (S.val np (fun j=>tp (j+ap)))) (S.sv n2 (S.val nq (fun j=>tq (j+aq))))).2.1,(S.redV (S.sv n1 (S.val np (fun j=>tp (j+ap)))) (S.sv n2 (S.val nq (fun j=>tq (j+aq))))).2.2.1,(S.redV (S.sv n1 (S.val np (fun j=>tp (j+ap)))) (S.sv n2 (S.val nq (fun j=>tq (j+aq))))).2.2.2)),fun _ _=> .dead⟩
theorem s550 (n1:Bool) (ap np mp:Nat) (tp:Nat→Int) (n2:Bool) (aq nq mq:Nat) (tq:Nat→Int) (hp:((ap+np≤mp∧np≤1000000)∧aq+nq≤mq∧nq≤1000000)∧S.okI n1 np (fun j=>tp (j+ap))=true∧S.okI n2 nq (fun j=>tq (j+aq))=true∧0<nq):Goes ((q550 n1 ap np mp tp n2 aq nq mq tq)) ((p550 n1 ap np mp tp n2 aq nq mq tq)) (((S.redV (S.sv n1 (S.val np (fun j=>tp (j+ap)))) (S.sv n2 (S.val nq (fun j=>tq (j+aq))))).1,(S.redV (S.sv n1 (S.val np (fun j=>tp (j+ap)))) (S.sv n2 (S.val nq (fun j=>tq (j+aq))))).2.1,(S.redV (S.sv n1 (S.val np (fun j=>tp (j+ap)))) (S.sv n2 (S.val nq (fun j=>tq (j+aq))))).2.2.1,(S.redV (S.sv n1 (S.val np (fun j=>tp (j+ap)))) (S.sv n2 (S.val nq (fun j=>tq (j+aq))))).2.2.2)):=by
  obtain ⟨⟨⟨hp1,hp2⟩,hp3,hp4⟩,g1,g2,hn⟩:=hp
  have k1:=okG_D (okI_G g1).2
  have k2:=okG_D (okI_G g2).2
  have v1:=val_nn k1
  have v2:=val_pos (okI_G g2).2 hn
  have w1:=val_lt k1 (okI_G g1).1
  have w2:=val_lt k2 (okI_G g2).1
  have lg:=grp_le (gV_lt (n:=np) (t:=(fun j=>tp (j+ap))) g2 hn)
  cases n2
  · have hr:S.gcdS n1 np (fun j=>tp (j+ap)) false nq (fun j=>tq (j+aq))=(false,0,S.grp (S.gcdV (S.val np (fun j=>tp (j+ap))) (S.val nq (fun j=>tq (j+aq))))):=by unfold S.gcdS; rw [if_pos ⟨g1,g2⟩]
    have e1:=div_red1 g1 g2 hn
    have e2:=div_red2 g1 g2 hn
    unfold p550
    with_reducible refine goes_no rfl ?_
    with_reducible refine goes_ok (decide_eq_true ⟨⟨hp1,hp2⟩,hp3,hp4⟩) ?_
    simp only [-eq_self,c550_e_0,c550_e_1,c550_e_2,c550_e_3,c550_e_4,hr]
    with_reducible refine goes_ok (decide_eq_true ⟨⟨hp1,hp2⟩,by omega,by omega⟩) ?_
    with_reducible refine goes_ok (decide_eq_true ⟨⟨hp3,hp4⟩,by omega,by omega⟩) ?_
    rw [e1,e2]
    exact goes_inr.mpr rfl
  · have o1:=okI_S (ng:= !n1) v1 w1
    have o2:=okI_S (ng:=false) (Int.le_of_lt v2) w2
    have l1:=grp_le w1
    have l2:=grp_le w2
    have hr:S.gcdS (S.sgB (!n1) (S.val np (fun j=>tp (j+ap)))) (S.grp (S.val np (fun j=>tp (j+ap)))).length (fun j=>S.at' (S.grp (S.val np (fun j=>tp (j+ap)))) j) false (S.grp (S.val nq (fun j=>tq (j+aq)))).length (fun j=>S.at' (S.grp (S.val nq (fun j=>tq (j+aq)))) j)=(false,0,S.grp (S.gcdV (S.val np (fun j=>tp (j+ap))) (S.val nq (fun j=>tq (j+aq))))):=by
      unfold S.gcdS
      rw [if_pos ⟨o1.1,o2.1⟩,val_grpL v1,val_grpL (Int.le_of_lt v2)]
    have hl:0<(S.grp (S.val nq (fun j=>tq (j+aq)))).length:=len_pos v2
    have e1:=div_red1 o1.1 o2.1 hl
    have e2:=div_red2 o1.1 o2.1 hl
    have q2:S.sv (S.sgB false (S.val nq (fun j=>tq (j+aq)))) (S.val nq (fun j=>tq (j+aq)))= -(S.sv true (S.val nq (fun j=>tq (j+aq)))):=(Int.neg_neg _).symm
    rw [val_grpL v1,val_grpL (Int.le_of_lt v2),sv_sg v1,sv_neg,q2,rn_neg (by show-(S.val nq (fun j=>tq (j+aq)))≠0; omega)] at e1
    rw [val_grpL v1,val_grpL (Int.le_of_lt v2),sv_sg v1,sv_neg,q2,rd_neg] at e2
    have sf:S.sgB false (S.val nq (fun j=>tq (j+aq)))=false:=rfl
    rw [sf] at e1 e2
    unfold p550
    with_reducible refine goes_ok rfl ?_
    with_reducible refine goes_ok (decide_eq_true ⟨⟨hp1,hp2⟩,k1⟩) ?_
    with_reducible refine goes_ok (decide_eq_true ⟨⟨hp3,hp4⟩,k2⟩) ?_
    simp only [-eq_self,c550_e_0,c550_e_1,c550_e_2,c550_e_3,c550_e_4,Bool.not_true,sf,hr]
    with_reducible refine goes_ok (decide_eq_true ⟨⟨by omega,by omega⟩,by omega,by omega⟩) ?_
    with_reducible refine goes_ok (decide_eq_true ⟨⟨by omega,by omega⟩,by omega,by omega⟩) ?_
    with_reducible refine goes_ok (decide_eq_true ⟨⟨by omega,by omega⟩,by omega,by omega⟩) ?_
    rw [e1,e2]
    exact goes_inr.mpr rfl
theorem k550_ok:k550.ok Tryz.prog:=by
  intro x hx
  obtain ⟨⟨n1,⟨ap,np,mp,tp,_⟩,_⟩,⟨n2,⟨aq,nq,mq,tq,_⟩,_⟩,_⟩:=x
  obtain ⟨h1,h2⟩:=a550 n1 ap np mp tp n2 aq nq mq tq (s550 n1 ap np mp tp n2 aq nq mq tq (of_dec hx rfl))
  exact ⟨⟨400,(by decide:2+1+2≤400),h1⟩,h2⟩
noncomputable def xV (test:Bool→Prop→Prop→Prop):Ext:=consX test [k65,k65v,k61,k44,k73,k46,k18,k19,k32,k45]
theorem xV_ok:ExtOk Tryz.prog (xV cond):=consX_ok ⟨k65_ok,k65v_ok,k61_ok,k44_ok,k73_ok,k46_ok,k18_ok,k19_ok,k32_ok,k45_ok,trivial⟩
theorem valL_snoc {x:Int}: ∀ {L:List Int},S.valL (L++ [x])=S.valL L+S.pw L.length*x
  | []=>by simp only [List.nil_append,S.valL,List.length_nil,S.pw]; omega
  |y::L=>by
    simp only [List.cons_append,S.valL,List.length_cons,S.pw]
    rw [valL_snoc,Int.mul_add,Int.mul_assoc]
    omega
theorem tdm {m:Int}:((Int.tmod m 1000000<0∧ -Int.tmod m 1000000=(m.natAbs:Int) % 1000000)∨(0≤Int.tmod m 1000000∧Int.tmod m 1000000=(m.natAbs:Int) % 1000000))∧((Int.tdiv m 1000000).natAbs:Int)=(m.natAbs:Int) / 1000000∧(0≤m→0≤Int.tdiv m 1000000)∧(m≤0→Int.tdiv m 1000000≤0):=by
  by_cases h:0≤m
  · rw [tmB h,tdB h,Int.natAbs_of_nonneg h]
    refine ⟨.inr ⟨by omega,rfl⟩,?_,fun _=>by omega,fun _=>by omega⟩
    rw [Int.natAbs_of_nonneg (by omega)]
  · have e1:Int.tmod m 1000000= -((-m) % 1000000):=by
      rw [← tmB (x:= -m) (by omega),Int.neg_tmod,Int.neg_neg]
    have e2:Int.tdiv m 1000000= -((-m) / 1000000):=by
      rw [← tdB (x:= -m) (by omega),Int.neg_tdiv,Int.neg_neg]
    rw [e1,e2]
    have e3:(m.natAbs:Int)= -m:=by omega
    rw [e3]
    refine ⟨?_,by omega,fun _=>by omega,fun _=>by omega⟩
    by_cases h0:(-m) % 1000000=0
    · right; omega
    · left; omega
abbrev St14:=Empty
abbrev Rt14:=Bool×List Int
noncomputable def V14 (v:Int) (r:Rt14):PV:=PV.agg [PV.bool r.1,PV.own (1) (1) (List.length r.2)]
noncomputable def N14 (v:Int) (r:Rt14):List Blk:= [Blk.cols (List.length r.2) [Col.int .i64 fun j=>S.at' r.2 j]]
noncomputable def I14 (v:Int):St14→Hd:=fun s=>s.elim
noncomputable def q14 (v:Int):St14→Option (St14⊕Rt14):=fun s=>s.elim
noncomputable def p14 (v:Int):Option (St14⊕Rt14):=bif (decide (v<0)) then (bif (decide ((0:Int)≤IntKind.wrap .u64 (-IntKind.wrap .u64 v)∧IntKind.wrap .u64 (-IntKind.wrap .u64 v)≤9223372036854775808)) then (bif ((↑(List.length (S.grp (IntKind.wrap .u64 (-IntKind.wrap .u64 v)))):Int)==0) then (some (.inr (false,[]))) else (some (.inr (true,S.grp (IntKind.wrap .u64 (-IntKind.wrap .u64 v)))))) else (none)) else (bif (decide ((0:Int)≤IntKind.wrap .u64 v∧IntKind.wrap .u64 v≤9223372036854775808)) then (bif ((↑(List.length (S.grp (IntKind.wrap .u64 v))):Int)==0) then (some (.inr (false,[]))) else (some (.inr (false,S.grp (IntKind.wrap .u64 v))))) else (none))
noncomputable abbrev u14_e_0 (v:Int):=S.grp (IntKind.wrap .u64 (-IntKind.wrap .u64 v))
noncomputable abbrev u14_e_1 (v:Int):=List.length (S.grp (IntKind.wrap .u64 v))
noncomputable abbrev u14_e_2 (v:Int):=decide ((0:Int)≤IntKind.wrap .u64 (-IntKind.wrap .u64 v)∧IntKind.wrap .u64 (-IntKind.wrap .u64 v)≤9223372036854775808)
noncomputable def Te14 (test:TT) (Kst:KS) (Kret:KR) (v:Int):Prop:=test (decide (v<0)) (test (decide (v<0)) (test (u14_e_2 v) (test ((↑(List.length (u14_e_0 v)):Int)==0) (Kret (PV.agg [PV.tf false,PV.nils]) ([[]]) (4)) (Kret (PV.agg [PV.tf true,PV.own (2) (1) (List.length (u14_e_0 v))]) ([[(2,true,Blk.cols (List.length (u14_e_0 v)) [Col.int .i64 fun j=>S.at' (u14_e_0 v) j])]]) (4))) (False)) (test (u14_e_2 v) (test ((↑(List.length (u14_e_0 v)):Int)==0) (Kret (PV.agg [PV.tf false,PV.nils]) ([[]]) (4)) (Kret (PV.agg [PV.tf false,PV.own (2) (1) (List.length (u14_e_0 v))]) ([[(2,true,Blk.cols (List.length (u14_e_0 v)) [Col.int .i64 fun j=>S.at' (u14_e_0 v) j])]]) (4))) (False))) (test (decide (v<0)) (test (decide ((0:Int)≤IntKind.wrap .u64 v∧IntKind.wrap .u64 v≤9223372036854775808)) (test ((↑(u14_e_1 v):Int)==0) (Kret (PV.agg [PV.tf false,PV.nils]) ([[]]) (4)) (Kret (PV.agg [PV.tf true,PV.own (2) (1) (u14_e_1 v)]) ([[(2,true,Blk.cols (u14_e_1 v) [Col.int .i64 fun j=>S.at' (S.grp (IntKind.wrap .u64 v)) j])]]) (4))) (False)) (test (decide ((0:Int)≤IntKind.wrap .u64 v∧IntKind.wrap .u64 v≤9223372036854775808)) (test ((↑(u14_e_1 v):Int)==0) (Kret (PV.agg [PV.tf false,PV.nils]) ([[]]) (4)) (Kret (PV.agg [PV.tf false,PV.own (2) (1) (u14_e_1 v)]) ([[(2,true,Blk.cols (u14_e_1 v) [Col.int .i64 fun j=>S.at' (S.grp (IntKind.wrap .u64 v)) j])]]) (4))) (False)))
theorem te14 (test:TT) (Kst:KS) (Kret:KR) (v:Int):run test Tryz.env true (xV test) true 400 ⟨49,[.cd (mkFn Tryz.f49).body],argT 0 [.int .i64 v],[[],[]],0⟩ (proj 0 [] Kst Kret)=
  Te14 test Kst Kret v:=by kernel_rfl
attribute [local irreducible] Int.subNatNat in
theorem be14 (v:Int) (Kst:KS) (Kret:KR) (x:St14⊕Rt14) (hS:HS 0 400 ((I14 v)) Kst x) (hR:HR 0 400 ((V14 v)) (fun r=> [newL (0+1) ((N14 v) r)++ []]) Kret x) (h:p14 v=some x):Te14 cond Kst Kret v:=by
  unfold Te14
  unfold p14 at h
  refine bif_split h (fun c0 h=>cond_yes c0 (bif_split h (fun c1 h=>bif_split h (fun c2 h=> ?_) (fun c2 h=> ?_)) (fun c1 h=> ?_))) (fun c0 h=>cond_no c0 (bif_split h (fun c1 h=>bif_split h (fun c2 h=> ?_) (fun c2 h=> ?_)) (fun c1 h=> ?_)))
  all_goals first
    |exact ret_at hR _ h (fun n=>bif Nat.beq n 1 then 399 else n) rfl rfl rfl (rn_agg ⟨(rn_bool_tf rfl),(rn_own_nils rfl),trivial⟩) rfl (entl_fresh (use_own rfl) (fresh_ok rfl) entl_nil)
    |exact ret_at hR _ h (fun n=>bif Nat.beq n 1 then 2 else n) rfl rfl rfl (rn_agg ⟨(rn_bool_tf rfl),(rn_own (use_own rfl) rfl rfl),trivial⟩) rfl (entl_new (use_own rfl) rfl (Nat.le_of_eq rfl) (rcs_int (fun _ _=>rfl) rcs_nil) entl_nil)
    |exact no_some h
theorem a14 (v:Int) {r:Rt14} (h:Goes ((q14 v)) ((p14 v)) r):CallR Tryz.prog 49 [.int .i64 v] [[]] 0 ((V14 v) r) ((fun r=> [newL (0+1) ((N14 v) r)++ []]) r) 400∧ ∃ F,Tryz.prog.funcs[49]? =some F∧F.body.isSome=true∧(F.name== "runtime.NumGoroutine")=false:=by
  refine dec_calls (f:=49) (lo:=0) (hi:=400) Tryz.envOk Tryz.mixed xV_ok ((I14 v)) ((V14 v)) (fun r=> [newL (0+1) ((N14 v) r)++ []]) (fn:=mkFn Tryz.f49) (ts:= []) (n:=400) rfl (by decide) (by simp) (names_of rfl) ?_ ?_ ?_ h
  · intro s; exact s.elim
  · intro Kst Kret x hS hR h
    exact Holds.eq (te14 cond Kst Kret v) (be14 v Kst Kret x hS hR h)
  · intro Kst Kret x hS hR s h; exact s.elim
noncomputable abbrev w14 {α:Type} (g:Int→α) (x:Int×Unit):α:=g x.1
noncomputable def k14:Con:=⟨49,[.one (.plain (.int .i64))],w14 (fun v=>decide (-9223372036854775808≤v∧v≤9223372036854775807)),w14 (fun v=>(V14 v) ((S.bigI v).1,(S.bigI v).2)),w14 (fun v=>(N14 v) ((S.bigI v).1,(S.bigI v).2)),fun _ _=> .dead⟩
theorem s14 (v:Int) (hp: -9223372036854775808≤v∧v≤9223372036854775807):Goes ((q14 v)) ((p14 v)) (((S.bigI v).1,(S.bigI v).2)):=by
  unfold S.bigI
  by_cases h:v<0
  · have w:IntKind.u64.wrap (-IntKind.u64.wrap v)= -v:=by rw [IntKind.wrap_u64,IntKind.wrap_u64]; omega
    have e:((v.natAbs:Nat):Int)= -v:=by omega
    have l: ¬ (((S.grp (-v)).length:Int)==0)=true:=by
      have:=len_pos (v:= -v) (by omega)
      rw [beq_iff_eq]; omega
    unfold p14
    simp only [w,e,decide_eq_true h,cond_true,Bool.eq_false_iff.mpr l,cond_false]
    repeat' (first|with_reducible refine goes_if (fun h=> ?_) (fun h=> ?_)<;>(try simp only [SH] at h)|exact goes_none.mpr (by omega))
    all_goals first|(exfalso; omega)|exact goes_inr.mpr rfl
  · have w:IntKind.u64.wrap v=v:=by rw [IntKind.wrap_u64]; omega
    have e:((v.natAbs:Nat):Int)=v:=by omega
    unfold p14
    simp only [w,e,decide_eq_false h,cond_false]
    have hz:= @len_zero v
    by_cases h0:v=0
    · subst h0
      simp only [grp_zero,List.length_nil]
      repeat' (first|with_reducible refine goes_if (fun h=> ?_) (fun h=> ?_)<;>(try simp only [SH] at h)|exact goes_none.mpr (by omega))
      all_goals first|(exfalso; omega)|exact goes_inr.mpr rfl
    · have l: ¬ (((S.grp v).length:Int)==0)=true:=by
        have:=len_pos (v:=v) (by omega)
        rw [beq_iff_eq]; omega
      simp only [Bool.eq_false_iff.mpr l,cond_false]
      repeat' (first|with_reducible refine goes_if (fun h=> ?_) (fun h=> ?_)<;>(try simp only [SH] at h)|exact goes_none.mpr (by omega))
      all_goals first|(exfalso; omega)|exact goes_inr.mpr rfl
theorem k14_ok:k14.ok Tryz.prog:=by
  intro x hx
  obtain ⟨v,_⟩:=x
  obtain ⟨h1,h2⟩:=a14 v (s14 v (of_dec hx rfl))
  exact ⟨⟨400,(by decide:0+1+1≤400),h1⟩,h2⟩
inductive St21 where
  |h0 (x0:Int) (x1:List Int)
abbrev Rt21:=Bool×List Int
noncomputable def V21 (v:Int) (r:Rt21):PV:=PV.agg [PV.bool r.1,PV.own (1) (1) (List.length r.2)]
noncomputable def N21 (v:Int) (r:Rt21):List Blk:= [Blk.cols (List.length r.2) [Col.int .i64 fun j=>S.at' r.2 j]]
noncomputable def I21 (v:Int):St21→Hd
  | .h0 x0 x1=>⟨hd Tryz.f43 0,[PV.int .i64 v,PV.ptr (PA.mk (0) (0) (0) (0)),
 PV.own (1) (1) (List.length x1),PV.int .i64 x0],[[(0,(true,Blk.cells [PV.tf false,PV.nils])),(1,(true,Blk.cols (List.length x1) [Col.int .i64 fun j=>S.at' x1 j]))],[]],2⟩
noncomputable def q21 (v:Int):St21→Option (St21⊕Rt21)| .h0 x0 x1=>bif (x0 != 0) then (bif (decide (Int.tmod x0 (1000000:Int)<0)) then (bif (lim .i64 (-Int.tmod x0 (1000000:Int))) then (bif (decide (List.length x1+1≤1000000)) then (bif (decide (List.length x1≤List.length x1)) then (bif (lim .i64 (Int.tdiv x0 (1000000:Int))) then (some (.inl (.h0 (Int.tdiv x0 (1000000:Int)) (S.snoc x1 (-Int.tmod x0 (1000000:Int)))))) else (none)) else (none)) else (none)) else (none)) else (bif (decide (List.length x1+1≤1000000)) then (bif (decide (List.length x1≤List.length x1)) then (bif (lim .i64 (Int.tdiv x0 (1000000:Int))) then (some (.inl (.h0 (Int.tdiv x0 (1000000:Int)) (S.snoc x1 (Int.tmod x0 (1000000:Int)))))) else (none)) else (none)) else (none))) else (bif (decide (v<0)) then (bif (decide (0+List.length x1≤List.length x1∧List.length x1≤1000000∧(S.okD (List.length x1) fun j=>S.at' x1 j)=true)) then (some (.inr (S.sgB true (S.val (List.length x1) fun j=>S.at' x1 j),S.grp (S.val (List.length x1) fun j=>S.at' x1 j)))) else (none)) else (bif (decide (0+List.length x1≤List.length x1∧List.length x1≤1000000∧(S.okD (List.length x1) fun j=>S.at' x1 j)=true)) then (some (.inr (S.sgB false (S.val (List.length x1) fun j=>S.at' x1 j),S.grp (S.val (List.length x1) fun j=>S.at' x1 j)))) else (none)))
noncomputable def p21 (v:Int):Option (St21⊕Rt21):=some (.inl (.h0 (v) ([])))
noncomputable def Te21 (test:TT) (Kst:KS) (Kret:KR) (v:Int):Prop:=Kst (hd Tryz.f43 0) ([PV.int .i64 v,PV.ptr (PA.mk (0) (0) (0) (0)),PV.nils,PV.int .i64 v]) ([[(0,true,Blk.cells [PV.tf false,PV.nils])]]) (1)
theorem te21 (test:TT) (Kst:KS) (Kret:KR) (v:Int):run test Tryz.env true (xV test) true 400 ⟨43,[.cd (mkFn Tryz.f43).body],argT 0 [.int .i64 v],[[],[]],0⟩ (proj 0 [0,2,3,4] Kst Kret)=
  Te21 test Kst Kret v:=by kernel_rfl
noncomputable abbrev u21_0_0 (x1:List Int):=S.val (List.length x1) fun j=>S.at' x1 j
noncomputable def T21_0 (test:TT) (Kst:KS) (Kret:KR) (v:Int) (x0:Int) (x1:List Int):Prop:=test (x0 != 0) (test (false) (False) (test (decide (Int.tmod x0 (1000000:Int)<0)) (test (lim .i64 (-Int.tmod x0 (1000000:Int))) (test (decide (List.length x1+1≤1000000)) (test (decide (List.length x1≤List.length x1)) (test (true) (test (false) (False) (test (lim .i64 (Int.tdiv x0 (1000000:Int))) (Kst (hd Tryz.f43 0) ([PV.int .i64 v,PV.ptr (PA.mk (0) (0) (0) (0)),PV.own (3) (1) (List.length x1+1),PV.int .i64 (Int.tdiv x0 (1000000:Int))]) ([[(3,true,Blk.cols (List.length x1+1) [Col.int .i64 fun j=>bif Nat.blt j (List.length x1) then S.at' x1 j else-Int.tmod x0 (1000000:Int)]),(0,true,Blk.cells [PV.tf false,PV.nils])]]) (4)) (False))) (False)) (False)) (False)) (False)) (test (decide (List.length x1+1≤1000000)) (test (decide (List.length x1≤List.length x1)) (test (true) (test (false) (False) (test (lim .i64 (Int.tdiv x0 (1000000:Int))) (Kst (hd Tryz.f43 0) ([PV.int .i64 v,PV.ptr (PA.mk (0) (0) (0) (0)),PV.own (3) (1) (List.length x1+1),PV.int .i64 (Int.tdiv x0 (1000000:Int))]) ([[(3,true,Blk.cols (List.length x1+1) [Col.int .i64 fun j=>bif Nat.blt j (List.length x1) then S.at' x1 j else Int.tmod x0 (1000000:Int)]),(0,true,Blk.cells [PV.tf false,PV.nils])]]) (4)) (False))) (False)) (False)) (False)))) (test (decide (v<0)) (test (decide (0+List.length x1≤List.length x1∧List.length x1≤1000000∧(S.okD (List.length x1) fun j=>S.at' x1 j)=true)) (Kret (PV.agg [PV.bool (S.sgB true (u21_0_0 x1)),PV.own (3) (1) (List.length (S.grp (u21_0_0 x1)))]) ([[(3,true,Blk.cols (List.length (S.grp (u21_0_0 x1))) [Col.int .i64 fun j=>S.at' (S.grp (u21_0_0 x1)) j])]]) (4)) (False)) (test (decide (0+List.length x1≤List.length x1∧List.length x1≤1000000∧(S.okD (List.length x1) fun j=>S.at' x1 j)=true)) (Kret (PV.agg [PV.bool (S.sgB false (u21_0_0 x1)),PV.own (3) (1) (List.length (S.grp (u21_0_0 x1)))]) ([[(3,true,Blk.cols (List.length (S.grp (u21_0_0 x1))) [Col.int .i64 fun j=>S.at' (S.grp (u21_0_0 x1)) j])]]) (4)) (False)))
theorem t21_0 (test:TT) (Kst:KS) (Kret:KR) (v x0:Int) (x1:List Int):run test Tryz.env true (xV test) true 400 ⟨43,hd Tryz.f43 0,zipT [0,2,3,4] [PV.int .i64 v,PV.ptr (PA.mk (0) (0) (0) (0)),
 PV.own (1) (1) (List.length x1),PV.int .i64 x0],[[(0,(true,Blk.cells [PV.tf false,PV.nils])),(1,(true,Blk.cols (List.length x1) [Col.int .i64 fun j=>S.at' x1 j]))],[]],2⟩ (proj 0 [0,2,3,4] Kst Kret)=
  T21_0 test Kst Kret v x0 x1:=by kernel_rfl
noncomputable abbrev J21 (v:Int):Rt21→Heap:=fun r=> [newL (0+1) ((N21 v) r)++ []]
attribute [local irreducible] Int.subNatNat in
theorem be21 (v:Int) (Kst:KS) (Kret:KR) (x:St21⊕Rt21) (hS:HS 0 400 ((I21 v)) Kst x) (hR:HR 0 400 ((V21 v)) (J21 v) Kret x) (h:(some (.inl (.h0 (v) ([]))):Option (St21⊕Rt21))=some x):Te21 cond Kst Kret v:=by
  unfold Te21
  exact stop_at hS _ h (fun n=>bif Nat.beq n 0 then 0 else bif Nat.beq n 1 then 399 else n) rfl rfl rfl ⟨(rn_int rfl),⟨(rn_ptr (use_own rfl) rfl rfl),⟨(rn_own_nils rfl),⟨(rn_int rfl),trivial⟩⟩⟩⟩ rfl (entl_b (use_own rfl) rfl (by simp) (rb_cells ⟨(rn_tf rfl),rn_nils,trivial⟩) (entl_fresh (use_own rfl) (fresh_ok rfl) entl_nil))
attribute [local irreducible] Int.subNatNat in
theorem b21_0 (v:Int) (Kst:KS) (Kret:KR) (x:St21⊕Rt21) (hS:HS 0 400 ((I21 v)) Kst x) (hR:HR 0 400 ((V21 v)) (J21 v) Kret x) (x0:Int) (x1:List Int) (h:q21 v (.h0 x0 x1)=some x):T21_0 cond Kst Kret v x0 x1:=by
  unfold T21_0
  rw [q21] at h
  refine bif_split h (fun c0 h=>cond_no rfl (bif_split h (fun c1 h=>bif_split h (fun c2 h=>bif_split h (fun c3 h=>bif_split h (fun c4 h=>cond_yes rfl (cond_no rfl (bif_split h (fun c5 h=> ?_) (fun c5 h=> ?_)))) (fun c4 h=> ?_)) (fun c3 h=> ?_)) (fun c2 h=> ?_)) (fun c1 h=>bif_split h (fun c2 h=>bif_split h (fun c3 h=>cond_yes rfl (cond_no rfl (bif_split h (fun c4 h=> ?_) (fun c4 h=> ?_)))) (fun c3 h=> ?_)) (fun c2 h=> ?_)))) (fun c0 h=>bif_split h (fun c1 h=>bif_split h (fun c2 h=> ?_) (fun c2 h=> ?_)) (fun c1 h=>bif_split h (fun c2 h=> ?_) (fun c2 h=> ?_)))
  all_goals first
    |exact no_some h
    |exact stop_at hS _ h (fun n=>bif Nat.beq n 0 then 0 else bif Nat.beq n 1 then 3 else n) rfl rfl rfl ⟨(rn_int rfl),⟨(rn_ptr (use_own rfl) rfl rfl),⟨(rn_own (use_own rfl) rfl (snoc_len' rfl)),⟨(rn_int rfl),trivial⟩⟩⟩⟩ rfl (entl_b (use_own rfl) rfl (by simp) (rb_cells ⟨(rn_tf rfl),rn_nils,trivial⟩) (entl_new (use_own rfl) rfl (Nat.le_of_eq (snoc_len' rfl)) (rcs_int (col_snoc' (fun (t:Int)=>t) rfl (fun _ _=>rfl)) rcs_nil) entl_nil))
    |exact ret_at hR _ h (fun n=>bif Nat.beq n 1 then 3 else n) rfl rfl rfl (rn_agg ⟨(rn_bool rfl),(rn_own (use_own rfl) rfl rfl),trivial⟩) rfl (entl_new (use_own rfl) rfl (Nat.le_of_eq rfl) (rcs_int (fun _ _=>rfl) rcs_nil) entl_nil)
theorem a21 (v:Int) {r:Rt21} (h:Goes ((q21 v)) ((p21 v)) r):CallR Tryz.prog 43 [.int .i64 v] [[]] 0 ((V21 v) r) ((J21 v) r) 400∧ ∃ F,Tryz.prog.funcs[43]? =some F∧F.body.isSome=true∧(F.name== "runtime.NumGoroutine")=false:=by
  refine dec_calls (f:=43) (lo:=0) (hi:=400) Tryz.envOk Tryz.mixed xV_ok ((I21 v)) ((V21 v)) (J21 v) (fn:=mkFn Tryz.f43) (ts:= [0,2,3,4]) (n:=400) rfl (by decide) (by simp) (names_of rfl) ?_ ?_ ?_ h
  · intro s; cases s<;>exact ⟨hd_ok _ _,by simp [I21],names_of rfl,Nat.le_of_ble_eq_true rfl⟩
  · intro Kst Kret x hS hR h
    exact Holds.eq (te21 cond Kst Kret v) (be21 v Kst Kret x hS hR h)
  · intro Kst Kret x hS hR s h
    cases s with
    |h0 x0 x1=>exact Holds.eq (t21_0 cond Kst Kret v x0 x1) (b21_0 v Kst Kret x hS hR x0 x1 h)
noncomputable abbrev w21 {α:Type} (g:Int→α) (x:Int×Unit):α:=g x.1
noncomputable def k21:Con:=⟨43,[.one (.plain (.int .i64))],w21 (fun v=>decide (-9223372036854775808≤v∧v≤9223372036854775807)),w21 (fun v=>(V21 v) ((S.bigI v).1,(S.bigI v).2)),w21 (fun v=>(N21 v) ((S.bigI v).1,(S.bigI v).2)),fun _ _=> .dead⟩
theorem s21' (v:Int) (hp: -9223372036854775808≤v∧v≤9223372036854775807): ∀ (k:Nat) (m:Int) (L:List Int),(m.natAbs:Int)<S.pw k→L.length+k≤1000→(∀ x ∈ L,0≤x∧x<1000000)→S.valL L+S.pw L.length*(m.natAbs:Int)=(v.natAbs:Int)→((v<0∧m≤0)∨(0≤v∧0≤m))→(-9223372036854775808≤m∧m≤9223372036854775807)→Comes (q21 v) (.h0 m L) ((S.bigI v).1,(S.bigI v).2):=by
  have fin: ∀ (L:List Int),L.length≤1000→(∀ x ∈ L,0≤x∧x<1000000)→S.valL L=(v.natAbs:Int)→Comes (q21 v) (.h0 0 L) ((S.bigI v).1,(S.bigI v).2):=fun L hl hd hv=>by
    have hvL:(S.val L.length fun j=>S.at' L j)=(v.natAbs:Int):=by have:=val_at (L:=L); exact this.trans hv
    have c1:0+L.length≤L.length∧L.length≤1000000∧(S.okD L.length fun j=>S.at' L j)=true:=⟨by omega,by omega,okD_iff.mpr fun j hj=>hd _ (by rw [at_lt hj]; exact List.getElem_mem _)⟩
    unfold S.bigI
    apply Comes.of
    show Goes _ _ _
    rw [q21]
    refine goes_no rfl ?_
    by_cases h:v<0
    · have hs:S.sgB true (v.natAbs:Int)=true:=by unfold S.sgB; rw [decide_eq_true (by omega)]; rfl
      simp only [decide_eq_true h,cond_true,decide_eq_true c1,hvL,hs]
      exact goes_inr.mpr rfl
    · have hs:S.sgB false (v.natAbs:Int)=false:=rfl
      simp only [decide_eq_false h,cond_false,decide_eq_true c1,cond_true,hvL,hs]
      exact goes_inr.mpr rfl
  intro k
  induction k with
  |zero=>
    intro m L h1 hl hd hv hs hm
    have h1:(m.natAbs:Int)<1:=h1
    obtain rfl:m=0:=by omega
    exact fin L (by omega) hd (by rw [← hv]; simp)
  | succ k ih=>
    intro m L h1 hl hd hv hs hm
    have h1:(m.natAbs:Int)<1000000*S.pw k:=h1
    by_cases h0:m=0
    · subst h0
      exact fin L (by omega) hd (by rw [← hv]; simp)
    · obtain ⟨t1,t2,t3,t4⟩:=tdm (m:=m)
      have hn:(m.natAbs:Int)=(m.natAbs:Int) % 1000000+1000000*((m.natAbs:Int) / 1000000):=by omega
      have hd0:0≤(m.natAbs:Int) % 1000000∧(m.natAbs:Int) % 1000000<1000000:=by omega
      have hv':S.valL L+S.pw L.length*((m.natAbs:Int) % 1000000)+S.pw (L.length+1)*((m.natAbs:Int) / 1000000)=(v.natAbs:Int):=by
        rw [← hv]
        have:S.pw (L.length+1)=1000000*S.pw L.length:=rfl
        rw [this]
        generalize S.pw L.length=P at*
        generalize (m.natAbs:Int) % 1000000=r at*
        generalize (m.natAbs:Int) / 1000000=d at*
        rw [hn,Int.mul_add,Int.mul_left_comm P 1000000 d,Int.mul_assoc]
        omega
      have ih:=ih (Int.tdiv m 1000000) (S.snoc L ((m.natAbs:Int) % 1000000)) (by rw [t2]; omega) (by rw [snoc_len]; omega)
        (by
          intro x hx
          rw [snoc_eq] at hx
          rcases List.mem_append.mp hx with hx|hx
          · exact hd x hx
          · rw [List.mem_singleton] at hx; subst hx; exact hd0)
        (by rw [snoc_eq,valL_snoc,t2,List.length_append]; exact hv')
        (by omega) (by omega)
      have hm0:(m != 0)=true:=by simpa using h0
      apply Comes.of
      show Goes _ _ _
      rw [q21]
      simp only [hm0,cond_true]
      clear hv hv' hn
      rcases t1 with ⟨t1,t5⟩|⟨t1,t5⟩
      · simp only [decide_eq_true t1,cond_true,t5]
        generalize (m.natAbs:Int) % 1000000=r at*
        repeat' (first|with_reducible refine goes_if (fun h=> ?_) (fun h=> ?_)<;>(try simp only [SH] at h)|exact goes_none.mpr (by omega))
        all_goals first|(exfalso; omega)|exact ih
      · simp only [decide_eq_false (show ¬ Int.tmod m 1000000<0 by omega),cond_false,t5]
        generalize (m.natAbs:Int) % 1000000=r at*
        repeat' (first|with_reducible refine goes_if (fun h=> ?_) (fun h=> ?_)<;>(try simp only [SH] at h)|exact goes_none.mpr (by omega))
        all_goals first|(exfalso; omega)|exact ih
theorem s21 (v:Int) (hp: -9223372036854775808≤v∧v≤9223372036854775807):Goes ((q21 v)) ((p21 v)) (((S.bigI v).1,(S.bigI v).2)):=by
  exact s21' v hp 4 v [] (by have:S.pw 4=1000000000000000000000000:=rfl; omega) (by decide) (fun x hx=>by cases hx) (by show (0:Int)+1*_=_; omega) (by omega) hp
theorem k21_ok:k21.ok Tryz.prog:=by
  intro x hx
  obtain ⟨v,_⟩:=x
  obtain ⟨h1,h2⟩:=a21 v (s21 v (of_dec hx rfl))
  exact ⟨⟨400,(by decide:0+1+1≤400),h1⟩,h2⟩
noncomputable def xR2 (test:Bool→Prop→Prop→Prop):Ext:=consX test [k18,k19,k34,k35,k14,k21,k541,k556]
theorem xR2_ok:ExtOk Tryz.prog (xR2 cond):=consX_ok ⟨k18_ok,k19_ok,k34_ok,k35_ok,k14_ok,k21_ok,k541_ok,k556_ok,trivial⟩
theorem grp_one1 {G:Int} (h0:0≤G) (h:(S.grp G).length=1):S.at' (S.grp G) 0=G:=by
  have hv:=val_grp h0
  match hL:S.grp G,h with
  | [x],_=>
    rw [hL] at hv
    simp only [S.valL] at hv
    show x=G
    omega
theorem gcd_dec {a c:Int}:decide (Int.gcd a c=1)=decide (S.gcdV a c=1):=by
  unfold S.gcdV
  rw [Bool.eq_iff_iff,decide_eq_true_eq,decide_eq_true_eq]
  omega
theorem gcdV_one {a:Int}:S.gcdV a 1=1:=by
  unfold S.gcdV
  rw [Int.gcd_one]; rfl
noncomputable abbrev c522_e_0 (mp:Nat) (tp:NI) (mq:Nat) (tq:NI):=([[(1,false,Blk.cols mq [Col.int .i64 tq]),(0,false,Blk.cols mp [Col.int .i64 tp])]])
abbrev St522:=Empty
abbrev Rt522:=Bool
noncomputable def V522 (n1:Bool) (ap np mp:Nat) (tp:NI) (n2:Bool) (aq nq mq:Nat) (tq:NI) (r:Rt522):PV:=PV.bool r
noncomputable def N522 (n1:Bool) (ap np mp:Nat) (tp:NI) (n2:Bool) (aq nq mq:Nat) (tq:NI) (r:Rt522):List Blk:= []
noncomputable def I522 (n1:Bool) (ap np mp:Nat) (tp:NI) (n2:Bool) (aq nq mq:Nat) (tq:NI):St522→Hd:=fun s=>s.elim
noncomputable def q522 (n1:Bool) (ap np mp:Nat) (tp:NI) (n2:Bool) (aq nq mq:Nat) (tq:NI):St522→Option (St522⊕Rt522):=fun s=>s.elim
noncomputable def p522 (n1:Bool) (ap np mp:Nat) (tp:NI) (n2:Bool) (aq nq mq:Nat) (tq:NI):Option (St522⊕Rt522):=bif (decide (ap+np≤mp∧np≤1000000)) then (bif (S.okI n1 np fun j=>tp (j+ap)) then (bif (decide (aq+nq≤mq∧nq≤1000000)) then (bif (S.okI n2 nq fun j=>tq (j+aq)) then (bif (n2) then (some (.inr (false))) else (bif ((↑nq:Int)==0) then (some (.inr (false))) else (bif ((↑nq:Int)==1) then (bif (decide ((0:Int)≤0∧(0:Int)<(↑nq:Int))) then (bif (decide (0+aq<mq)) then (bif (tq (0+aq)==1) then (some (.inr (true))) else (bif (decide ((ap+np≤mp∧np≤1000000)∧aq+nq≤mq∧nq≤1000000)) then (bif ((S.gcdS n1 np (fun j=>tp (j+ap)) n2 nq fun j=>tq (j+aq)).2.1==0) then (bif ((↑(List.length ((S.gcdS n1 np (fun j=>tp (j+ap)) n2 nq fun j=>tq (j+aq)).2.2)):Int)==1) then (bif (decide ((0:Int)≤0∧(0:Int)<(↑(List.length (Prod.snd ((S.gcdS n1 np (fun j=>tp (j+ap)) n2 nq fun j=>tq (j+aq)).2))):Int))) then (bif (decide (0<List.length ((S.gcdS n1 np (fun j=>tp (j+ap)) n2 nq fun j=>tq (j+aq)).2.2))) then (bif (S.at' ((S.gcdS n1 np (fun j=>tp (j+ap)) n2 nq fun j=>tq (j+aq)).2.2) (0)==1) then (some (.inr (true))) else (some (.inr (false)))) else (none)) else (none)) else (some (.inr (false)))) else (some (.inr (false)))) else (none))) else (none)) else (none)) else (bif (decide ((ap+np≤mp∧np≤1000000)∧aq+nq≤mq∧nq≤1000000)) then (bif ((S.gcdS n1 np (fun j=>tp (j+ap)) n2 nq fun j=>tq (j+aq)).2.1==0) then (bif ((↑(List.length ((S.gcdS n1 np (fun j=>tp (j+ap)) n2 nq fun j=>tq (j+aq)).2.2)):Int)==1) then (bif (decide ((0:Int)≤0∧(0:Int)<(↑(List.length (Prod.snd ((S.gcdS n1 np (fun j=>tp (j+ap)) n2 nq fun j=>tq (j+aq)).2))):Int))) then (bif (decide (0<List.length ((S.gcdS n1 np (fun j=>tp (j+ap)) n2 nq fun j=>tq (j+aq)).2.2))) then (bif (S.at' ((S.gcdS n1 np (fun j=>tp (j+ap)) n2 nq fun j=>tq (j+aq)).2.2) (0)==1) then (some (.inr (true))) else (some (.inr (false)))) else (none)) else (none)) else (some (.inr (false)))) else (some (.inr (false)))) else (none))))) else (some (.inr (false)))) else (none)) else (some (.inr (false)))) else (none)
noncomputable abbrev u522_e_0 (n1:Bool) (ap np:Nat) (tp:NI) (n2:Bool) (aq nq:Nat) (tq:NI):=S.gcdS n1 np (fun j=>tp (j+ap)) n2 nq fun j=>tq (j+aq)
noncomputable def Te522 (test:TT) (Kst:KS) (Kret:KR) (n1:Bool) (ap np mp:Nat) (tp:NI) (n2:Bool) (aq nq mq:Nat) (tq:NI):Prop:=test (decide (ap+np≤mp∧np≤1000000)) (test (S.okI n1 np fun j=>tp (j+ap)) (test (decide (aq+nq≤mq∧nq≤1000000)) (test (S.okI n2 nq fun j=>tq (j+aq)) (test (n2) (Kret (PV.tf false) (c522_e_0 mp tp mq tq) (5)) (test ((↑nq:Int)==0) (Kret (PV.tf false) (c522_e_0 mp tp mq tq) (6)) (test ((↑nq:Int)==1) (test (decide ((0:Int)≤0∧(0:Int)<(↑nq:Int))) (test (decide (0+aq<mq)) (test (tq (0+aq)==1) (test (n2) (test (decide ((ap+np≤mp∧np≤1000000)∧aq+nq≤mq∧nq≤1000000)) (test ((u522_e_0 n1 ap np tp n2 aq nq tq).2.1==0) (test ((↑(List.length (u522_e_0 n1 ap np tp n2 aq nq tq).2.2):Int)==1) (test (decide ((0:Int)≤0∧(0:Int)<(↑(List.length (u522_e_0 n1 ap np tp n2 aq nq tq).2.2):Int))) (test (decide (0<List.length (u522_e_0 n1 ap np tp n2 aq nq tq).2.2)) (test (S.at' (u522_e_0 n1 ap np tp n2 aq nq tq).2.2 (0)==1) (Kret (PV.tf true) (c522_e_0 mp tp mq tq) (13)) (Kret (PV.tf false) (c522_e_0 mp tp mq tq) (13))) (False)) (False)) (Kret (PV.tf false) (c522_e_0 mp tp mq tq) (13))) (Kret (PV.tf false) (c522_e_0 mp tp mq tq) (12))) (False)) (Kret (PV.tf true) (c522_e_0 mp tp mq tq) (7))) (test (decide ((ap+np≤mp∧np≤1000000)∧aq+nq≤mq∧nq≤1000000)) (test ((u522_e_0 n1 ap np tp n2 aq nq tq).2.1==0) (test ((↑(List.length (u522_e_0 n1 ap np tp n2 aq nq tq).2.2):Int)==1) (test (decide ((0:Int)≤0∧(0:Int)<(↑(List.length (u522_e_0 n1 ap np tp n2 aq nq tq).2.2):Int))) (test (decide (0<List.length (u522_e_0 n1 ap np tp n2 aq nq tq).2.2)) (test (S.at' (u522_e_0 n1 ap np tp n2 aq nq tq).2.2 (0)==1) (Kret (PV.tf true) (c522_e_0 mp tp mq tq) (13)) (Kret (PV.tf false) (c522_e_0 mp tp mq tq) (13))) (False)) (False)) (Kret (PV.tf false) (c522_e_0 mp tp mq tq) (13))) (Kret (PV.tf false) (c522_e_0 mp tp mq tq) (12))) (False))) (False)) (False)) (test (decide ((ap+np≤mp∧np≤1000000)∧aq+nq≤mq∧nq≤1000000)) (test ((u522_e_0 n1 ap np tp n2 aq nq tq).2.1==0) (test ((↑(List.length (u522_e_0 n1 ap np tp n2 aq nq tq).2.2):Int)==1) (test (decide ((0:Int)≤0∧(0:Int)<(↑(List.length (u522_e_0 n1 ap np tp n2 aq nq tq).2.2):Int))) (test (decide (0<List.length (u522_e_0 n1 ap np tp n2 aq nq tq).2.2)) (test (S.at' (u522_e_0 n1 ap np tp n2 aq nq tq).2.2 (0)==1) (Kret (PV.tf true) (c522_e_0 mp tp mq tq) (13)) (Kret (PV.tf false) (c522_e_0 mp tp mq tq) (13))) (False)) (False)) (Kret (PV.tf false) (c522_e_0 mp tp mq tq) (13))) (Kret (PV.tf false) (c522_e_0 mp tp mq tq) (12))) (False))))) (Kret (PV.tf false) (c522_e_0 mp tp mq tq) (5))) (False)) (Kret (PV.tf false) (c522_e_0 mp tp mq tq) (4))) (False)
theorem te522 (test:TT) (Kst:KS) (Kret:KR) (n1:Bool) (ap np mp:Nat) (tp:NI) (n2:Bool) (aq nq mq:Nat) (tq:NI):run test Tryz.env true (xR2 test) true 400 ⟨22,[.cd (mkFn Tryz.f22).body],argT 0 [.agg [.bool n1,.loose ⟨0,1,ap,0⟩ np,.bool n2,.loose ⟨1,1,aq,0⟩ nq]],[[],[(0,(false,.cols mp [.int .i64 tp])),(1,(false,.cols mq [.int .i64 tq]))]],2⟩ (proj 2 [] Kst Kret)=
  Te522 test Kst Kret n1 ap np mp tp n2 aq nq mq tq:=by kernel_rfl
noncomputable abbrev J522 (n1:Bool) (ap np mp:Nat) (tp:NI) (n2:Bool) (aq nq mq:Nat) (tq:NI):Rt522→Heap:=fun r=> [newL (2+1) ((N522 n1 ap np mp tp n2 aq nq mq tq) r)++ [(0,(false,.cols mp [.int .i64 tp])),(1,(false,.cols mq [.int .i64 tq]))]]
attribute [local irreducible] Int.subNatNat in
theorem be522 (n1:Bool) (ap np mp:Nat) (tp:NI) (n2:Bool) (aq nq mq:Nat) (tq:NI) (Kst:KS) (Kret:KR) (x:St522⊕Rt522) (hS:HS 2 400 ((I522 n1 ap np mp tp n2 aq nq mq tq)) Kst x) (hR:HR 2 400 ((V522 n1 ap np mp tp n2 aq nq mq tq)) (J522 n1 ap np mp tp n2 aq nq mq tq) Kret x) (h:p522 n1 ap np mp tp n2 aq nq mq tq=some x):Te522 cond Kst Kret n1 ap np mp tp n2 aq nq mq tq:=by
  unfold Te522
  unfold p522 at h
  refine bif_split h (fun c0 h=>bif_split h (fun c1 h=>bif_split h (fun c2 h=>bif_split h (fun c3 h=>bif_split h (fun c4 h=> ?_) (fun c4 h=>bif_split h (fun c5 h=> ?_) (fun c5 h=>bif_split h (fun c6 h=>bif_split h (fun c7 h=>bif_split h (fun c8 h=>bif_split h (fun c9 h=>cond_no c4 (ret_at hR _ h (fun n=>n) rfl rfl rfl (rn_bool_tf rfl) rfl (entl_bor (use_lo rfl) rfl rfl (entl_bor (use_lo rfl) rfl rfl entl_nil)))) (fun c9 h=>bif_split h (fun c10 h=>bif_split h (fun c11 h=>bif_split h (fun c12 h=>bif_split h (fun c13 h=>bif_split h (fun c14 h=>bif_split h (fun c15 h=> ?_) (fun c15 h=> ?_)) (fun c14 h=> ?_)) (fun c13 h=> ?_)) (fun c12 h=> ?_)) (fun c11 h=> ?_)) (fun c10 h=> ?_))) (fun c8 h=> ?_)) (fun c7 h=> ?_)) (fun c6 h=>bif_split h (fun c7 h=>bif_split h (fun c8 h=>bif_split h (fun c9 h=>bif_split h (fun c10 h=>bif_split h (fun c11 h=>bif_split h (fun c12 h=> ?_) (fun c12 h=> ?_)) (fun c11 h=> ?_)) (fun c10 h=> ?_)) (fun c9 h=> ?_)) (fun c8 h=> ?_)) (fun c7 h=> ?_))))) (fun c3 h=> ?_)) (fun c2 h=> ?_)) (fun c1 h=> ?_)) (fun c0 h=> ?_)
  all_goals first
    |exact ret_at hR _ h (fun n=>n) rfl rfl rfl (rn_bool_tf rfl) rfl (entl_bor (use_lo rfl) rfl rfl (entl_bor (use_lo rfl) rfl rfl entl_nil))
    |exact no_some h
theorem a522 (n1:Bool) (ap np mp:Nat) (tp:NI) (n2:Bool) (aq nq mq:Nat) (tq:NI) {r:Rt522} (h:Goes ((q522 n1 ap np mp tp n2 aq nq mq tq)) ((p522 n1 ap np mp tp n2 aq nq mq tq)) r):CallR Tryz.prog 22 [.agg [.bool n1,.loose ⟨0,1,ap,0⟩ np,.bool n2,.loose ⟨1,1,aq,0⟩ nq]] [[(0,(false,.cols mp [.int .i64 tp])),(1,(false,.cols mq [.int .i64 tq]))]] 2 ((V522 n1 ap np mp tp n2 aq nq mq tq) r) ((J522 n1 ap np mp tp n2 aq nq mq tq) r) 400∧ ∃ F,Tryz.prog.funcs[22]? =some F∧F.body.isSome=true∧(F.name== "runtime.NumGoroutine")=false:=by
  refine dec_calls (f:=22) (lo:=2) (hi:=400) Tryz.envOk Tryz.mixed xR2_ok ((I522 n1 ap np mp tp n2 aq nq mq tq)) ((V522 n1 ap np mp tp n2 aq nq mq tq)) (J522 n1 ap np mp tp n2 aq nq mq tq) (fn:=mkFn Tryz.f22) (ts:= []) (n:=400) rfl (by decide) (by simp) (names_of rfl) ?_ ?_ ?_ h
  · intro s; exact s.elim
  · intro Kst Kret x hS hR h
    exact Holds.eq (te522 cond Kst Kret n1 ap np mp tp n2 aq nq mq tq) (be522 n1 ap np mp tp n2 aq nq mq tq Kst Kret x hS hR h)
  · intro Kst Kret x hS hR s h; exact s.elim
noncomputable abbrev w522 {α:Type} (g:Bool→Nat→Nat→Nat→(Nat→Int)→Bool→Nat→Nat→Nat→(Nat→Int)→α) (x:(Bool×(Nat×Nat×Nat×(Nat→Int)×Unit)×Bool×(Nat×Nat×Nat×(Nat→Int)×Unit)×Unit)×Unit):α:=g x.1.1 x.1.2.1.1 x.1.2.1.2.1 x.1.2.1.2.2.1 x.1.2.1.2.2.2.1 x.1.2.2.1 x.1.2.2.2.1.1 x.1.2.2.2.1.2.1 x.1.2.2.2.1.2.2.1 x.1.2.2.2.1.2.2.2.1
noncomputable def k522:Con:=⟨22,[.agg [.plain (.bool),.list [.int .i64],.plain (.bool),.list [.int .i64]]],w522 (fun n1 ap np mp tp n2 aq nq mq tq=>decide ((ap+np≤mp∧np≤1000000)∧aq+nq≤mq∧nq≤1000000)),w522 (fun n1 ap np mp tp n2 aq nq mq tq=>(V522 n1 ap np mp tp n2 aq nq mq tq) (S.okR n1 np (fun j=>tp (j+ap)) n2 nq (fun j=>tq (j+aq)))),w522 (fun n1 ap np mp tp n2 aq nq mq tq=>(N522 n1 ap np mp tp n2 aq nq mq tq) (S.okR n1 np (fun j=>tp (j+ap)) n2 nq (fun j=>tq (j+aq)))),fun _ _=> .dead⟩
theorem s522 (n1:Bool) (ap np mp:Nat) (tp:Nat→Int) (n2:Bool) (aq nq mq:Nat) (tq:Nat→Int) (hp:(ap+np≤mp∧np≤1000000)∧aq+nq≤mq∧nq≤1000000):Goes ((q522 n1 ap np mp tp n2 aq nq mq tq)) ((p522 n1 ap np mp tp n2 aq nq mq tq)) (S.okR n1 np (fun j=>tp (j+ap)) n2 nq (fun j=>tq (j+aq))):=by
  obtain ⟨⟨hp1,hp2⟩,hp3,hp4⟩:=hp
  unfold S.okR p522
  rw [gcd_dec]
  with_reducible refine goes_ok (decide_eq_true ⟨hp1,hp2⟩) ?_
  cases g1:S.okI n1 np (fun j=>tp (j+ap))
  · with_reducible refine goes_no rfl ?_
    exact goes_inr.mpr rfl
  with_reducible refine goes_ok rfl ?_
  with_reducible refine goes_ok (decide_eq_true ⟨hp3,hp4⟩) ?_
  cases g2:S.okI n2 nq (fun j=>tq (j+aq))
  · with_reducible refine goes_no rfl ?_
    exact goes_inr.mpr rfl
  with_reducible refine goes_ok rfl ?_
  cases n2
  rotate_left
  · with_reducible refine goes_ok rfl ?_
    exact goes_inr.mpr rfl
  with_reducible refine goes_no rfl ?_
  by_cases h0:nq=0
  · with_reducible refine goes_ok (beq_iff_eq.mpr (by omega)) ?_
    rw [decide_eq_false (p:=0<nq) (by omega)]
    exact goes_inr.mpr rfl
  with_reducible refine goes_no (beq_eq_false_iff_ne.mpr (by omega)) ?_
  have hr:S.gcdS n1 np (fun j=>tp (j+ap)) false nq (fun j=>tq (j+aq))=(false,0,S.grp (S.gcdV (S.val np (fun j=>tp (j+ap))) (S.val nq (fun j=>tq (j+aq))))):=by unfold S.gcdS; rw [if_pos ⟨g1,g2⟩]
  have lg:=grp_le (gV_lt (n:=np) (t:=(fun j=>tp (j+ap))) g2 (by omega))
  have gp:=gV_pos (n:=np) (t:=(fun j=>tp (j+ap))) g2 (by omega)
  have gl:=gV_lt (n:=np) (t:=(fun j=>tp (j+ap))) g2 (by omega)
  rw [decide_eq_true (p:=0<nq) (by omega)]
  by_cases h1:nq=1
  · with_reducible refine goes_ok (beq_iff_eq.mpr (by omega)) ?_
    with_reducible refine goes_ok (decide_eq_true ⟨Int.le_refl _,by omega⟩) ?_
    with_reducible refine goes_ok (decide_eq_true (by omega)) ?_
    by_cases ht:tq (0+aq)=1
    · have hv:S.val nq (fun j=>tq (j+aq))=1:=by
        rw [h1]
        show tq (0+aq)+1000000*0=1
        omega
      with_reducible refine goes_ok (beq_iff_eq.mpr ht) ?_
      rw [hv,gcdV_one]
      exact goes_inr.mpr rfl
    · with_reducible refine goes_no (beq_eq_false_iff_ne.mpr ht) ?_
      with_reducible refine goes_ok (decide_eq_true ⟨⟨hp1,hp2⟩,hp3,hp4⟩) ?_
      simp only [-eq_self,c522_e_0,hr]
      with_reducible refine goes_ok (beq_self_eq_true _) ?_
      by_cases hG:(S.gcdV (S.val np (fun j=>tp (j+ap))) (S.val nq (fun j=>tq (j+aq))))=1
      · have eG:S.grp (S.gcdV (S.val np (fun j=>tp (j+ap))) (S.val nq (fun j=>tq (j+aq))))= [1]:=by rw [hG]; exact grp_one
        rw [decide_eq_true hG,eG]
        with_reducible refine goes_ok rfl ?_
        with_reducible refine goes_ok (decide_eq_true ⟨Int.le_refl _,by decide⟩) ?_
        with_reducible refine goes_ok (decide_eq_true (by decide)) ?_
        with_reducible refine goes_ok rfl ?_
        exact goes_inr.mpr rfl
      · rw [decide_eq_false hG]
        by_cases hl:(S.grp (S.gcdV (S.val np (fun j=>tp (j+ap))) (S.val nq (fun j=>tq (j+aq))))).length=1
        · have ha:=grp_one1 (Int.le_of_lt gp) hl
          with_reducible refine goes_ok (beq_iff_eq.mpr (by omega)) ?_
          with_reducible refine goes_ok (decide_eq_true ⟨Int.le_refl _,by omega⟩) ?_
          with_reducible refine goes_ok (decide_eq_true (by omega)) ?_
          with_reducible refine goes_no (beq_eq_false_iff_ne.mpr (by rw [ha]; exact hG)) ?_
          exact goes_inr.mpr rfl
        · with_reducible refine goes_no (beq_eq_false_iff_ne.mpr (by omega)) ?_
          exact goes_inr.mpr rfl
  · with_reducible refine goes_no (beq_eq_false_iff_ne.mpr (by omega)) ?_
    with_reducible refine goes_ok (decide_eq_true ⟨⟨hp1,hp2⟩,hp3,hp4⟩) ?_
    simp only [-eq_self,c522_e_0,hr]
    with_reducible refine goes_ok (beq_self_eq_true _) ?_
    by_cases hG:(S.gcdV (S.val np (fun j=>tp (j+ap))) (S.val nq (fun j=>tq (j+aq))))=1
    · have eG:S.grp (S.gcdV (S.val np (fun j=>tp (j+ap))) (S.val nq (fun j=>tq (j+aq))))= [1]:=by rw [hG]; exact grp_one
      rw [decide_eq_true hG,eG]
      with_reducible refine goes_ok rfl ?_
      with_reducible refine goes_ok (decide_eq_true ⟨Int.le_refl _,by decide⟩) ?_
      with_reducible refine goes_ok (decide_eq_true (by decide)) ?_
      with_reducible refine goes_ok rfl ?_
      exact goes_inr.mpr rfl
    · rw [decide_eq_false hG]
      by_cases hl:(S.grp (S.gcdV (S.val np (fun j=>tp (j+ap))) (S.val nq (fun j=>tq (j+aq))))).length=1
      · have ha:=grp_one1 (Int.le_of_lt gp) hl
        with_reducible refine goes_ok (beq_iff_eq.mpr (by omega)) ?_
        with_reducible refine goes_ok (decide_eq_true ⟨Int.le_refl _,by omega⟩) ?_
        with_reducible refine goes_ok (decide_eq_true (by omega)) ?_
        with_reducible refine goes_no (beq_eq_false_iff_ne.mpr (by rw [ha]; exact hG)) ?_
        exact goes_inr.mpr rfl
      · with_reducible refine goes_no (beq_eq_false_iff_ne.mpr (by omega)) ?_
        exact goes_inr.mpr rfl
theorem k522_ok:k522.ok Tryz.prog:=by
  intro x hx
  obtain ⟨⟨n1,⟨ap,np,mp,tp,_⟩,n2,⟨aq,nq,mq,tq,_⟩,_⟩,_⟩:=x
  obtain ⟨h1,h2⟩:=a522 n1 ap np mp tp n2 aq nq mq tq (s522 n1 ap np mp tp n2 aq nq mq tq (of_dec hx rfl))
  exact ⟨⟨400,(by decide:2+1+0≤400),h1⟩,h2⟩
noncomputable def xR3 (test:Bool→Prop→Prop→Prop):Ext:=consX test [k18,k19,k14,k21,k553,k550,k556,k522]
theorem xR3_ok:ExtOk Tryz.prog (xR3 cond):=consX_ok ⟨k18_ok,k19_ok,k14_ok,k21_ok,k553_ok,k550_ok,k556_ok,k522_ok,trivial⟩
namespace S
noncomputable def redE (a c:Int):Bool×Bool×Int×List Int×List Int:=(decide (rn a c<0),false,0,grp ((rn a c).natAbs:Int),grp (rd a c))
noncomputable def mkR (n1:Bool) (n:Nat) (t:Nat→Int) (n2:Bool) (m:Nat) (u:Nat→Int):Bool×Bool×Int×List Int×List Int:=if okI n1 n t=true∧okI n2 m u=true then (if m=0 then (false,false,13,[],[]) else redE (sv n1 (val n t)) (sv n2 (val m u))) else (false,false,1,[],[])
def samR (n1:Bool) (n:Nat) (t:Nat→Int) (n2:Bool) (m:Nat) (u:Nat→Int) (n3:Bool) (n':Nat) (t':Nat→Int) (n4:Bool) (m':Nat) (u':Nat→Int):Bool:=samI n1 n t n3 n' t'&&samI n2 m u n4 m' u'
end S
noncomputable abbrev c516_e_0 (n1:Bool) (ap np:Nat) (tp:NI) (n2:Bool) (aq nq:Nat) (tq:NI):=S.redV (S.sv n1 (S.val np fun j=>tp (j+ap))) (S.sv n2 (S.val nq fun j=>tq (j+aq)))
abbrev St516:=Empty
abbrev Rt516:=Bool×Bool×Int×List Int×List Int
noncomputable def V516 (n1:Bool) (ap np mp:Nat) (tp:NI) (n2:Bool) (aq nq mq:Nat) (tq:NI) (r:Rt516):PV:=PV.tup [PV.agg [PV.bool r.1,PV.own (3) (1) (List.length r.2.2.2.1),PV.bool r.2.1,PV.own (4) (1) (List.length r.2.2.2.2)],PV.int .i64 r.2.2.1]
noncomputable def N516 (n1:Bool) (ap np mp:Nat) (tp:NI) (n2:Bool) (aq nq mq:Nat) (tq:NI) (r:Rt516):List Blk:= [Blk.cols (List.length r.2.2.2.1) [Col.int .i64 fun j=>S.at' r.2.2.2.1 j],Blk.cols (List.length r.2.2.2.2) [Col.int .i64 fun j=>S.at' r.2.2.2.2 j]]
noncomputable def I516 (n1:Bool) (ap np mp:Nat) (tp:NI) (n2:Bool) (aq nq mq:Nat) (tq:NI):St516→Hd:=fun s=>s.elim
noncomputable def q516 (n1:Bool) (ap np mp:Nat) (tp:NI) (n2:Bool) (aq nq mq:Nat) (tq:NI):St516→Option (St516⊕Rt516):=fun s=>s.elim
noncomputable def p516 (n1:Bool) (ap np mp:Nat) (tp:NI) (n2:Bool) (aq nq mq:Nat) (tq:NI):Option (St516⊕Rt516):=bif (decide (ap+np≤mp∧np≤1000000)) then (bif (S.okI n1 np fun j=>tp (j+ap)) then (bif (decide (aq+nq≤mq∧nq≤1000000)) then (bif (S.okI n2 nq fun j=>tq (j+aq)) then (bif ((↑nq:Int)==0) then (some (.inr (false,false,(13:Int),[],[]))) else (bif (decide (((ap+np≤mp∧np≤1000000)∧aq+nq≤mq∧nq≤1000000)∧(S.okI n1 np fun j=>tp (j+ap))=true∧(S.okI n2 nq fun j=>tq (j+aq))=true∧0<nq)) then (some (.inr (Prod.fst (c516_e_0 n1 ap np tp n2 aq nq tq),Prod.fst (Prod.snd (c516_e_0 n1 ap np tp n2 aq nq tq)),(0:Int),Prod.fst (Prod.snd (Prod.snd (c516_e_0 n1 ap np tp n2 aq nq tq))),Prod.snd (Prod.snd (Prod.snd (c516_e_0 n1 ap np tp n2 aq nq tq)))))) else (none))) else (some (.inr (false,false,(1:Int),[],[])))) else (none)) else (some (.inr (false,false,(1:Int),[],[])))) else (none)
noncomputable def Te516 (test:TT) (Kst:KS) (Kret:KR) (n1:Bool) (ap np mp:Nat) (tp:NI) (n2:Bool) (aq nq mq:Nat) (tq:NI):Prop:=test (decide (ap+np≤mp∧np≤1000000)) (test (S.okI n1 np fun j=>tp (j+ap)) (test (decide (aq+nq≤mq∧nq≤1000000)) (test (S.okI n2 nq fun j=>tq (j+aq)) (test ((↑nq:Int)==0) (Kret (PV.tup [PV.agg [PV.tf false,PV.nils,PV.tf false,PV.nils],PV.int .i64 (13:Int)]) ([[(1,false,Blk.cols mq [Col.int .i64 tq]),(0,false,Blk.cols mp [Col.int .i64 tp])]]) (8)) (test (decide (((ap+np≤mp∧np≤1000000)∧aq+nq≤mq∧nq≤1000000)∧(S.okI n1 np fun j=>tp (j+ap))=true∧(S.okI n2 nq fun j=>tq (j+aq))=true∧0<nq)) (Kret (PV.tup [PV.agg [PV.bool (c516_e_0 n1 ap np tp n2 aq nq tq).1,PV.own (9) (1) (List.length (c516_e_0 n1 ap np tp n2 aq nq tq).2.2.1),PV.bool (c516_e_0 n1 ap np tp n2 aq nq tq).2.1,PV.own (10) (1) (List.length (c516_e_0 n1 ap np tp n2 aq nq tq).2.2.2)],PV.int .i64 (0:Int)]) ([[(1,false,Blk.cols mq [Col.int .i64 tq]),(0,false,Blk.cols mp [Col.int .i64 tp]),(10,true,Blk.cols (List.length (c516_e_0 n1 ap np tp n2 aq nq tq).2.2.2) [Col.int .i64 fun j=>S.at' (c516_e_0 n1 ap np tp n2 aq nq tq).2.2.2 j]),(9,true,Blk.cols (List.length (c516_e_0 n1 ap np tp n2 aq nq tq).2.2.1) [Col.int .i64 fun j=>S.at' (c516_e_0 n1 ap np tp n2 aq nq tq).2.2.1 j])]]) (11)) (False))) (Kret (PV.tup [PV.agg [PV.tf false,PV.nils,PV.tf false,PV.nils],PV.int .i64 (1:Int)]) ([[(1,false,Blk.cols mq [Col.int .i64 tq]),(0,false,Blk.cols mp [Col.int .i64 tp])]]) (7))) (False)) (Kret (PV.tup [PV.agg [PV.tf false,PV.nils,PV.tf false,PV.nils],PV.int .i64 (1:Int)]) ([[(1,false,Blk.cols mq [Col.int .i64 tq]),(0,false,Blk.cols mp [Col.int .i64 tp])]]) (6))) (False)
theorem te516 (test:TT) (Kst:KS) (Kret:KR) (n1:Bool) (ap np mp:Nat) (tp:NI) (n2:Bool) (aq nq mq:Nat) (tq:NI):run test Tryz.env true (xR3 test) true 400 ⟨16,[.cd (mkFn Tryz.f16).body],argT 0 [.agg [.bool n1,.loose ⟨0,1,ap,0⟩ np],.agg [.bool n2,.loose ⟨1,1,aq,0⟩ nq]],[[],[(0,(false,.cols mp [.int .i64 tp])),(1,(false,.cols mq [.int .i64 tq]))]],2⟩ (proj 2 [] Kst Kret)=
  Te516 test Kst Kret n1 ap np mp tp n2 aq nq mq tq:=by kernel_rfl
noncomputable abbrev J516 (n1:Bool) (ap np mp:Nat) (tp:NI) (n2:Bool) (aq nq mq:Nat) (tq:NI):Rt516→Heap:=fun r=> [newL (2+1) ((N516 n1 ap np mp tp n2 aq nq mq tq) r)++ [(0,(false,.cols mp [.int .i64 tp])),(1,(false,.cols mq [.int .i64 tq]))]]
attribute [local irreducible] Int.subNatNat in
theorem be516 (n1:Bool) (ap np mp:Nat) (tp:NI) (n2:Bool) (aq nq mq:Nat) (tq:NI) (Kst:KS) (Kret:KR) (x:St516⊕Rt516) (hS:HS 2 400 ((I516 n1 ap np mp tp n2 aq nq mq tq)) Kst x) (hR:HR 2 400 ((V516 n1 ap np mp tp n2 aq nq mq tq)) (J516 n1 ap np mp tp n2 aq nq mq tq) Kret x) (h:p516 n1 ap np mp tp n2 aq nq mq tq=some x):Te516 cond Kst Kret n1 ap np mp tp n2 aq nq mq tq:=by
  unfold Te516
  unfold p516 at h
  refine bif_split h (fun c0 h=>bif_split h (fun c1 h=>bif_split h (fun c2 h=>bif_split h (fun c3 h=>bif_split h (fun c4 h=> ?_) (fun c4 h=>bif_split h (fun c5 h=>ret_at hR _ h (fun n=>bif Nat.beq n 3 then 9 else bif Nat.beq n 4 then 10 else n) rfl rfl rfl (rn_tup ⟨(rn_agg ⟨(rn_bool rfl),(rn_own (use_own rfl) rfl rfl),(rn_bool rfl),(rn_own (use_own rfl) rfl rfl),trivial⟩),(rn_int rfl),trivial⟩) rfl (entl_new (use_own rfl) rfl (Nat.le_of_eq rfl) (rcs_int (fun _ _=>rfl) rcs_nil) (entl_new (use_own rfl) rfl (Nat.le_of_eq rfl) (rcs_int (fun _ _=>rfl) rcs_nil) (entl_bor (use_lo rfl) rfl rfl (entl_bor (use_lo rfl) rfl rfl entl_nil))))) (fun c5 h=> ?_))) (fun c3 h=> ?_)) (fun c2 h=> ?_)) (fun c1 h=> ?_)) (fun c0 h=> ?_)
  all_goals first
    |exact ret_at hR _ h (fun n=>bif Nat.beq n 3 then 399 else bif Nat.beq n 4 then 398 else n) rfl rfl rfl (rn_tup ⟨(rn_agg ⟨(rn_bool_tf rfl),(rn_own_nils rfl),(rn_bool_tf rfl),(rn_own_nils rfl),trivial⟩),(rn_int rfl),trivial⟩) rfl (entl_fresh (use_own rfl) (fresh_ok rfl) (entl_fresh (use_own rfl) (fresh_ok rfl) (entl_bor (use_lo rfl) rfl rfl (entl_bor (use_lo rfl) rfl rfl entl_nil))))
    |exact no_some h
theorem a516 (n1:Bool) (ap np mp:Nat) (tp:NI) (n2:Bool) (aq nq mq:Nat) (tq:NI) {r:Rt516} (h:Goes ((q516 n1 ap np mp tp n2 aq nq mq tq)) ((p516 n1 ap np mp tp n2 aq nq mq tq)) r):CallR Tryz.prog 16 [.agg [.bool n1,.loose ⟨0,1,ap,0⟩ np],.agg [.bool n2,.loose ⟨1,1,aq,0⟩ nq]] [[(0,(false,.cols mp [.int .i64 tp])),(1,(false,.cols mq [.int .i64 tq]))]] 2 ((V516 n1 ap np mp tp n2 aq nq mq tq) r) ((J516 n1 ap np mp tp n2 aq nq mq tq) r) 400∧ ∃ F,Tryz.prog.funcs[16]? =some F∧F.body.isSome=true∧(F.name== "runtime.NumGoroutine")=false:=by
  refine dec_calls (f:=16) (lo:=2) (hi:=400) Tryz.envOk Tryz.mixed xR3_ok ((I516 n1 ap np mp tp n2 aq nq mq tq)) ((V516 n1 ap np mp tp n2 aq nq mq tq)) (J516 n1 ap np mp tp n2 aq nq mq tq) (fn:=mkFn Tryz.f16) (ts:= []) (n:=400) rfl (by decide) (by simp) (names_of rfl) ?_ ?_ ?_ h
  · intro s; exact s.elim
  · intro Kst Kret x hS hR h
    exact Holds.eq (te516 cond Kst Kret n1 ap np mp tp n2 aq nq mq tq) (be516 n1 ap np mp tp n2 aq nq mq tq Kst Kret x hS hR h)
  · intro Kst Kret x hS hR s h; exact s.elim
noncomputable abbrev w516 {α:Type} (g:Bool→Nat→Nat→Nat→(Nat→Int)→Bool→Nat→Nat→Nat→(Nat→Int)→α) (x:(Bool×(Nat×Nat×Nat×(Nat→Int)×Unit)×Unit)×(Bool×(Nat×Nat×Nat×(Nat→Int)×Unit)×Unit)×Unit):α:=g x.1.1 x.1.2.1.1 x.1.2.1.2.1 x.1.2.1.2.2.1 x.1.2.1.2.2.2.1 x.2.1.1 x.2.1.2.1.1 x.2.1.2.1.2.1 x.2.1.2.1.2.2.1 x.2.1.2.1.2.2.2.1
noncomputable def k516:Con:=⟨16,[.agg [.plain (.bool),.list [.int .i64]],.agg [.plain (.bool),.list [.int .i64]]],w516 (fun n1 ap np mp tp n2 aq nq mq tq=>decide ((ap+np≤mp∧np≤1000000)∧aq+nq≤mq∧nq≤1000000)),w516 (fun n1 ap np mp tp n2 aq nq mq tq=>(V516 n1 ap np mp tp n2 aq nq mq tq) ((S.mkR n1 np (fun j=>tp (j+ap)) n2 nq (fun j=>tq (j+aq))).1,(S.mkR n1 np (fun j=>tp (j+ap)) n2 nq (fun j=>tq (j+aq))).2.1,(S.mkR n1 np (fun j=>tp (j+ap)) n2 nq (fun j=>tq (j+aq))).2.2.1,(S.mkR n1 np (fun j=>tp (j+ap)) n2 nq (fun j=>tq (j+aq))).2.2.2.1,(S.mkR n1 np (fun j=>tp (j+ap)) n2 nq (fun j=>tq (j+aq))).2.2.2.2)),w516 (fun n1 ap np mp tp n2 aq nq mq tq=>(N516 n1 ap np mp tp n2 aq nq mq tq) ((S.mkR n1 np (fun j=>tp (j+ap)) n2 nq (fun j=>tq (j+aq))).1,(S.mkR n1 np (fun j=>tp (j+ap)) n2 nq (fun j=>tq (j+aq))).2.1,(S.mkR n1 np (fun j=>tp (j+ap)) n2 nq (fun j=>tq (j+aq))).2.2.1,(S.mkR n1 np (fun j=>tp (j+ap)) n2 nq (fun j=>tq (j+aq))).2.2.2.1,(S.mkR n1 np (fun j=>tp (j+ap)) n2 nq (fun j=>tq (j+aq))).2.2.2.2)),fun _ _=> .dead⟩
theorem s516 (n1:Bool) (ap np mp:Nat) (tp:Nat→Int) (n2:Bool) (aq nq mq:Nat) (tq:Nat→Int) (hp:(ap+np≤mp∧np≤1000000)∧aq+nq≤mq∧nq≤1000000):Goes ((q516 n1 ap np mp tp n2 aq nq mq tq)) ((p516 n1 ap np mp tp n2 aq nq mq tq)) (((S.mkR n1 np (fun j=>tp (j+ap)) n2 nq (fun j=>tq (j+aq))).1,(S.mkR n1 np (fun j=>tp (j+ap)) n2 nq (fun j=>tq (j+aq))).2.1,(S.mkR n1 np (fun j=>tp (j+ap)) n2 nq (fun j=>tq (j+aq))).2.2.1,(S.mkR n1 np (fun j=>tp (j+ap)) n2 nq (fun j=>tq (j+aq))).2.2.2.1,(S.mkR n1 np (fun j=>tp (j+ap)) n2 nq (fun j=>tq (j+aq))).2.2.2.2)):=by
  obtain ⟨⟨hp1,hp2⟩,hp3,hp4⟩:=hp
  unfold S.mkR p516
  with_reducible refine goes_ok (decide_eq_true ⟨hp1,hp2⟩) ?_
  by_cases g1:S.okI n1 np (fun j=>tp (j+ap))=true
  rotate_left
  · rw [if_neg fun h=>g1 h.1]
    with_reducible refine goes_no (Bool.not_eq_true _ ▸ g1) ?_
    exact goes_inr.mpr rfl
  with_reducible refine goes_ok g1 ?_
  with_reducible refine goes_ok (decide_eq_true ⟨hp3,hp4⟩) ?_
  by_cases g2:S.okI n2 nq (fun j=>tq (j+aq))=true
  rotate_left
  · rw [if_neg fun h=>g2 h.2]
    with_reducible refine goes_no (Bool.not_eq_true _ ▸ g2) ?_
    exact goes_inr.mpr rfl
  with_reducible refine goes_ok g2 ?_
  rw [if_pos ⟨g1,g2⟩]
  by_cases h0:nq=0
  · rw [if_pos h0]
    with_reducible refine goes_ok (beq_iff_eq.mpr (by omega)) ?_
    exact goes_inr.mpr rfl
  · rw [if_neg h0]
    with_reducible refine goes_no (beq_eq_false_iff_ne.mpr (by omega)) ?_
    with_reducible refine goes_ok (decide_eq_true ⟨⟨⟨hp1,hp2⟩,hp3,hp4⟩,g1,g2,by omega⟩) ?_
    exact goes_inr.mpr rfl
theorem k516_ok:k516.ok Tryz.prog:=by
  intro x hx
  obtain ⟨⟨n1,⟨ap,np,mp,tp,_⟩,_⟩,⟨n2,⟨aq,nq,mq,tq,_⟩,_⟩,_⟩:=x
  obtain ⟨h1,h2⟩:=a516 n1 ap np mp tp n2 aq nq mq tq (s516 n1 ap np mp tp n2 aq nq mq tq (of_dec hx rfl))
  exact ⟨⟨400,(by decide:2+1+2≤400),h1⟩,h2⟩
noncomputable abbrev c517_e_0 (n1:Bool) (ap np:Nat) (tp:NI) (n2:Bool) (aq nq:Nat) (tq:NI):=S.redV (S.sv n1 (S.val np fun j=>tp (j+ap))) (S.sv n2 (S.val nq fun j=>tq (j+aq)))
abbrev St517:=Empty
abbrev Rt517:=Bool×Bool×Int×List Int×List Int
noncomputable def V517 (n1:Bool) (ap np mp:Nat) (tp:NI) (n2:Bool) (aq nq mq:Nat) (tq:NI) (r:Rt517):PV:=PV.tup [PV.agg [PV.bool r.1,PV.own (3) (1) (List.length r.2.2.2.1),PV.bool r.2.1,PV.own (4) (1) (List.length r.2.2.2.2)],PV.int .i64 r.2.2.1]
noncomputable def N517 (n1:Bool) (ap np mp:Nat) (tp:NI) (n2:Bool) (aq nq mq:Nat) (tq:NI) (r:Rt517):List Blk:= [Blk.cols (List.length r.2.2.2.1) [Col.int .i64 fun j=>S.at' r.2.2.2.1 j],Blk.cols (List.length r.2.2.2.2) [Col.int .i64 fun j=>S.at' r.2.2.2.2 j]]
noncomputable def I517 (n1:Bool) (ap np mp:Nat) (tp:NI) (n2:Bool) (aq nq mq:Nat) (tq:NI):St517→Hd:=fun s=>s.elim
noncomputable def q517 (n1:Bool) (ap np mp:Nat) (tp:NI) (n2:Bool) (aq nq mq:Nat) (tq:NI):St517→Option (St517⊕Rt517):=fun s=>s.elim
noncomputable def p517 (n1:Bool) (ap np mp:Nat) (tp:NI) (n2:Bool) (aq nq mq:Nat) (tq:NI):Option (St517⊕Rt517):=bif (decide (ap+np≤mp∧np≤1000000)) then (bif (S.okI n1 np fun j=>tp (j+ap)) then (bif (decide (aq+nq≤mq∧nq≤1000000)) then (bif (S.okI n2 nq fun j=>tq (j+aq)) then (bif ((↑nq:Int)==0) then (some (.inr (false,false,(13:Int),[],[]))) else (bif (decide (((ap+np≤mp∧np≤1000000)∧aq+nq≤mq∧nq≤1000000)∧(S.okI n1 np fun j=>tp (j+ap))=true∧(S.okI n2 nq fun j=>tq (j+aq))=true∧0<nq)) then (some (.inr (Prod.fst (c517_e_0 n1 ap np tp n2 aq nq tq),Prod.fst (Prod.snd (c517_e_0 n1 ap np tp n2 aq nq tq)),(0:Int),Prod.fst (Prod.snd (Prod.snd (c517_e_0 n1 ap np tp n2 aq nq tq))),Prod.snd (Prod.snd (Prod.snd (c517_e_0 n1 ap np tp n2 aq nq tq)))))) else (none))) else (some (.inr (false,false,(1:Int),[],[])))) else (none)) else (some (.inr (false,false,(1:Int),[],[])))) else (none)
noncomputable def Te517 (test:TT) (Kst:KS) (Kret:KR) (n1:Bool) (ap np mp:Nat) (tp:NI) (n2:Bool) (aq nq mq:Nat) (tq:NI):Prop:=test (decide (ap+np≤mp∧np≤1000000)) (test (S.okI n1 np fun j=>tp (j+ap)) (test (decide (aq+nq≤mq∧nq≤1000000)) (test (S.okI n2 nq fun j=>tq (j+aq)) (test ((↑nq:Int)==0) (Kret (PV.tup [PV.agg [PV.tf false,PV.nils,PV.tf false,PV.nils],PV.int .i64 (13:Int)]) ([[(1,false,Blk.cols mq [Col.int .i64 tq]),(0,false,Blk.cols mp [Col.int .i64 tp])]]) (8)) (test (decide (((ap+np≤mp∧np≤1000000)∧aq+nq≤mq∧nq≤1000000)∧(S.okI n1 np fun j=>tp (j+ap))=true∧(S.okI n2 nq fun j=>tq (j+aq))=true∧0<nq)) (Kret (PV.tup [PV.agg [PV.bool (c517_e_0 n1 ap np tp n2 aq nq tq).1,PV.own (9) (1) (List.length (c517_e_0 n1 ap np tp n2 aq nq tq).2.2.1),PV.bool (c517_e_0 n1 ap np tp n2 aq nq tq).2.1,PV.own (10) (1) (List.length (c517_e_0 n1 ap np tp n2 aq nq tq).2.2.2)],PV.int .i64 (0:Int)]) ([[(1,false,Blk.cols mq [Col.int .i64 tq]),(0,false,Blk.cols mp [Col.int .i64 tp]),(10,true,Blk.cols (List.length (c517_e_0 n1 ap np tp n2 aq nq tq).2.2.2) [Col.int .i64 fun j=>S.at' (c517_e_0 n1 ap np tp n2 aq nq tq).2.2.2 j]),(9,true,Blk.cols (List.length (c517_e_0 n1 ap np tp n2 aq nq tq).2.2.1) [Col.int .i64 fun j=>S.at' (c517_e_0 n1 ap np tp n2 aq nq tq).2.2.1 j])]]) (11)) (False))) (Kret (PV.tup [PV.agg [PV.tf false,PV.nils,PV.tf false,PV.nils],PV.int .i64 (1:Int)]) ([[(1,false,Blk.cols mq [Col.int .i64 tq]),(0,false,Blk.cols mp [Col.int .i64 tp])]]) (7))) (False)) (Kret (PV.tup [PV.agg [PV.tf false,PV.nils,PV.tf false,PV.nils],PV.int .i64 (1:Int)]) ([[(1,false,Blk.cols mq [Col.int .i64 tq]),(0,false,Blk.cols mp [Col.int .i64 tp])]]) (6))) (False)
theorem te517 (test:TT) (Kst:KS) (Kret:KR) (n1:Bool) (ap np mp:Nat) (tp:NI) (n2:Bool) (aq nq mq:Nat) (tq:NI):run test Tryz.env true (xR3 test) true 400 ⟨17,[.cd (mkFn Tryz.f17).body],argT 0 [.agg [.bool n1,.loose ⟨0,1,ap,0⟩ np],.agg [.bool n2,.loose ⟨1,1,aq,0⟩ nq]],[[],[(0,(false,.cols mp [.int .i64 tp])),(1,(false,.cols mq [.int .i64 tq]))]],2⟩ (proj 2 [] Kst Kret)=
  Te517 test Kst Kret n1 ap np mp tp n2 aq nq mq tq:=by kernel_rfl
noncomputable abbrev J517 (n1:Bool) (ap np mp:Nat) (tp:NI) (n2:Bool) (aq nq mq:Nat) (tq:NI):Rt517→Heap:=fun r=> [newL (2+1) ((N517 n1 ap np mp tp n2 aq nq mq tq) r)++ [(0,(false,.cols mp [.int .i64 tp])),(1,(false,.cols mq [.int .i64 tq]))]]
attribute [local irreducible] Int.subNatNat in
theorem be517 (n1:Bool) (ap np mp:Nat) (tp:NI) (n2:Bool) (aq nq mq:Nat) (tq:NI) (Kst:KS) (Kret:KR) (x:St517⊕Rt517) (hS:HS 2 400 ((I517 n1 ap np mp tp n2 aq nq mq tq)) Kst x) (hR:HR 2 400 ((V517 n1 ap np mp tp n2 aq nq mq tq)) (J517 n1 ap np mp tp n2 aq nq mq tq) Kret x) (h:p517 n1 ap np mp tp n2 aq nq mq tq=some x):Te517 cond Kst Kret n1 ap np mp tp n2 aq nq mq tq:=by
  unfold Te517
  unfold p517 at h
  refine bif_split h (fun c0 h=>bif_split h (fun c1 h=>bif_split h (fun c2 h=>bif_split h (fun c3 h=>bif_split h (fun c4 h=> ?_) (fun c4 h=>bif_split h (fun c5 h=>ret_at hR _ h (fun n=>bif Nat.beq n 3 then 9 else bif Nat.beq n 4 then 10 else n) rfl rfl rfl (rn_tup ⟨(rn_agg ⟨(rn_bool rfl),(rn_own (use_own rfl) rfl rfl),(rn_bool rfl),(rn_own (use_own rfl) rfl rfl),trivial⟩),(rn_int rfl),trivial⟩) rfl (entl_new (use_own rfl) rfl (Nat.le_of_eq rfl) (rcs_int (fun _ _=>rfl) rcs_nil) (entl_new (use_own rfl) rfl (Nat.le_of_eq rfl) (rcs_int (fun _ _=>rfl) rcs_nil) (entl_bor (use_lo rfl) rfl rfl (entl_bor (use_lo rfl) rfl rfl entl_nil))))) (fun c5 h=> ?_))) (fun c3 h=> ?_)) (fun c2 h=> ?_)) (fun c1 h=> ?_)) (fun c0 h=> ?_)
  all_goals first
    |exact ret_at hR _ h (fun n=>bif Nat.beq n 3 then 399 else bif Nat.beq n 4 then 398 else n) rfl rfl rfl (rn_tup ⟨(rn_agg ⟨(rn_bool_tf rfl),(rn_own_nils rfl),(rn_bool_tf rfl),(rn_own_nils rfl),trivial⟩),(rn_int rfl),trivial⟩) rfl (entl_fresh (use_own rfl) (fresh_ok rfl) (entl_fresh (use_own rfl) (fresh_ok rfl) (entl_bor (use_lo rfl) rfl rfl (entl_bor (use_lo rfl) rfl rfl entl_nil))))
    |exact no_some h
theorem a517 (n1:Bool) (ap np mp:Nat) (tp:NI) (n2:Bool) (aq nq mq:Nat) (tq:NI) {r:Rt517} (h:Goes ((q517 n1 ap np mp tp n2 aq nq mq tq)) ((p517 n1 ap np mp tp n2 aq nq mq tq)) r):CallR Tryz.prog 17 [.agg [.bool n1,.loose ⟨0,1,ap,0⟩ np],.agg [.bool n2,.loose ⟨1,1,aq,0⟩ nq]] [[(0,(false,.cols mp [.int .i64 tp])),(1,(false,.cols mq [.int .i64 tq]))]] 2 ((V517 n1 ap np mp tp n2 aq nq mq tq) r) ((J517 n1 ap np mp tp n2 aq nq mq tq) r) 400∧ ∃ F,Tryz.prog.funcs[17]? =some F∧F.body.isSome=true∧(F.name== "runtime.NumGoroutine")=false:=by
  refine dec_calls (f:=17) (lo:=2) (hi:=400) Tryz.envOk Tryz.mixed xR3_ok ((I517 n1 ap np mp tp n2 aq nq mq tq)) ((V517 n1 ap np mp tp n2 aq nq mq tq)) (J517 n1 ap np mp tp n2 aq nq mq tq) (fn:=mkFn Tryz.f17) (ts:= []) (n:=400) rfl (by decide) (by simp) (names_of rfl) ?_ ?_ ?_ h
  · intro s; exact s.elim
  · intro Kst Kret x hS hR h
    exact Holds.eq (te517 cond Kst Kret n1 ap np mp tp n2 aq nq mq tq) (be517 n1 ap np mp tp n2 aq nq mq tq Kst Kret x hS hR h)
  · intro Kst Kret x hS hR s h; exact s.elim
noncomputable abbrev w517 {α:Type} (g:Bool→Nat→Nat→Nat→(Nat→Int)→Bool→Nat→Nat→Nat→(Nat→Int)→α) (x:(Bool×(Nat×Nat×Nat×(Nat→Int)×Unit)×Unit)×(Bool×(Nat×Nat×Nat×(Nat→Int)×Unit)×Unit)×Unit):α:=g x.1.1 x.1.2.1.1 x.1.2.1.2.1 x.1.2.1.2.2.1 x.1.2.1.2.2.2.1 x.2.1.1 x.2.1.2.1.1 x.2.1.2.1.2.1 x.2.1.2.1.2.2.1 x.2.1.2.1.2.2.2.1
noncomputable def k517:Con:=⟨17,[.agg [.plain (.bool),.list [.int .i64]],.agg [.plain (.bool),.list [.int .i64]]],w517 (fun n1 ap np mp tp n2 aq nq mq tq=>decide ((ap+np≤mp∧np≤1000000)∧aq+nq≤mq∧nq≤1000000)),w517 (fun n1 ap np mp tp n2 aq nq mq tq=>(V517 n1 ap np mp tp n2 aq nq mq tq) ((S.mkR n1 np (fun j=>tp (j+ap)) n2 nq (fun j=>tq (j+aq))).1,(S.mkR n1 np (fun j=>tp (j+ap)) n2 nq (fun j=>tq (j+aq))).2.1,(S.mkR n1 np (fun j=>tp (j+ap)) n2 nq (fun j=>tq (j+aq))).2.2.1,(S.mkR n1 np (fun j=>tp (j+ap)) n2 nq (fun j=>tq (j+aq))).2.2.2.1,(S.mkR n1 np (fun j=>tp (j+ap)) n2 nq (fun j=>tq (j+aq))).2.2.2.2)),w517 (fun n1 ap np mp tp n2 aq nq mq tq=>(N517 n1 ap np mp tp n2 aq nq mq tq) ((S.mkR n1 np (fun j=>tp (j+ap)) n2 nq (fun j=>tq (j+aq))).1,(S.mkR n1 np (fun j=>tp (j+ap)) n2 nq (fun j=>tq (j+aq))).2.1,(S.mkR n1 np (fun j=>tp (j+ap)) n2 nq (fun j=>tq (j+aq))).2.2.1,(S.mkR n1 np (fun j=>tp (j+ap)) n2 nq (fun j=>tq (j+aq))).2.2.2.1,(S.mkR n1 np (fun j=>tp (j+ap)) n2 nq (fun j=>tq (j+aq))).2.2.2.2)),fun _ _=> .dead⟩
theorem s517 (n1:Bool) (ap np mp:Nat) (tp:Nat→Int) (n2:Bool) (aq nq mq:Nat) (tq:Nat→Int) (hp:(ap+np≤mp∧np≤1000000)∧aq+nq≤mq∧nq≤1000000):Goes ((q517 n1 ap np mp tp n2 aq nq mq tq)) ((p517 n1 ap np mp tp n2 aq nq mq tq)) (((S.mkR n1 np (fun j=>tp (j+ap)) n2 nq (fun j=>tq (j+aq))).1,(S.mkR n1 np (fun j=>tp (j+ap)) n2 nq (fun j=>tq (j+aq))).2.1,(S.mkR n1 np (fun j=>tp (j+ap)) n2 nq (fun j=>tq (j+aq))).2.2.1,(S.mkR n1 np (fun j=>tp (j+ap)) n2 nq (fun j=>tq (j+aq))).2.2.2.1,(S.mkR n1 np (fun j=>tp (j+ap)) n2 nq (fun j=>tq (j+aq))).2.2.2.2)):=by
  obtain ⟨⟨hp1,hp2⟩,hp3,hp4⟩:=hp
  unfold S.mkR p517
  with_reducible refine goes_ok (decide_eq_true ⟨hp1,hp2⟩) ?_
  by_cases g1:S.okI n1 np (fun j=>tp (j+ap))=true
  rotate_left
  · rw [if_neg fun h=>g1 h.1]
    with_reducible refine goes_no (Bool.not_eq_true _ ▸ g1) ?_
    exact goes_inr.mpr rfl
  with_reducible refine goes_ok g1 ?_
  with_reducible refine goes_ok (decide_eq_true ⟨hp3,hp4⟩) ?_
  by_cases g2:S.okI n2 nq (fun j=>tq (j+aq))=true
  rotate_left
  · rw [if_neg fun h=>g2 h.2]
    with_reducible refine goes_no (Bool.not_eq_true _ ▸ g2) ?_
    exact goes_inr.mpr rfl
  with_reducible refine goes_ok g2 ?_
  rw [if_pos ⟨g1,g2⟩]
  by_cases h0:nq=0
  · rw [if_pos h0]
    with_reducible refine goes_ok (beq_iff_eq.mpr (by omega)) ?_
    exact goes_inr.mpr rfl
  · rw [if_neg h0]
    with_reducible refine goes_no (beq_eq_false_iff_ne.mpr (by omega)) ?_
    with_reducible refine goes_ok (decide_eq_true ⟨⟨⟨hp1,hp2⟩,hp3,hp4⟩,g1,g2,by omega⟩) ?_
    exact goes_inr.mpr rfl
theorem k517_ok:k517.ok Tryz.prog:=by
  intro x hx
  obtain ⟨⟨n1,⟨ap,np,mp,tp,_⟩,_⟩,⟨n2,⟨aq,nq,mq,tq,_⟩,_⟩,_⟩:=x
  obtain ⟨h1,h2⟩:=a517 n1 ap np mp tp n2 aq nq mq tq (s517 n1 ap np mp tp n2 aq nq mq tq (of_dec hx rfl))
  exact ⟨⟨400,(by decide:2+1+2≤400),h1⟩,h2⟩
abbrev St518:=Empty
abbrev Rt518:=Bool
noncomputable def V518 (n1:Bool) (ap np mp:Nat) (tp:NI) (n2:Bool) (aq nq mq:Nat) (tq:NI) (n3:Bool) (au nu mu:Nat) (tu:NI) (n4:Bool) (aw nw mw:Nat) (tw:NI) (r:Rt518):PV:=PV.bool r
noncomputable def N518 (n1:Bool) (ap np mp:Nat) (tp:NI) (n2:Bool) (aq nq mq:Nat) (tq:NI) (n3:Bool) (au nu mu:Nat) (tu:NI) (n4:Bool) (aw nw mw:Nat) (tw:NI) (r:Rt518):List Blk:= []
noncomputable def I518 (n1:Bool) (ap np mp:Nat) (tp:NI) (n2:Bool) (aq nq mq:Nat) (tq:NI) (n3:Bool) (au nu mu:Nat) (tu:NI) (n4:Bool) (aw nw mw:Nat) (tw:NI):St518→Hd:=fun s=>s.elim
noncomputable def q518 (n1:Bool) (ap np mp:Nat) (tp:NI) (n2:Bool) (aq nq mq:Nat) (tq:NI) (n3:Bool) (au nu mu:Nat) (tu:NI) (n4:Bool) (aw nw mw:Nat) (tw:NI):St518→Option (St518⊕Rt518):=fun s=>s.elim
noncomputable def p518 (n1:Bool) (ap np mp:Nat) (tp:NI) (n2:Bool) (aq nq mq:Nat) (tq:NI) (n3:Bool) (au nu mu:Nat) (tu:NI) (n4:Bool) (aw nw mw:Nat) (tw:NI):Option (St518⊕Rt518):=bif (decide ((ap+np≤mp∧np≤1000000)∧au+nu≤mu∧nu≤1000000)) then (bif (S.samI n1 np (fun j=>tp (j+ap)) n3 nu fun j=>tu (j+au)) then (bif (decide ((aq+nq≤mq∧nq≤1000000)∧aw+nw≤mw∧nw≤1000000)) then (bif (S.samI n2 nq (fun j=>tq (j+aq)) n4 nw fun j=>tw (j+aw)) then (some (.inr (true))) else (some (.inr (false)))) else (none)) else (some (.inr (false)))) else (none)
noncomputable abbrev u518_e_0 (mp:Nat) (tp:NI) (mq:Nat) (tq:NI) (mu:Nat) (tu:NI) (mw:Nat) (tw:NI):=([[(3,false,Blk.cols mw [Col.int .i64 tw]),(2,false,Blk.cols mu [Col.int .i64 tu]),(1,false,Blk.cols mq [Col.int .i64 tq]),(0,false,Blk.cols mp [Col.int .i64 tp])]])
noncomputable def Te518 (test:TT) (Kst:KS) (Kret:KR) (n1:Bool) (ap np mp:Nat) (tp:NI) (n2:Bool) (aq nq mq:Nat) (tq:NI) (n3:Bool) (au nu mu:Nat) (tu:NI) (n4:Bool) (aw nw mw:Nat) (tw:NI):Prop:=test (decide ((ap+np≤mp∧np≤1000000)∧au+nu≤mu∧nu≤1000000)) (test (S.samI n1 np (fun j=>tp (j+ap)) n3 nu fun j=>tu (j+au)) (test (decide ((aq+nq≤mq∧nq≤1000000)∧aw+nw≤mw∧nw≤1000000)) (test (S.samI n2 nq (fun j=>tq (j+aq)) n4 nw fun j=>tw (j+aw)) (Kret (PV.tf true) (u518_e_0 mp tp mq tq mu tu mw tw) (8)) (Kret (PV.tf false) (u518_e_0 mp tp mq tq mu tu mw tw) (8))) (False)) (Kret (PV.tf false) (u518_e_0 mp tp mq tq mu tu mw tw) (7))) (False)
theorem te518 (test:TT) (Kst:KS) (Kret:KR) (n1:Bool) (ap np mp:Nat) (tp:NI) (n2:Bool) (aq nq mq:Nat) (tq:NI) (n3:Bool) (au nu mu:Nat) (tu:NI) (n4:Bool) (aw nw mw:Nat) (tw:NI):run test Tryz.env true (xR3 test) true 400 ⟨18,[.cd (mkFn Tryz.f18).body],argT 0 [.agg [.bool n1,.loose ⟨0,1,ap,0⟩ np,.bool n2,.loose ⟨1,1,aq,0⟩ nq],.agg [.bool n3,.loose ⟨2,1,au,0⟩ nu,.bool n4,.loose ⟨3,1,aw,0⟩ nw]],[[],[(0,(false,.cols mp [.int .i64 tp])),(1,(false,.cols mq [.int .i64 tq])),(2,(false,.cols mu [.int .i64 tu])),(3,(false,.cols mw [.int .i64 tw]))]],4⟩ (proj 4 [] Kst Kret)=
  Te518 test Kst Kret n1 ap np mp tp n2 aq nq mq tq n3 au nu mu tu n4 aw nw mw tw:=by kernel_rfl
noncomputable abbrev J518 (n1:Bool) (ap np mp:Nat) (tp:NI) (n2:Bool) (aq nq mq:Nat) (tq:NI) (n3:Bool) (au nu mu:Nat) (tu:NI) (n4:Bool) (aw nw mw:Nat) (tw:NI):Rt518→Heap:=fun r=> [newL (4+1) ((N518 n1 ap np mp tp n2 aq nq mq tq n3 au nu mu tu n4 aw nw mw tw) r)++ [(0,(false,.cols mp [.int .i64 tp])),(1,(false,.cols mq [.int .i64 tq])),(2,(false,.cols mu [.int .i64 tu])),(3,(false,.cols mw [.int .i64 tw]))]]
attribute [local irreducible] Int.subNatNat in
theorem be518 (n1:Bool) (ap np mp:Nat) (tp:NI) (n2:Bool) (aq nq mq:Nat) (tq:NI) (n3:Bool) (au nu mu:Nat) (tu:NI) (n4:Bool) (aw nw mw:Nat) (tw:NI) (Kst:KS) (Kret:KR) (x:St518⊕Rt518) (hS:HS 4 400 ((I518 n1 ap np mp tp n2 aq nq mq tq n3 au nu mu tu n4 aw nw mw tw)) Kst x) (hR:HR 4 400 ((V518 n1 ap np mp tp n2 aq nq mq tq n3 au nu mu tu n4 aw nw mw tw)) (J518 n1 ap np mp tp n2 aq nq mq tq n3 au nu mu tu n4 aw nw mw tw) Kret x) (h:p518 n1 ap np mp tp n2 aq nq mq tq n3 au nu mu tu n4 aw nw mw tw=some x):Te518 cond Kst Kret n1 ap np mp tp n2 aq nq mq tq n3 au nu mu tu n4 aw nw mw tw:=by
  unfold Te518
  unfold p518 at h
  refine bif_split h (fun c0 h=>bif_split h (fun c1 h=>bif_split h (fun c2 h=>bif_split h (fun c3 h=> ?_) (fun c3 h=> ?_)) (fun c2 h=> ?_)) (fun c1 h=> ?_)) (fun c0 h=> ?_)
  all_goals first
    |exact ret_at hR _ h (fun n=>n) rfl rfl rfl (rn_bool_tf rfl) rfl (entl_bor (use_lo rfl) rfl rfl (entl_bor (use_lo rfl) rfl rfl (entl_bor (use_lo rfl) rfl rfl (entl_bor (use_lo rfl) rfl rfl entl_nil))))
    |exact no_some h
theorem a518 (n1:Bool) (ap np mp:Nat) (tp:NI) (n2:Bool) (aq nq mq:Nat) (tq:NI) (n3:Bool) (au nu mu:Nat) (tu:NI) (n4:Bool) (aw nw mw:Nat) (tw:NI) {r:Rt518} (h:Goes ((q518 n1 ap np mp tp n2 aq nq mq tq n3 au nu mu tu n4 aw nw mw tw)) ((p518 n1 ap np mp tp n2 aq nq mq tq n3 au nu mu tu n4 aw nw mw tw)) r):CallR Tryz.prog 18 [.agg [.bool n1,.loose ⟨0,1,ap,0⟩ np,.bool n2,.loose ⟨1,1,aq,0⟩ nq],.agg [.bool n3,.loose ⟨2,1,au,0⟩ nu,.bool n4,.loose ⟨3,1,aw,0⟩ nw]] [[(0,(false,.cols mp [.int .i64 tp])),(1,(false,.cols mq [.int .i64 tq])),(2,(false,.cols mu [.int .i64 tu])),(3,(false,.cols mw [.int .i64 tw]))]] 4 ((V518 n1 ap np mp tp n2 aq nq mq tq n3 au nu mu tu n4 aw nw mw tw) r) ((J518 n1 ap np mp tp n2 aq nq mq tq n3 au nu mu tu n4 aw nw mw tw) r) 400∧ ∃ F,Tryz.prog.funcs[18]? =some F∧F.body.isSome=true∧(F.name== "runtime.NumGoroutine")=false:=by
  refine dec_calls (f:=18) (lo:=4) (hi:=400) Tryz.envOk Tryz.mixed xR3_ok ((I518 n1 ap np mp tp n2 aq nq mq tq n3 au nu mu tu n4 aw nw mw tw)) ((V518 n1 ap np mp tp n2 aq nq mq tq n3 au nu mu tu n4 aw nw mw tw)) (J518 n1 ap np mp tp n2 aq nq mq tq n3 au nu mu tu n4 aw nw mw tw) (fn:=mkFn Tryz.f18) (ts:= []) (n:=400) rfl (by decide) (by simp) (names_of rfl) ?_ ?_ ?_ h
  · intro s; exact s.elim
  · intro Kst Kret x hS hR h
    exact Holds.eq (te518 cond Kst Kret n1 ap np mp tp n2 aq nq mq tq n3 au nu mu tu n4 aw nw mw tw) (be518 n1 ap np mp tp n2 aq nq mq tq n3 au nu mu tu n4 aw nw mw tw Kst Kret x hS hR h)
  · intro Kst Kret x hS hR s h; exact s.elim
noncomputable abbrev w518 {α:Type} (g:Bool→Nat→Nat→Nat→(Nat→Int)→Bool→Nat→Nat→Nat→(Nat→Int)→Bool→Nat→Nat→Nat→(Nat→Int)→Bool→Nat→Nat→Nat→(Nat→Int)→α) (x:(Bool×(Nat×Nat×Nat×(Nat→Int)×Unit)×Bool×(Nat×Nat×Nat×(Nat→Int)×Unit)×Unit)×(Bool×(Nat×Nat×Nat×(Nat→Int)×Unit)×Bool×(Nat×Nat×Nat×(Nat→Int)×Unit)×Unit)×Unit):α:=g x.1.1 x.1.2.1.1 x.1.2.1.2.1 x.1.2.1.2.2.1 x.1.2.1.2.2.2.1 x.1.2.2.1 x.1.2.2.2.1.1 x.1.2.2.2.1.2.1 x.1.2.2.2.1.2.2.1 x.1.2.2.2.1.2.2.2.1 x.2.1.1 x.2.1.2.1.1 x.2.1.2.1.2.1 x.2.1.2.1.2.2.1 x.2.1.2.1.2.2.2.1 x.2.1.2.2.1 x.2.1.2.2.2.1.1 x.2.1.2.2.2.1.2.1 x.2.1.2.2.2.1.2.2.1 x.2.1.2.2.2.1.2.2.2.1
noncomputable def k518:Con:=⟨18,[.agg [.plain (.bool),.list [.int .i64],.plain (.bool),.list [.int .i64]],.agg [.plain (.bool),.list [.int .i64],.plain (.bool),.list [.int .i64]]],w518 (fun n1 ap np mp tp n2 aq nq mq tq n3 au nu mu tu n4 aw nw mw tw=>decide (((ap+np≤mp∧np≤1000000)∧aq+nq≤mq∧nq≤1000000)∧(au+nu≤mu∧nu≤1000000)∧aw+nw≤mw∧nw≤1000000)),w518 (fun n1 ap np mp tp n2 aq nq mq tq n3 au nu mu tu n4 aw nw mw tw=>(V518 n1 ap np mp tp n2 aq nq mq tq n3 au nu mu tu n4 aw nw mw tw) (S.samR n1 np (fun j=>tp (j+ap)) n2 nq (fun j=>tq (j+aq)) n3 nu (fun j=>tu (j+au)) n4 nw (fun j=>tw (j+aw)))),w518 (fun n1 ap np mp tp n2 aq nq mq tq n3 au nu mu tu n4 aw nw mw tw=>(N518 n1 ap np mp tp n2 aq nq mq tq n3 au nu mu tu n4 aw nw mw tw) (S.samR n1 np (fun j=>tp (j+ap)) n2 nq (fun j=>tq (j+aq)) n3 nu (fun j=>tu (j+au)) n4 nw (fun j=>tw (j+aw)))),fun _ _=> .dead⟩
theorem s518 (n1:Bool) (ap np mp:Nat) (tp:Nat→Int) (n2:Bool) (aq nq mq:Nat) (tq:Nat→Int) (n3:Bool) (au nu mu:Nat) (tu:Nat→Int) (n4:Bool) (aw nw mw:Nat) (tw:Nat→Int) (hp:((ap+np≤mp∧np≤1000000)∧aq+nq≤mq∧nq≤1000000)∧(au+nu≤mu∧nu≤1000000)∧aw+nw≤mw∧nw≤1000000):Goes ((q518 n1 ap np mp tp n2 aq nq mq tq n3 au nu mu tu n4 aw nw mw tw)) ((p518 n1 ap np mp tp n2 aq nq mq tq n3 au nu mu tu n4 aw nw mw tw)) (S.samR n1 np (fun j=>tp (j+ap)) n2 nq (fun j=>tq (j+aq)) n3 nu (fun j=>tu (j+au)) n4 nw (fun j=>tw (j+aw))):=by
  obtain ⟨⟨⟨hp1,hp2⟩,hp3,hp4⟩,⟨hp5,hp6⟩,hp7,hp8⟩:=hp
  unfold S.samR p518
  with_reducible refine goes_ok (decide_eq_true ⟨⟨hp1,hp2⟩,hp5,hp6⟩) ?_
  cases g1:S.samI n1 np (fun j=>tp (j+ap)) n3 nu (fun j=>tu (j+au))
  · with_reducible refine goes_no rfl ?_
    exact goes_inr.mpr rfl
  with_reducible refine goes_ok rfl ?_
  with_reducible refine goes_ok (decide_eq_true ⟨⟨hp3,hp4⟩,hp7,hp8⟩) ?_
  cases g2:S.samI n2 nq (fun j=>tq (j+aq)) n4 nw (fun j=>tw (j+aw))
  · with_reducible refine goes_no rfl ?_
    exact goes_inr.mpr rfl
  with_reducible refine goes_ok rfl ?_
  exact goes_inr.mpr rfl
theorem k518_ok:k518.ok Tryz.prog:=by
  intro x hx
  obtain ⟨⟨n1,⟨ap,np,mp,tp,_⟩,n2,⟨aq,nq,mq,tq,_⟩,_⟩,⟨n3,⟨au,nu,mu,tu,_⟩,n4,⟨aw,nw,mw,tw,_⟩,_⟩,_⟩:=x
  obtain ⟨h1,h2⟩:=a518 n1 ap np mp tp n2 aq nq mq tq n3 au nu mu tu n4 aw nw mw tw (s518 n1 ap np mp tp n2 aq nq mq tq n3 au nu mu tu n4 aw nw mw tw (of_dec hx rfl))
  exact ⟨⟨400,(by decide:4+1+0≤400),h1⟩,h2⟩
noncomputable def xR4 (test:Bool→Prop→Prop→Prop):Ext:=consX test [k18,k19,k14,k21,k553,k550,k556,k522,k516,k517,k518]
theorem xR4_ok:ExtOk Tryz.prog (xR4 cond):=consX_ok ⟨k18_ok,k19_ok,k14_ok,k21_ok,k553_ok,k550_ok,k556_ok,k522_ok,k516_ok,k517_ok,k518_ok,trivial⟩
namespace S
noncomputable def ofR (v d:Int):Bool×Bool×Int×List Int×List Int:=if d=0 then (false,false,13,[],[]) else if v< -1152921504606846976∨v>1152921504606846976∨d< -1152921504606846976∨d>1152921504606846976 then (false,false,6,[],[]) else redE v d
end S
theorem bigI_okI {v:Int} (hv:(v.natAbs:Int)<S.pw 80):S.okI (S.bigI v).1 (S.bigI v).2.length (fun j=>S.at' (S.bigI v).2 j)=true∧S.sv (S.bigI v).1 (S.val (S.bigI v).2.length fun j=>S.at' (S.bigI v).2 j)=v:=okI_I hv
theorem pw4_80:(1000000000000000000000000:Int)≤S.pw 80:=by
  have h:=pw_mono (k:=4) (m:=80) (by decide)
  have e:S.pw 4=1000000000000000000000000:=rfl
  omega
theorem bigI_pos {v:Int} (h:v≠0):0<(S.bigI v).2.length:=len_pos (v:=(v.natAbs:Int)) (by omega)
noncomputable abbrev c514_e_0 (v d:Int):=S.mkR ((S.bigI v).1) (List.length ((S.bigI v).2)) (fun j=>S.at' ((S.bigI v).2) j) ((S.bigI d).1) (List.length ((S.bigI d).2)) fun j=>S.at' ((S.bigI d).2) j
noncomputable abbrev c514_e_1 (v d:Int):=Prod.snd (Prod.snd (Prod.snd (S.mkR ((S.bigI v).1) (List.length ((S.bigI v).2)) (fun j=>S.at' ((S.bigI v).2) j) ((S.bigI d).1) (List.length ((S.bigI d).2)) fun j=>S.at' ((S.bigI d).2) j)))
abbrev St514:=Empty
abbrev Rt514:=Bool×Bool×Int×List Int×List Int
noncomputable def V514 (v d:Int) (r:Rt514):PV:=PV.tup [PV.agg [PV.bool r.1,PV.own (1) (1) (List.length r.2.2.2.1),PV.bool r.2.1,PV.own (2) (1) (List.length r.2.2.2.2)],PV.int .i64 r.2.2.1]
noncomputable def N514 (v d:Int) (r:Rt514):List Blk:= [Blk.cols (List.length r.2.2.2.1) [Col.int .i64 fun j=>S.at' r.2.2.2.1 j],Blk.cols (List.length r.2.2.2.2) [Col.int .i64 fun j=>S.at' r.2.2.2.2 j]]
noncomputable def I514 (v d:Int):St514→Hd:=fun s=>s.elim
noncomputable def q514 (v d:Int):St514→Option (St514⊕Rt514):=fun s=>s.elim
noncomputable def p514 (v d:Int):Option (St514⊕Rt514):=bif (d==0) then (some (.inr (false,false,(13:Int),[],[]))) else (bif (decide (v< -1152921504606846976)) then (some (.inr (false,false,(6:Int),[],[]))) else (bif (decide (v>1152921504606846976)) then (some (.inr (false,false,(6:Int),[],[]))) else (bif (decide (d< -1152921504606846976)) then (some (.inr (false,false,(6:Int),[],[]))) else (bif (decide (d>1152921504606846976)) then (some (.inr (false,false,(6:Int),[],[]))) else (bif (decide ((-9223372036854775808:Int)≤v∧v≤9223372036854775807)) then (bif (decide ((-9223372036854775808:Int)≤d∧d≤9223372036854775807)) then (bif (decide ((0+List.length ((S.bigI v).2)≤List.length ((S.bigI v).2)∧List.length ((S.bigI v).2)≤1000000)∧0+List.length ((S.bigI d).2)≤List.length ((S.bigI d).2)∧List.length ((S.bigI d).2)≤1000000)) then (some (.inr (Prod.fst (c514_e_0 v d),Prod.fst (Prod.snd (c514_e_0 v d)),Prod.fst (Prod.snd (Prod.snd (c514_e_0 v d))),Prod.fst (Prod.snd (Prod.snd (Prod.snd (c514_e_0 v d)))),Prod.snd (Prod.snd (Prod.snd (Prod.snd (c514_e_0 v d))))))) else (none)) else (none)) else (none))))))
noncomputable abbrev u514_e_0:=(PV.tup [PV.agg [PV.tf false,PV.nils,PV.tf false,PV.nils],PV.int .i64 (6:Int)])
noncomputable def Te514 (test:TT) (Kst:KS) (Kret:KR) (v:Int) (d:Int):Prop:=test (d==0) (Kret (PV.tup [PV.agg [PV.tf false,PV.nils,PV.tf false,PV.nils],PV.int .i64 (13:Int)]) ([[]]) (1)) (test (decide (v< -1152921504606846976)) (Kret (u514_e_0) ([[]]) (1)) (test (decide (v>1152921504606846976)) (Kret (u514_e_0) ([[]]) (1)) (test (decide (d< -1152921504606846976)) (Kret (u514_e_0) ([[]]) (1)) (test (decide (d>1152921504606846976)) (Kret (u514_e_0) ([[]]) (1)) (test (decide ((-9223372036854775808:Int)≤v∧v≤9223372036854775807)) (test (decide ((-9223372036854775808:Int)≤d∧d≤9223372036854775807)) (test (decide ((0+List.length (S.bigI v).2≤List.length (S.bigI v).2∧List.length (S.bigI v).2≤1000000)∧0+List.length (S.bigI d).2≤List.length (S.bigI d).2∧List.length (S.bigI d).2≤1000000)) (Kret (PV.tup [PV.agg [PV.bool (c514_e_0 v d).1,PV.own (6) (1) (List.length (c514_e_1 v d).1),PV.bool (c514_e_0 v d).2.1,PV.own (7) (1) (List.length (c514_e_1 v d).2)],PV.int .i64 (c514_e_0 v d).2.2.1]) ([[(7,true,Blk.cols (List.length (c514_e_1 v d).2) [Col.int .i64 fun j=>S.at' (c514_e_1 v d).2 j]),(6,true,Blk.cols (List.length (c514_e_1 v d).1) [Col.int .i64 fun j=>S.at' (c514_e_1 v d).1 j])]]) (8)) (False)) (False)) (False))))))
theorem te514 (test:TT) (Kst:KS) (Kret:KR) (v d:Int):run test Tryz.env true (xR4 test) true 400 ⟨14,[.cd (mkFn Tryz.f14).body],argT 0 [.int .i64 v,.int .i64 d],[[],[]],0⟩ (proj 0 [] Kst Kret)=
  Te514 test Kst Kret v d:=by kernel_rfl
attribute [local irreducible] Int.subNatNat in
theorem be514 (v d:Int) (Kst:KS) (Kret:KR) (x:St514⊕Rt514) (hS:HS 0 400 ((I514 v d)) Kst x) (hR:HR 0 400 ((V514 v d)) (fun r=> [newL (0+1) ((N514 v d) r)++ []]) Kret x) (h:p514 v d=some x):Te514 cond Kst Kret v d:=by
  unfold Te514
  unfold p514 at h
  refine bif_split h (fun c0 h=> ?_) (fun c0 h=>bif_split h (fun c1 h=> ?_) (fun c1 h=>bif_split h (fun c2 h=> ?_) (fun c2 h=>bif_split h (fun c3 h=> ?_) (fun c3 h=>bif_split h (fun c4 h=> ?_) (fun c4 h=>bif_split h (fun c5 h=>bif_split h (fun c6 h=>bif_split h (fun c7 h=>ret_at hR _ h (fun n=>bif Nat.beq n 1 then 6 else bif Nat.beq n 2 then 7 else n) rfl rfl rfl (rn_tup ⟨(rn_agg ⟨(rn_bool rfl),(rn_own (use_own rfl) rfl rfl),(rn_bool rfl),(rn_own (use_own rfl) rfl rfl),trivial⟩),(rn_int rfl),trivial⟩) rfl (entl_new (use_own rfl) rfl (Nat.le_of_eq rfl) (rcs_int (fun _ _=>rfl) rcs_nil) (entl_new (use_own rfl) rfl (Nat.le_of_eq rfl) (rcs_int (fun _ _=>rfl) rcs_nil) entl_nil))) (fun c7 h=> ?_)) (fun c6 h=> ?_)) (fun c5 h=> ?_))))))
  all_goals first
    |exact ret_at hR _ h (fun n=>bif Nat.beq n 1 then 399 else bif Nat.beq n 2 then 398 else n) rfl rfl rfl (rn_tup ⟨(rn_agg ⟨(rn_bool_tf rfl),(rn_own_nils rfl),(rn_bool_tf rfl),(rn_own_nils rfl),trivial⟩),(rn_int rfl),trivial⟩) rfl (entl_fresh (use_own rfl) (fresh_ok rfl) (entl_fresh (use_own rfl) (fresh_ok rfl) entl_nil))
    |exact no_some h
theorem a514 (v d:Int) {r:Rt514} (h:Goes ((q514 v d)) ((p514 v d)) r):CallR Tryz.prog 14 [.int .i64 v,.int .i64 d] [[]] 0 ((V514 v d) r) ((fun r=> [newL (0+1) ((N514 v d) r)++ []]) r) 400∧ ∃ F,Tryz.prog.funcs[14]? =some F∧F.body.isSome=true∧(F.name== "runtime.NumGoroutine")=false:=by
  refine dec_calls (f:=14) (lo:=0) (hi:=400) Tryz.envOk Tryz.mixed xR4_ok ((I514 v d)) ((V514 v d)) (fun r=> [newL (0+1) ((N514 v d) r)++ []]) (fn:=mkFn Tryz.f14) (ts:= []) (n:=400) rfl (by decide) (by simp) (names_of rfl) ?_ ?_ ?_ h
  · intro s; exact s.elim
  · intro Kst Kret x hS hR h
    exact Holds.eq (te514 cond Kst Kret v d) (be514 v d Kst Kret x hS hR h)
  · intro Kst Kret x hS hR s h; exact s.elim
noncomputable abbrev w514 {α:Type} (g:Int→Int→α) (x:Int×Int×Unit):α:=g x.1 x.2.1
noncomputable def k514:Con:=⟨14,[.one (.plain (.int .i64)),.one (.plain (.int .i64))],w514 (fun v d=>decide ((-9223372036854775808≤v∧v≤9223372036854775807)∧ -9223372036854775808≤d∧d≤9223372036854775807)),w514 (fun v d=>(V514 v d) ((S.ofR v d).1,(S.ofR v d).2.1,(S.ofR v d).2.2.1,(S.ofR v d).2.2.2.1,(S.ofR v d).2.2.2.2)),w514 (fun v d=>(N514 v d) ((S.ofR v d).1,(S.ofR v d).2.1,(S.ofR v d).2.2.1,(S.ofR v d).2.2.2.1,(S.ofR v d).2.2.2.2)),fun _ _=> .dead⟩
theorem s514 (v d:Int) (hp:(-9223372036854775808≤v∧v≤9223372036854775807)∧ -9223372036854775808≤d∧d≤9223372036854775807):Goes ((q514 v d)) ((p514 v d)) (((S.ofR v d).1,(S.ofR v d).2.1,(S.ofR v d).2.2.1,(S.ofR v d).2.2.2.1,(S.ofR v d).2.2.2.2)):=by
  obtain ⟨hp1,hp2⟩:=hp
  unfold S.ofR p514
  by_cases h0:d=0
  · rw [if_pos h0]
    with_reducible refine goes_ok (beq_iff_eq.mpr h0) ?_
    exact goes_inr.mpr rfl
  rw [if_neg h0]
  with_reducible refine goes_no (beq_eq_false_iff_ne.mpr h0) ?_
  by_cases h1:v< -1152921504606846976
  · rw [if_pos (by omega)]
    with_reducible refine goes_ok (decide_eq_true h1) ?_
    exact goes_inr.mpr rfl
  with_reducible refine goes_no (decide_eq_false h1) ?_
  by_cases h2:v>1152921504606846976
  · rw [if_pos (by omega)]
    with_reducible refine goes_ok (decide_eq_true h2) ?_
    exact goes_inr.mpr rfl
  with_reducible refine goes_no (decide_eq_false h2) ?_
  by_cases h3:d< -1152921504606846976
  · rw [if_pos (by omega)]
    with_reducible refine goes_ok (decide_eq_true h3) ?_
    exact goes_inr.mpr rfl
  with_reducible refine goes_no (decide_eq_false h3) ?_
  by_cases h4:d>1152921504606846976
  · rw [if_pos (by omega)]
    with_reducible refine goes_ok (decide_eq_true h4) ?_
    exact goes_inr.mpr rfl
  with_reducible refine goes_no (decide_eq_false h4) ?_
  rw [if_neg (by omega)]
  have hw:=pw4_80
  have o1:=bigI_okI (v:=v) (by omega)
  have o2:=bigI_okI (v:=d) (by omega)
  have l1:=(okI_G o1.1).1
  have l2:=(okI_G o2.1).1
  have hd:=bigI_pos h0
  have hm:S.mkR (S.bigI v).1 (S.bigI v).2.length (fun j=>S.at' (S.bigI v).2 j) (S.bigI d).1 (S.bigI d).2.length (fun j=>S.at' (S.bigI d).2 j)=S.redE v d:=by
    unfold S.mkR
    rw [if_pos ⟨o1.1,o2.1⟩,if_neg (by omega),o1.2,o2.2]
  with_reducible refine goes_ok (decide_eq_true hp1) ?_
  with_reducible refine goes_ok (decide_eq_true hp2) ?_
  with_reducible refine goes_ok (decide_eq_true ⟨⟨by omega,by omega⟩,by omega,by omega⟩) ?_
  simp only [-eq_self,c514_e_0,c514_e_1,hm]
  exact goes_inr.mpr rfl
theorem k514_ok:k514.ok Tryz.prog:=by
  intro x hx
  obtain ⟨v,d,_⟩:=x
  obtain ⟨h1,h2⟩:=a514 v d (s514 v d (of_dec hx rfl))
  exact ⟨⟨400,(by decide:0+1+2≤400),h1⟩,h2⟩
noncomputable abbrev c515_e_0 (v d:Int):=S.redV (S.sv ((S.bigI v).1) (S.val (List.length ((S.bigI v).2)) fun j=>S.at' ((S.bigI v).2) j)) (S.sv ((S.bigI d).1) (S.val (List.length ((S.bigI d).2)) fun j=>S.at' ((S.bigI d).2) j))
abbrev St515:=Empty
abbrev Rt515:=Bool×Bool×Int×List Int×List Int
noncomputable def V515 (v d:Int) (r:Rt515):PV:=PV.tup [PV.agg [PV.bool r.1,PV.own (1) (1) (List.length r.2.2.2.1),PV.bool r.2.1,PV.own (2) (1) (List.length r.2.2.2.2)],PV.int .i64 r.2.2.1]
noncomputable def N515 (v d:Int) (r:Rt515):List Blk:= [Blk.cols (List.length r.2.2.2.1) [Col.int .i64 fun j=>S.at' r.2.2.2.1 j],Blk.cols (List.length r.2.2.2.2) [Col.int .i64 fun j=>S.at' r.2.2.2.2 j]]
noncomputable def I515 (v d:Int):St515→Hd:=fun s=>s.elim
noncomputable def q515 (v d:Int):St515→Option (St515⊕Rt515):=fun s=>s.elim
noncomputable def p515 (v d:Int):Option (St515⊕Rt515):=bif (d==0) then (some (.inr (false,false,(13:Int),[],[]))) else (bif (decide (v< -1152921504606846976)) then (some (.inr (false,false,(6:Int),[],[]))) else (bif (decide (v>1152921504606846976)) then (some (.inr (false,false,(6:Int),[],[]))) else (bif (decide (d< -1152921504606846976)) then (some (.inr (false,false,(6:Int),[],[]))) else (bif (decide (d>1152921504606846976)) then (some (.inr (false,false,(6:Int),[],[]))) else (bif (decide ((-9223372036854775808:Int)≤v∧v≤9223372036854775807)) then (bif (decide ((-9223372036854775808:Int)≤d∧d≤9223372036854775807)) then (bif (decide (((0+List.length ((S.bigI v).2)≤List.length ((S.bigI v).2)∧List.length ((S.bigI v).2)≤1000000)∧0+List.length ((S.bigI d).2)≤List.length ((S.bigI d).2)∧List.length ((S.bigI d).2)≤1000000)∧(S.okI ((S.bigI v).1) (List.length ((S.bigI v).2)) fun j=>S.at' ((S.bigI v).2) j)=true∧(S.okI ((S.bigI d).1) (List.length ((S.bigI d).2)) fun j=>S.at' ((S.bigI d).2) j)=true∧0<List.length ((S.bigI d).2))) then (some (.inr (Prod.fst (c515_e_0 v d),Prod.fst (Prod.snd (c515_e_0 v d)),(0:Int),Prod.fst (Prod.snd (Prod.snd (c515_e_0 v d))),Prod.snd (Prod.snd (Prod.snd (c515_e_0 v d)))))) else (none)) else (none)) else (none))))))
noncomputable abbrev u515_e_0:=(PV.tup [PV.agg [PV.tf false,PV.nils,PV.tf false,PV.nils],PV.int .i64 (6:Int)])
noncomputable def Te515 (test:TT) (Kst:KS) (Kret:KR) (v:Int) (d:Int):Prop:=test (d==0) (Kret (PV.tup [PV.agg [PV.tf false,PV.nils,PV.tf false,PV.nils],PV.int .i64 (13:Int)]) ([[]]) (1)) (test (decide (v< -1152921504606846976)) (Kret (u515_e_0) ([[]]) (1)) (test (decide (v>1152921504606846976)) (Kret (u515_e_0) ([[]]) (1)) (test (decide (d< -1152921504606846976)) (Kret (u515_e_0) ([[]]) (1)) (test (decide (d>1152921504606846976)) (Kret (u515_e_0) ([[]]) (1)) (test (decide ((-9223372036854775808:Int)≤v∧v≤9223372036854775807)) (test (decide ((-9223372036854775808:Int)≤d∧d≤9223372036854775807)) (test (decide (((0+List.length (S.bigI v).2≤List.length (S.bigI v).2∧List.length (S.bigI v).2≤1000000)∧0+List.length (S.bigI d).2≤List.length (S.bigI d).2∧List.length (S.bigI d).2≤1000000)∧(S.okI (S.bigI v).1 (List.length (S.bigI v).2) fun j=>S.at' (S.bigI v).2 j)=true∧(S.okI (S.bigI d).1 (List.length (S.bigI d).2) fun j=>S.at' (S.bigI d).2 j)=true∧0<List.length (S.bigI d).2)) (Kret (PV.tup [PV.agg [PV.bool (c515_e_0 v d).1,PV.own (6) (1) (List.length (c515_e_0 v d).2.2.1),PV.bool (c515_e_0 v d).2.1,PV.own (7) (1) (List.length (c515_e_0 v d).2.2.2)],PV.int .i64 (0:Int)]) ([[(7,true,Blk.cols (List.length (c515_e_0 v d).2.2.2) [Col.int .i64 fun j=>S.at' (c515_e_0 v d).2.2.2 j]),(6,true,Blk.cols (List.length (c515_e_0 v d).2.2.1) [Col.int .i64 fun j=>S.at' (c515_e_0 v d).2.2.1 j])]]) (8)) (False)) (False)) (False))))))
theorem te515 (test:TT) (Kst:KS) (Kret:KR) (v d:Int):run test Tryz.env true (xR4 test) true 400 ⟨15,[.cd (mkFn Tryz.f15).body],argT 0 [.int .i64 v,.int .i64 d],[[],[]],0⟩ (proj 0 [] Kst Kret)=
  Te515 test Kst Kret v d:=by kernel_rfl
attribute [local irreducible] Int.subNatNat in
theorem be515 (v d:Int) (Kst:KS) (Kret:KR) (x:St515⊕Rt515) (hS:HS 0 400 ((I515 v d)) Kst x) (hR:HR 0 400 ((V515 v d)) (fun r=> [newL (0+1) ((N515 v d) r)++ []]) Kret x) (h:p515 v d=some x):Te515 cond Kst Kret v d:=by
  unfold Te515
  unfold p515 at h
  refine bif_split h (fun c0 h=> ?_) (fun c0 h=>bif_split h (fun c1 h=> ?_) (fun c1 h=>bif_split h (fun c2 h=> ?_) (fun c2 h=>bif_split h (fun c3 h=> ?_) (fun c3 h=>bif_split h (fun c4 h=> ?_) (fun c4 h=>bif_split h (fun c5 h=>bif_split h (fun c6 h=>bif_split h (fun c7 h=>ret_at hR _ h (fun n=>bif Nat.beq n 1 then 6 else bif Nat.beq n 2 then 7 else n) rfl rfl rfl (rn_tup ⟨(rn_agg ⟨(rn_bool rfl),(rn_own (use_own rfl) rfl rfl),(rn_bool rfl),(rn_own (use_own rfl) rfl rfl),trivial⟩),(rn_int rfl),trivial⟩) rfl (entl_new (use_own rfl) rfl (Nat.le_of_eq rfl) (rcs_int (fun _ _=>rfl) rcs_nil) (entl_new (use_own rfl) rfl (Nat.le_of_eq rfl) (rcs_int (fun _ _=>rfl) rcs_nil) entl_nil))) (fun c7 h=> ?_)) (fun c6 h=> ?_)) (fun c5 h=> ?_))))))
  all_goals first
    |exact ret_at hR _ h (fun n=>bif Nat.beq n 1 then 399 else bif Nat.beq n 2 then 398 else n) rfl rfl rfl (rn_tup ⟨(rn_agg ⟨(rn_bool_tf rfl),(rn_own_nils rfl),(rn_bool_tf rfl),(rn_own_nils rfl),trivial⟩),(rn_int rfl),trivial⟩) rfl (entl_fresh (use_own rfl) (fresh_ok rfl) (entl_fresh (use_own rfl) (fresh_ok rfl) entl_nil))
    |exact no_some h
theorem a515 (v d:Int) {r:Rt515} (h:Goes ((q515 v d)) ((p515 v d)) r):CallR Tryz.prog 15 [.int .i64 v,.int .i64 d] [[]] 0 ((V515 v d) r) ((fun r=> [newL (0+1) ((N515 v d) r)++ []]) r) 400∧ ∃ F,Tryz.prog.funcs[15]? =some F∧F.body.isSome=true∧(F.name== "runtime.NumGoroutine")=false:=by
  refine dec_calls (f:=15) (lo:=0) (hi:=400) Tryz.envOk Tryz.mixed xR4_ok ((I515 v d)) ((V515 v d)) (fun r=> [newL (0+1) ((N515 v d) r)++ []]) (fn:=mkFn Tryz.f15) (ts:= []) (n:=400) rfl (by decide) (by simp) (names_of rfl) ?_ ?_ ?_ h
  · intro s; exact s.elim
  · intro Kst Kret x hS hR h
    exact Holds.eq (te515 cond Kst Kret v d) (be515 v d Kst Kret x hS hR h)
  · intro Kst Kret x hS hR s h; exact s.elim
noncomputable abbrev w515 {α:Type} (g:Int→Int→α) (x:Int×Int×Unit):α:=g x.1 x.2.1
noncomputable def k515:Con:=⟨15,[.one (.plain (.int .i64)),.one (.plain (.int .i64))],w515 (fun v d=>decide ((-9223372036854775808≤v∧v≤9223372036854775807)∧ -9223372036854775808≤d∧d≤9223372036854775807)),w515 (fun v d=>(V515 v d) ((S.ofR v d).1,(S.ofR v d).2.1,(S.ofR v d).2.2.1,(S.ofR v d).2.2.2.1,(S.ofR v d).2.2.2.2)),w515 (fun v d=>(N515 v d) ((S.ofR v d).1,(S.ofR v d).2.1,(S.ofR v d).2.2.1,(S.ofR v d).2.2.2.1,(S.ofR v d).2.2.2.2)),fun _ _=> .dead⟩
theorem s515 (v d:Int) (hp:(-9223372036854775808≤v∧v≤9223372036854775807)∧ -9223372036854775808≤d∧d≤9223372036854775807):Goes ((q515 v d)) ((p515 v d)) (((S.ofR v d).1,(S.ofR v d).2.1,(S.ofR v d).2.2.1,(S.ofR v d).2.2.2.1,(S.ofR v d).2.2.2.2)):=by
  obtain ⟨hp1,hp2⟩:=hp
  unfold S.ofR p515
  by_cases h0:d=0
  · rw [if_pos h0]
    with_reducible refine goes_ok (beq_iff_eq.mpr h0) ?_
    exact goes_inr.mpr rfl
  rw [if_neg h0]
  with_reducible refine goes_no (beq_eq_false_iff_ne.mpr h0) ?_
  by_cases h1:v< -1152921504606846976
  · rw [if_pos (by omega)]
    with_reducible refine goes_ok (decide_eq_true h1) ?_
    exact goes_inr.mpr rfl
  with_reducible refine goes_no (decide_eq_false h1) ?_
  by_cases h2:v>1152921504606846976
  · rw [if_pos (by omega)]
    with_reducible refine goes_ok (decide_eq_true h2) ?_
    exact goes_inr.mpr rfl
  with_reducible refine goes_no (decide_eq_false h2) ?_
  by_cases h3:d< -1152921504606846976
  · rw [if_pos (by omega)]
    with_reducible refine goes_ok (decide_eq_true h3) ?_
    exact goes_inr.mpr rfl
  with_reducible refine goes_no (decide_eq_false h3) ?_
  by_cases h4:d>1152921504606846976
  · rw [if_pos (by omega)]
    with_reducible refine goes_ok (decide_eq_true h4) ?_
    exact goes_inr.mpr rfl
  with_reducible refine goes_no (decide_eq_false h4) ?_
  rw [if_neg (by omega)]
  have hw:=pw4_80
  have o1:=bigI_okI (v:=v) (by omega)
  have o2:=bigI_okI (v:=d) (by omega)
  have l1:=(okI_G o1.1).1
  have l2:=(okI_G o2.1).1
  have hd:=bigI_pos h0
  with_reducible refine goes_ok (decide_eq_true hp1) ?_
  with_reducible refine goes_ok (decide_eq_true hp2) ?_
  with_reducible refine goes_ok (decide_eq_true ⟨⟨⟨by omega,by omega⟩,by omega,by omega⟩,o1.1,o2.1,by omega⟩) ?_
  simp only [-eq_self,c515_e_0,o1.2,o2.2]
  exact goes_inr.mpr rfl
theorem k515_ok:k515.ok Tryz.prog:=by
  intro x hx
  obtain ⟨v,d,_⟩:=x
  obtain ⟨h1,h2⟩:=a515 v d (s515 v d (of_dec hx rfl))
  exact ⟨⟨400,(by decide:0+1+2≤400),h1⟩,h2⟩
namespace S
noncomputable def fIdx (s:ByteArray) (c:Int):Int:=firstIdx s c.toNat.toUInt8
end S
set_option maxHeartbeats 400000 in
theorem ib_call (s:ByteArray) (c:Int) (w:World):Calls Tryz.prog 151 #[.string s,.int .u8 c] w fun e w'=>e= .returned (.int .i64 (S.fIdx s c))∧w=w':=by
  have hd: ∀ W:World,(callFunc 160 #[.string s,.int .u8 c]).run Tryz.prog W= .ok (.value (.int .i64 (firstIdx s c.toNat.toUInt8))) W:=fun W=>by
    rw [run_callFunc_indexByte Tryz.func160 (by kernel_rfl) (by kernel_rfl) (by kernel_rfl) (by kernel_rfl),run_indexByte_string]; rfl
  go_enter Tryz.func151,Tryz.ntmps151
  go_wp2
  go_ret
  exact ⟨rfl,rfl⟩
noncomputable def k93:Con:=⟨151,[.one (.plain .str),.one (.plain (.int .u8))],fun _=>true,fun x=> .int .i64 (S.fIdx x.1 x.2.1),fun _=> [],fun _ _=> .dead⟩
theorem k93_ok:k93.ok Tryz.prog:=by
  intro x hx
  obtain ⟨s,c,_⟩:=x
  refine ⟨⟨1,Nat.le_refl _,fun σ w vals hv hs hn=> ?_⟩,Tryz.f151,Tryz.func151,by kernel_rfl,by kernel_rfl⟩
  have e:vals= #[.string s,.int .u8 c]:=by
    obtain ⟨l⟩:=vals
    cases hv with
    | cons _ _ _ _ h1 hl=>
      cases hl with
      |cons _ _ _ _ h2 hl=>
        cases hl
        cases h1; cases h2; rfl
  rw [e]
  refine (ib_call s c w).mono fun e w' h=> ?_
  obtain ⟨he,hw⟩:=h
  subst hw
  exact ⟨_,σ,he,⟨.int _ _,hs,Mono.refl σ,fun _ _=>rfl,Frm.refl w _⟩⟩
noncomputable def xIX (test:Bool→Prop→Prop→Prop):Ext:=consX test [k93]
theorem xIX_ok:ExtOk Tryz.prog (xIX cond):=consX_ok ⟨k93_ok,trivial⟩
noncomputable def k512:Con:=⟨12,[],fun _=>true,fun _=> .bool true,fun _=> [],fun _ _=> .dead⟩
theorem te512 (Kst:KS) (Kret:KR):run cond Tryz.env true (xIX cond) false 4000 ⟨12,[.cd (mkFn Tryz.f12).body],[],[[],[]],0⟩ (proj 0 [] Kst Kret)=Kret (.tf true) [[]] 860:=by kernel_rfl
theorem k512_ok:k512.ok Tryz.prog:=awake_ok (fn:=mkFn Tryz.f12) (hi:=861) (n:=4000) Tryz.envOk Tryz.mixed xIX_ok rfl (by decide) (by decide:Nat.ble 860 861=true) te512
noncomputable def xR6 (test:Bool→Prop→Prop→Prop):Ext:=consX test [k512,k514,k515,k516,k517,k518]
theorem xR6_ok:ExtOk Tryz.prog (xR6 cond):=consX_ok ⟨k512_ok,k514_ok,k515_ok,k516_ok,k517_ok,k518_ok,trivial⟩
theorem samR_self {L M:List Int} {c1 c2:Bool}:S.samR c1 L.length (fun j=>S.at' L j) c2 M.length (fun j=>S.at' M j) c1 L.length (fun j=>S.at' L j) c2 M.length (fun j=>S.at' M j)=true:=by
  unfold S.samR
  rw [samI_self,samI_self]; rfl
theorem redE_len {a c:Int} (hc:c≠0) (la:(a.natAbs:Int)<S.pw 80) (lc:(c.natAbs:Int)<S.pw 80):(S.redE a c).2.2.2.1.length≤80∧(S.redE a c).2.2.2.2.length≤80:=by
  have h1:=rn_le (a:=a) hc
  have h2:=rd_le (a:=a) hc
  exact ⟨grp_le (by omega),grp_le (by omega)⟩
theorem mkR_len {n1 n2:Bool} {n m:Nat} {t u:Nat→Int}:(S.mkR n1 n t n2 m u).2.2.2.1.length≤80∧(S.mkR n1 n t n2 m u).2.2.2.2.length≤80:=by
  unfold S.mkR
  split
  · rename_i h
    split
    · exact ⟨Nat.zero_le _,Nat.zero_le _⟩
    · rename_i hm
      have h1:=sv_lt h.1
      have h2:=sv_lt h.2
      have p1:=pw_mono (k:=n) (m:=80) (okI_G h.1).1
      have p2:=pw_mono (k:=m) (m:=80) (okI_G h.2).1
      exact redE_len (sv_ne h.2 hm) (by omega) (by omega)
  · exact ⟨Nat.zero_le _,Nat.zero_le _⟩
theorem ofR_len {v d:Int}:(S.ofR v d).2.2.2.1.length≤80∧(S.ofR v d).2.2.2.2.length≤80:=by
  unfold S.ofR
  split
  · exact ⟨Nat.zero_le _,Nat.zero_le _⟩
  · split
    · exact ⟨Nat.zero_le _,Nat.zero_le _⟩
    · have hw:=pw4_80
      exact redE_len (by omega) (by omega) (by omega)
noncomputable abbrev c503_e_0 (n1:Bool) (ap np:Nat) (tp:NI) (n2:Bool) (aq nq:Nat) (tq:NI):=decide (((0+List.length (Prod.fst (Prod.snd (Prod.snd (Prod.snd (S.mkR n1 np (fun j=>tp (j+ap)) n2 nq fun j=>tq (j+aq))))))≤List.length (Prod.fst (Prod.snd (Prod.snd ((S.mkR n1 np (fun j=>tp (j+ap)) n2 nq fun j=>tq (j+aq)).2))))∧List.length (Prod.fst (Prod.snd (Prod.snd ((S.mkR n1 np (fun j=>tp (j+ap)) n2 nq fun j=>tq (j+aq)).2))))≤1000000)∧0+List.length (Prod.snd (Prod.snd (Prod.snd (Prod.snd (S.mkR n1 np (fun j=>tp (j+ap)) n2 nq fun j=>tq (j+aq))))))≤List.length (Prod.snd (Prod.snd (Prod.snd ((S.mkR n1 np (fun j=>tp (j+ap)) n2 nq fun j=>tq (j+aq)).2))))∧List.length (Prod.snd (Prod.snd (Prod.snd ((S.mkR n1 np (fun j=>tp (j+ap)) n2 nq fun j=>tq (j+aq)).2))))≤1000000)∧(0+List.length (Prod.fst (Prod.snd (Prod.snd (Prod.snd (S.mkR n1 np (fun j=>tp (j+ap)) n2 nq fun j=>tq (j+aq))))))≤List.length (Prod.fst (Prod.snd (Prod.snd ((S.mkR n1 np (fun j=>tp (j+ap)) n2 nq fun j=>tq (j+aq)).2))))∧List.length (Prod.fst (Prod.snd (Prod.snd ((S.mkR n1 np (fun j=>tp (j+ap)) n2 nq fun j=>tq (j+aq)).2))))≤1000000)∧0+List.length (Prod.snd (Prod.snd (Prod.snd (Prod.snd (S.mkR n1 np (fun j=>tp (j+ap)) n2 nq fun j=>tq (j+aq))))))≤List.length (Prod.snd (Prod.snd (Prod.snd ((S.mkR n1 np (fun j=>tp (j+ap)) n2 nq fun j=>tq (j+aq)).2))))∧List.length (Prod.snd (Prod.snd (Prod.snd ((S.mkR n1 np (fun j=>tp (j+ap)) n2 nq fun j=>tq (j+aq)).2))))≤1000000)
noncomputable abbrev c503_e_1 (n1:Bool) (ap np:Nat) (tp:NI) (n2:Bool) (aq nq:Nat) (tq:NI):=S.samR ((S.mkR n1 np (fun j=>tp (j+ap)) n2 nq fun j=>tq (j+aq)).1) (List.length (Prod.fst (Prod.snd ((S.mkR n1 np (fun j=>tp (j+ap)) n2 nq fun j=>tq (j+aq)).2.2)))) (fun j=>S.at' (Prod.fst (Prod.snd ((S.mkR n1 np (fun j=>tp (j+ap)) n2 nq fun j=>tq (j+aq)).2.2))) j) ((S.mkR n1 np (fun j=>tp (j+ap)) n2 nq fun j=>tq (j+aq)).2.1) (List.length (Prod.snd (Prod.snd ((S.mkR n1 np (fun j=>tp (j+ap)) n2 nq fun j=>tq (j+aq)).2.2)))) (fun j=>S.at' (Prod.snd (Prod.snd ((S.mkR n1 np (fun j=>tp (j+ap)) n2 nq fun j=>tq (j+aq)).2.2))) j) ((S.mkR n1 np (fun j=>tp (j+ap)) n2 nq fun j=>tq (j+aq)).1) (List.length (Prod.fst (Prod.snd ((S.mkR n1 np (fun j=>tp (j+ap)) n2 nq fun j=>tq (j+aq)).2.2)))) (fun j=>S.at' (Prod.fst (Prod.snd ((S.mkR n1 np (fun j=>tp (j+ap)) n2 nq fun j=>tq (j+aq)).2.2))) j) ((S.mkR n1 np (fun j=>tp (j+ap)) n2 nq fun j=>tq (j+aq)).2.1) (List.length (Prod.snd (Prod.snd ((S.mkR n1 np (fun j=>tp (j+ap)) n2 nq fun j=>tq (j+aq)).2.2)))) fun j=>S.at' (Prod.snd (Prod.snd ((S.mkR n1 np (fun j=>tp (j+ap)) n2 nq fun j=>tq (j+aq)).2.2))) j
noncomputable abbrev c503_e_2 (mp:Nat) (tp:NI) (mq:Nat) (tq:NI):=([[(1,false,Blk.cols mq [Col.int .i64 tq]),(0,false,Blk.cols mp [Col.int .i64 tp])]])
noncomputable abbrev c503_e_3 (v d:Int):=decide (((0+List.length ((S.ofR v d).2.2.2.1)≤List.length ((S.ofR v d).2.2.2.1)∧List.length ((S.ofR v d).2.2.2.1)≤1000000)∧0+List.length ((S.ofR v d).2.2.2.2)≤List.length ((S.ofR v d).2.2.2.2)∧List.length ((S.ofR v d).2.2.2.2)≤1000000)∧(0+List.length ((S.ofR v d).2.2.2.1)≤List.length ((S.ofR v d).2.2.2.1)∧List.length ((S.ofR v d).2.2.2.1)≤1000000)∧0+List.length ((S.ofR v d).2.2.2.2)≤List.length ((S.ofR v d).2.2.2.2)∧List.length ((S.ofR v d).2.2.2.2)≤1000000)
noncomputable abbrev c503_e_4 (v d:Int):=S.samR ((S.ofR v d).1) (List.length ((S.ofR v d).2.2.2.1)) (fun j=>S.at' ((S.ofR v d).2.2.2.1) j) ((S.ofR v d).2.1) (List.length ((S.ofR v d).2.2.2.2)) (fun j=>S.at' ((S.ofR v d).2.2.2.2) j) ((S.ofR v d).1) (List.length ((S.ofR v d).2.2.2.1)) (fun j=>S.at' ((S.ofR v d).2.2.2.1) j) ((S.ofR v d).2.1) (List.length ((S.ofR v d).2.2.2.2)) fun j=>S.at' ((S.ofR v d).2.2.2.2) j
noncomputable abbrev c503_e_5 (v d:Int):=decide (((-9223372036854775808:Int)≤v∧v≤9223372036854775807)∧(-9223372036854775808:Int)≤d∧d≤9223372036854775807)
abbrev St503:=Empty
abbrev Rt503:=Bool
noncomputable def V503 (v d:Int) (n1:Bool) (ap np mp:Nat) (tp:NI) (n2:Bool) (aq nq mq:Nat) (tq:NI) (r:Rt503):PV:=PV.bool r
noncomputable def N503 (v d:Int) (n1:Bool) (ap np mp:Nat) (tp:NI) (n2:Bool) (aq nq mq:Nat) (tq:NI) (r:Rt503):List Blk:= []
noncomputable def I503 (v d:Int) (n1:Bool) (ap np mp:Nat) (tp:NI) (n2:Bool) (aq nq mq:Nat) (tq:NI):St503→Hd:=fun s=>s.elim
noncomputable def q503 (v d:Int) (n1:Bool) (ap np mp:Nat) (tp:NI) (n2:Bool) (aq nq mq:Nat) (tq:NI):St503→Option (St503⊕Rt503):=fun s=>s.elim
noncomputable def p503 (v d:Int) (n1:Bool) (ap np mp:Nat) (tp:NI) (n2:Bool) (aq nq mq:Nat) (tq:NI):Option (St503⊕Rt503):=bif (lim .i64 ((0:Int)+(↑np:Int))) then (bif (lim .i64 ((0:Int)+(↑np:Int)+(↑nq:Int))) then (bif (decide ((0:Int)+(↑np:Int)+(↑nq:Int)≤170)) then (bif (c503_e_5 v d) then (bif (decide ((ap+np≤mp∧np≤1000000)∧aq+nq≤mq∧nq≤1000000)) then (bif ((S.ofR v d).2.2.1==(S.ofR v d).2.2.1) then (bif (c503_e_3 v d) then (bif (c503_e_4 v d) then (bif ((S.mkR n1 np (fun j=>tp (j+ap)) n2 nq fun j=>tq (j+aq)).2.2.1==(S.mkR n1 np (fun j=>tp (j+ap)) n2 nq fun j=>tq (j+aq)).2.2.1) then (bif (c503_e_0 n1 ap np tp n2 aq nq tq) then (bif (c503_e_1 n1 ap np tp n2 aq nq tq) then (some (.inr (true))) else (some (.inr (false)))) else (none)) else (some (.inr (false)))) else (some (.inr (false)))) else (none)) else (some (.inr (false)))) else (none)) else (none)) else (some (.inr (true)))) else (none)) else (none)
noncomputable def Te503 (test:TT) (Kst:KS) (Kret:KR) (v d:Int) (n1:Bool) (ap np mp:Nat) (tp:NI) (n2:Bool) (aq nq mq:Nat) (tq:NI):Prop:=test (true) (test (true) (test (true) (test (true) (test (true) (test (lim .i64 ((0:Int)+(↑np:Int))) (test (true) (test (true) (test (true) (test (lim .i64 ((0:Int)+(↑np:Int)+(↑nq:Int))) (test (true) (test (false) (test (false) (False) (False)) (test (decide ((0:Int)+(↑np:Int)+(↑nq:Int)≤170)) (test (c503_e_5 v d) (test (c503_e_5 v d) (test (true) (test (true) (test (decide ((ap+np≤mp∧np≤1000000)∧aq+nq≤mq∧nq≤1000000)) (test (true) (test (true) (test (decide ((ap+np≤mp∧np≤1000000)∧aq+nq≤mq∧nq≤1000000)) (test ((S.ofR v d).2.2.1==(S.ofR v d).2.2.1) (test (c503_e_3 v d) (test (c503_e_4 v d) (test ((S.mkR n1 np (fun j=>tp (j+ap)) n2 nq fun j=>tq (j+aq)).2.2.1==(S.mkR n1 np (fun j=>tp (j+ap)) n2 nq fun j=>tq (j+aq)).2.2.1) (test (c503_e_0 n1 ap np tp n2 aq nq tq) (test (c503_e_1 n1 ap np tp n2 aq nq tq) (Kret (PV.tf true) (c503_e_2 mp tp mq tq) (22)) (Kret (PV.tf false) (c503_e_2 mp tp mq tq) (22))) (False)) (Kret (PV.tf false) (c503_e_2 mp tp mq tq) (21))) (Kret (PV.tf false) (c503_e_2 mp tp mq tq) (21))) (False)) (Kret (PV.tf false) (c503_e_2 mp tp mq tq) (20))) (False)) (False)) (False)) (False)) (False)) (False)) (False)) (False)) (test (true) (test (true) (Kret (PV.tf true) (c503_e_2 mp tp mq tq) (5)) (Kret (PV.tf false) (c503_e_2 mp tp mq tq) (5))) (False)))) (False)) (False)) (False)) (test (decide ((0:Int)+(↑np:Int)≤170)) (test (c503_e_5 v d) (test (c503_e_5 v d) (test (true) (test (true) (test (decide ((ap+np≤mp∧np≤1000000)∧aq+nq≤mq∧nq≤1000000)) (test (true) (test (true) (test (decide ((ap+np≤mp∧np≤1000000)∧aq+nq≤mq∧nq≤1000000)) (test ((S.ofR v d).2.2.1==(S.ofR v d).2.2.1) (test (c503_e_3 v d) (test (c503_e_4 v d) (test ((S.mkR n1 np (fun j=>tp (j+ap)) n2 nq fun j=>tq (j+aq)).2.2.1==(S.mkR n1 np (fun j=>tp (j+ap)) n2 nq fun j=>tq (j+aq)).2.2.1) (test (c503_e_0 n1 ap np tp n2 aq nq tq) (test (c503_e_1 n1 ap np tp n2 aq nq tq) (Kret (PV.tf true) (c503_e_2 mp tp mq tq) (22)) (Kret (PV.tf false) (c503_e_2 mp tp mq tq) (22))) (False)) (Kret (PV.tf false) (c503_e_2 mp tp mq tq) (21))) (Kret (PV.tf false) (c503_e_2 mp tp mq tq) (21))) (False)) (Kret (PV.tf false) (c503_e_2 mp tp mq tq) (20))) (False)) (False)) (False)) (False)) (False)) (False)) (False)) (False)) (test (true) (test (true) (Kret (PV.tf true) (c503_e_2 mp tp mq tq) (5)) (Kret (PV.tf false) (c503_e_2 mp tp mq tq) (5))) (False)))) (False)) (False)) (False)) (test (true) (test (c503_e_5 v d) (test (c503_e_5 v d) (test (true) (test (true) (test (decide ((ap+np≤mp∧np≤1000000)∧aq+nq≤mq∧nq≤1000000)) (test (true) (test (true) (test (decide ((ap+np≤mp∧np≤1000000)∧aq+nq≤mq∧nq≤1000000)) (test ((S.ofR v d).2.2.1==(S.ofR v d).2.2.1) (test (c503_e_3 v d) (test (c503_e_4 v d) (test ((S.mkR n1 np (fun j=>tp (j+ap)) n2 nq fun j=>tq (j+aq)).2.2.1==(S.mkR n1 np (fun j=>tp (j+ap)) n2 nq fun j=>tq (j+aq)).2.2.1) (test (c503_e_0 n1 ap np tp n2 aq nq tq) (test (c503_e_1 n1 ap np tp n2 aq nq tq) (Kret (PV.tf true) (c503_e_2 mp tp mq tq) (22)) (Kret (PV.tf false) (c503_e_2 mp tp mq tq) (22))) (False)) (Kret (PV.tf false) (c503_e_2 mp tp mq tq) (21))) (Kret (PV.tf false) (c503_e_2 mp tp mq tq) (21))) (False)) (Kret (PV.tf false) (c503_e_2 mp tp mq tq) (20))) (False)) (False)) (False)) (False)) (False)) (False)) (False)) (False)) (test (true) (test (true) (Kret (PV.tf true) (c503_e_2 mp tp mq tq) (5)) (Kret (PV.tf false) (c503_e_2 mp tp mq tq) (5))) (False)))) (False)) (test (true) (test (true) (Kret (PV.tf true) (c503_e_2 mp tp mq tq) (5)) (Kret (PV.tf false) (c503_e_2 mp tp mq tq) (5))) (False))) (False)
end Go.Ev
