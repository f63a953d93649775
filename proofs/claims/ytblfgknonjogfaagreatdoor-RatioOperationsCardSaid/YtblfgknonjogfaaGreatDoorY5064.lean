/-
  The um that the statement needs, 4 of 5.
-/
import Derived.Test.YtblfgknonjogfaaGreatDoorY5063
namespace Go.Ev
open Go.Proofs
open Go.RowKit
set_option linter.unusedVariables false
set_option linter.unusedSimpArgs false
set_option maxRecDepth 100000
noncomputable def k35:Con:=⟨61,[.agg [.plain (.bool),.list [.int .i64]],.agg [.plain (.bool),.list [.int .i64]]],w48 (fun n1 ap np mp tp n2 aq nq mq tq=>decide ((ap+np≤mp∧np≤1000000)∧aq+nq≤mq∧nq≤1000000)),w48 (fun n1 ap np mp tp n2 aq nq mq tq=>(V35) (S.fg n1 np (FS tp ap) n2 nq (FS tq aq))),w48 (fun n1 ap np mp tp n2 aq nq mq tq=>(N35) (S.fg n1 np (FS tp ap) n2 nq (FS tq aq))),fun _ _=> .dead⟩
theorem s35' (n1:Bool) (ap np mp:Nat) (tp:Nat→Int) (n2:Bool) (aq nq mq:Nat) (tq:Nat→Int): ∀ (k:Nat) (A B:Int),B.toNat<k→(0≤A∧A<S.pw 80)→(0≤B∧B<S.pw 80)→Comes (q35 n1 ap np mp tp n2 aq nq mq tq) (.h2 (S.f0 A).length (S.f0 B).length (S.f0 A) (S.f0 B)) (false,0,S.f0 (S.fh A B)):=by
 intro k
 induction k with
 |zero=>intro A B h; omega
 | succ k ih=>
  intro A B h hA hB
  have lA:=zw hA.2
  have lB:=zw hB.2
  have vA:=zq hA.1
  have vB:=zq hB.1
  have oA:(S.fW (S.f0 A).length (fun j=>S.at' (S.f0 A) j))=true:=yE
  have oB:(S.fW (S.f0 B).length (fun j=>S.at' (S.f0 B) j))=true:=yE
  apply Comes.of
  rw [q35]
  by_cases h0:B=0
  · rw [h0,wb hA.1]
    with_reducible refine zb ?_ ?_
    · apply decide_eq_false; rw [yS (by omega)]; decide
    with_reducible refine zH ?_ ?_
    · exact decide_eq_true ⟨by omega,by omega,zi oA⟩
    rw [vA]
    exact zG.mpr rfl
  · have hp:=yc (v:=B) (by omega)
    have m0:=Int.emod_nonneg A h0
    have m1:=Int.emod_lt_of_pos A (show 0<B by omega)
    have hm:=ih B (A % B) (by omega) hB ⟨m0,by omega⟩
    rw [vG] at hm
    with_reducible refine zH ?_ ?_
    · apply decide_eq_true; omega
    with_reducible refine zH ?_ ?_
    · exact decide_eq_true ⟨⟨by omega,by omega⟩,⟨by omega,by omega⟩,oA,oB,hp⟩
    rw [vA,vB]
    exact hm
theorem s35 (n1:Bool) (ap np mp:Nat) (tp:Nat→Int) (n2:Bool) (aq nq mq:Nat) (tq:Nat→Int) (hp:(ap+np≤mp∧np≤1000000)∧aq+nq≤mq∧nq≤1000000):zY ((q35 n1 ap np mp tp n2 aq nq mq tq)) ((p35 n1 ap np mp tp n2 aq nq mq tq)) (S.fg n1 np (fun j=>tp (j+ap)) n2 nq (fun j=>tq (j+aq))):=by
 obtain ⟨⟨hp1,hp2⟩,hp3,hp4⟩:=hp
 by_cases g1:S.fV n1 np (fun j=>tp (j+ap))=true
 · by_cases g2:S.fV n2 nq (fun j=>tq (j+aq))=true
   · obtain ⟨l1,k1⟩:=z9 g1
     obtain ⟨l2,k2⟩:=z9 g2
     have hr:S.fg n1 np (fun j=>tp (j+ap)) n2 nq (fun j=>tq (j+aq))=(false,0,S.f0 (S.fh (S.val np (fun j=>tp (j+ap))) (S.val nq (fun j=>tq (j+aq))))):=by unfold S.fg; rw [if_pos ⟨g1,g2⟩]
     rw [hr]
     have v1:=yM (zi k1)
     have v2:=yM (zi k2)
     have w1:=z5 (zi k1) l1
     have w2:=z5 (zi k2) l2
     have h0:zY (q35 n1 ap np mp tp n2 aq nq mq tq) ((q35 n1 ap np mp tp n2 aq nq mq tq) .h0) (false,0,S.f0 (S.fh (S.val np (fun j=>tp (j+ap))) (S.val nq (fun j=>tq (j+aq))))):=by
      rw [q35]
      by_cases hn:nq=0
      · have e:(S.val nq (fun j=>tq (j+aq)))=0:=by subst hn; rfl
        rw [e,wb v1]
        with_reducible refine zb ?_ ?_
        · apply decide_eq_false; omega
        with_reducible refine zH ?_ ?_
        · exact decide_eq_true ⟨hp1,hp2,zi k1⟩
        exact zG.mpr rfl
      · have vp:=yV k2 (by omega)
        with_reducible refine zH ?_ ?_
        · apply decide_eq_true; omega
        with_reducible refine zH ?_ ?_
        · exact decide_eq_true ⟨⟨hp1,hp3⟩,⟨by omega,by omega⟩,k1,k2,by omega⟩
        have m0:=Int.emod_nonneg (S.val np (fun j=>tp (j+ap))) (show (S.val nq (fun j=>tq (j+aq)))≠0 by omega)
        have m1:=Int.emod_lt_of_pos (S.val np (fun j=>tp (j+ap))) vp
        rw [← vG]
        generalize hR:(S.val np (fun j=>tp (j+ap))) % (S.val nq (fun j=>tq (j+aq)))=R at*
        show Comes (q35 n1 ap np mp tp n2 aq nq mq tq) (.h1 (S.f0 R)) _
        apply Comes.of
        rw [q35,hR]
        have lR:=zw (v:=R) (n:=80) (by omega)
        have oR:(S.fW (S.f0 R).length (fun j=>S.at' (S.f0 R) j))=true:=yE
        have vR:=zq m0
        by_cases hz:R=0
        · rw [hz,wb v2]
          with_reducible refine zb ?_ ?_
          · apply decide_eq_false; rw [yS (by omega)]; decide
          with_reducible refine zH ?_ ?_
          · exact decide_eq_true ⟨hp3,hp4,zi k2⟩
          exact zG.mpr rfl
        · have hp:=yc (v:=R) (by omega)
          have m2:=Int.emod_nonneg (S.val nq (fun j=>tq (j+aq))) hz
          have m3:=Int.emod_lt_of_pos (S.val nq (fun j=>tq (j+aq))) (show 0<R by omega)
          have hm:=s35' n1 ap np mp tp n2 aq nq mq tq (((S.val nq (fun j=>tq (j+aq))) % R).toNat+1) R ((S.val nq (fun j=>tq (j+aq))) % R) (by omega) ⟨m0,by omega⟩ ⟨m2,by omega⟩
          rw [vG] at hm
          with_reducible refine zH ?_ ?_
          · apply decide_eq_true; omega
          with_reducible refine zH ?_ ?_
          · exact decide_eq_true ⟨⟨hp3,by omega⟩,⟨by omega,by omega⟩,k2,oR,hp⟩
          rw [vR]
          exact hm
     unfold p35
     with_reducible refine zH (decide_eq_true ⟨hp1,hp2⟩) ?_
     with_reducible refine zH g1 ?_
     with_reducible refine zH (decide_eq_true ⟨hp3,hp4⟩) ?_
     with_reducible refine zH g2 ?_
     exact Comes.of h0
   · have hr:S.fg n1 np (fun j=>tp (j+ap)) n2 nq (fun j=>tq (j+aq))=(false,1,[]):=by unfold S.fg; rw [if_neg fun h=>g2 h.2]
     rw [hr]
     unfold p35
     with_reducible refine zH (decide_eq_true ⟨hp1,hp2⟩) ?_
     with_reducible refine zH g1 ?_
     with_reducible refine zH (decide_eq_true ⟨hp3,hp4⟩) ?_
     with_reducible refine zb (Bool.not_eq_true _ ▸ g2) ?_
     exact zG.mpr rfl
 · have hr:S.fg n1 np (fun j=>tp (j+ap)) n2 nq (fun j=>tq (j+aq))=(false,1,[]):=by unfold S.fg; rw [if_neg fun h=>g1 h.1]
   rw [hr]
   unfold p35
   with_reducible refine zH (decide_eq_true ⟨hp1,hp2⟩) ?_
   with_reducible refine zb (Bool.not_eq_true _ ▸ g1) ?_
   exact zG.mpr rfl
theorem k35_ok:k35.ok Tryz.prog:=by
 intro x hx
 obtain ⟨⟨n1,⟨ap,np,mp,tp,_⟩,_⟩,⟨n2,⟨aq,nq,mq,tq,_⟩,_⟩,_⟩:=x
 obtain ⟨h1,h2⟩:=a35 n1 ap np mp tp n2 aq nq mq tq (s35 n1 ap np mp tp n2 aq nq mq tq (zm hx rfl))
 exact ⟨⟨400,(by decide:2+1+1≤400),h1⟩,h2⟩
section
variable (fR:TT) (fS:KS) (fT:KR) (n1:Bool) (ap np mp:Nat) (tp:NI) (n2:Bool) (aq nq mq:Nat) (tq:NI)
abbrev St34:=Empty
abbrev Rt34:=Int×List Int
noncomputable def V34 (r:Rt34):PV:= .tup [.agg [.tf false,.own 3 1 r.2.length],.int .i64 r.1]
noncomputable def N34 (r:Rt34):List Blk:= [CI r.2]
noncomputable def I34:St34→Hd:=fun s=>s.elim
noncomputable def q34 (n1:Bool) (ap np mp:Nat) (tp:NI) (n2:Bool) (aq nq mq:Nat) (tq:NI):St34→Option (St34⊕Rt34):=fun s=>s.elim
noncomputable def p34 (n1:Bool) (ap np mp:Nat) (tp:NI) (n2:Bool) (aq nq mq:Nat) (tq:NI):Option (St34⊕Rt34):=bif (decide (ap+np≤mp∧np≤1000000)) then (bif (S.fV n1 np fun j=>tp (j+ap)) then (bif (decide (aq+nq≤mq∧nq≤1000000)) then (bif (S.fV n2 nq fun j=>tq (j+aq)) then (bif (decide ((ap+np≤mp∧aq+nq≤mq)∧(np≤800∧nq≤800)∧(S.fW np fun j=>tp (j+ap))=true∧(S.fW nq fun j=>tq (j+aq))=true)) then (bif ((↑((S.f0 (S.fh (S.val np fun j=>tp (j+ap)) (S.val nq fun j=>tq (j+aq)))).length):Int)==0) then (some (.inr ((0:Int),[]))) else (some (.inr ((0:Int),S.f0 (S.fh (S.val np fun j=>tp (j+ap)) (S.val nq fun j=>tq (j+aq))))))) else none) else (some (.inr ((1:Int),[])))) else none) else (some (.inr ((1:Int),[])))) else none
def Te34:Prop:=fR (decide (ap+np≤mp∧np≤1000000)) (fR (S.fV n1 np (FS tp ap)) (fR (decide (aq+nq≤mq∧nq≤1000000)) (fR (S.fV n2 nq (FS tq aq)) (fR (decide ((ap+np≤mp∧aq+nq≤mq)∧(np≤800∧nq≤800)∧(S.fW np (FS tp ap))=true∧(S.fW nq (FS tq aq))=true)) (fR ((↑((S.f0 (S.fh (S.val np (FS tp ap)) (S.val nq (FS tq aq)))).length):Int)==0) (fT (.tup [.agg [.tf false,.nils],.int .i64 0]) ([[(1,false,CB mq tq),(0,false,CB mp tp)]]) 10) (fT (.tup [.agg [.tf false,.own 8 1 (S.f0 (S.fh (S.val np (FS tp ap)) (S.val nq (FS tq aq)))).length],.int .i64 0]) ([[(1,false,CB mq tq),(0,false,CB mp tp),(8,true,CI (S.f0 (S.fh (S.val np (FS tp ap)) (S.val nq (FS tq aq)))))]]) 10)) False) (fT (.tup [.agg [.tf false,.nils],.int .i64 1]) ([[(1,false,CB mq tq),(0,false,CB mp tp)]]) 7)) False) (fT (.tup [.agg [.tf false,.nils],.int .i64 1]) ([[(1,false,CB mq tq),(0,false,CB mp tp)]]) 6)) False
theorem te34:run fR Tryz.env true (xG6 fR) true 400 ⟨99,[.cd (zU Tryz.f99).body],z8 0 [.agg [.bool n1,.loose ⟨0,1,ap,0⟩ np],.agg [.bool n2,.loose ⟨1,1,aq,0⟩ nq]],[[],[(0,(false,CB mp tp)),(1,(false,CB mq tq))]],2⟩ (zr 2 [] fS fT)=
 Te34 fR fT n1 ap np mp tp n2 aq nq mq tq:=by kernel_rfl
noncomputable abbrev J34:Rt34→zS:=fun r=> [yC (2+1) ((N34) r)++ [(0,(false,CB mp tp)),(1,(false,CB mq tq))]]
attribute [local irreducible] Int.subNatNat in
theorem a34 {r:Rt34} (h:zY ((q34 n1 ap np mp tp n2 aq nq mq tq)) ((p34 n1 ap np mp tp n2 aq nq mq tq)) r):zn Tryz.prog 99 [.agg [.bool n1,.loose ⟨0,1,ap,0⟩ np],.agg [.bool n2,.loose ⟨1,1,aq,0⟩ nq]] [[(0,(false,CB mp tp)),(1,(false,CB mq tq))]] 2 ((V34) r) ((J34 mp tp mq tq) r) 400∧HB Tryz.prog 99:=by
 refine zf Tryz.envOk Tryz.mixed gn ((I34)) ((V34)) (J34 mp tp mq tq) (fn:=zU Tryz.f99) (ts:= []) (n:=400) rfl (by decide) (by simp) (zW rfl) ?_ ?_ ?_ h
 · intro s; exact s.elim
 · intro fS fT x hS hR h
   refine Holds.eq (te34 cond fS fT n1 ap np mp tp n2 aq nq mq tq) ?_
   unfold Te34
   unfold p34 at h
   refine zA h (fun c0 h=>zA h (fun c1 h=>zA h (fun c2 h=>zA h (fun c3 h=>zA h (fun c4 h=>zA h (fun c5 h=> ?_) (fun c5 h=>zV hR _ h (fun n=>bif Nat.beq n 3 then 8 else n) rfl rfl rfl (zk ⟨(zc ⟨(yw rfl),(zX (zD rfl) rfl rfl),trivial⟩),(zI rfl),trivial⟩) rfl (zL (zD rfl) rfl (Nat.le_of_eq rfl) (zN (fun _ _=>rfl) zM) (zB (zC rfl) rfl rfl (zB (zC rfl) rfl rfl zE))))) (fun c4 h=> ?_)) (fun c3 h=> ?_)) (fun c2 h=> ?_)) (fun c1 h=> ?_)) (fun c0 h=> ?_)
   all_goals first
     |exact zV hR _ h (fun n=>bif Nat.beq n 3 then 399 else n) rfl rfl rfl (zk ⟨(zc ⟨(yw rfl),(zO rfl),trivial⟩),(zI rfl),trivial⟩) rfl (zT (zD rfl) (za rfl) (zB (zC rfl) rfl rfl (zB (zC rfl) rfl rfl zE)))
     |exact zF h
 · intro fS fT x hS hR s h; exact s.elim
end
noncomputable def k34:Con:=⟨99,[.agg [.plain (.bool),.list [.int .i64]],.agg [.plain (.bool),.list [.int .i64]]],w48 (fun n1 ap np mp tp n2 aq nq mq tq=>decide ((ap+np≤mp∧np≤1000000)∧aq+nq≤mq∧nq≤1000000)),w48 (fun n1 ap np mp tp n2 aq nq mq tq=>(V34) ((S.fg n1 np (FS tp ap) n2 nq (FS tq aq)).2)),w48 (fun n1 ap np mp tp n2 aq nq mq tq=>(N34) ((S.fg n1 np (FS tp ap) n2 nq (FS tq aq)).2)),fun _ _=> .dead⟩
theorem s34 (n1:Bool) (ap np mp:Nat) (tp:Nat→Int) (n2:Bool) (aq nq mq:Nat) (tq:Nat→Int) (hp:(ap+np≤mp∧np≤1000000)∧aq+nq≤mq∧nq≤1000000):zY ((q34 n1 ap np mp tp n2 aq nq mq tq)) ((p34 n1 ap np mp tp n2 aq nq mq tq)) (((S.fg n1 np (fun j=>tp (j+ap)) n2 nq (fun j=>tq (j+aq))).2.1,(S.fg n1 np (fun j=>tp (j+ap)) n2 nq (fun j=>tq (j+aq))).2.2)):=by
 obtain ⟨⟨hp1,hp2⟩,hp3,hp4⟩:=hp
 by_cases g1:S.fV n1 np (fun j=>tp (j+ap))=true
 · by_cases g2:S.fV n2 nq (fun j=>tq (j+aq))=true
   · obtain ⟨l1,k1⟩:=z9 g1
     obtain ⟨l2,k2⟩:=z9 g2
     have hr:S.fg n1 np (fun j=>tp (j+ap)) n2 nq (fun j=>tq (j+aq))=(false,0,S.f0 (S.fh (S.val np (fun j=>tp (j+ap))) (S.val nq (fun j=>tq (j+aq))))):=by unfold S.fg; rw [if_pos ⟨g1,g2⟩]
     rw [hr]
     unfold p34
     with_reducible refine zH (decide_eq_true ⟨hp1,hp2⟩) ?_
     with_reducible refine zH g1 ?_
     with_reducible refine zH (decide_eq_true ⟨hp3,hp4⟩) ?_
     with_reducible refine zH g2 ?_
     with_reducible refine zH ?_ ?_
     · exact decide_eq_true ⟨⟨hp1,hp3⟩,⟨by omega,by omega⟩,k1,k2⟩
     generalize S.f0 (S.fh (S.val np (fun j=>tp (j+ap))) (S.val nq (fun j=>tq (j+aq))))=L
     by_cases h:L.length=0
     · rw [List.length_eq_zero_iff.mp h]
       with_reducible refine zH ?_ ?_
       · decide
       exact zG.mpr rfl
     · with_reducible refine zb ?_ ?_
       · rw [beq_eq_false_iff_ne]; omega
       exact zG.mpr rfl
   · have hr:S.fg n1 np (fun j=>tp (j+ap)) n2 nq (fun j=>tq (j+aq))=(false,1,[]):=by unfold S.fg; rw [if_neg fun h=>g2 h.2]
     rw [hr]
     unfold p34
     with_reducible refine zH (decide_eq_true ⟨hp1,hp2⟩) ?_
     with_reducible refine zH g1 ?_
     with_reducible refine zH (decide_eq_true ⟨hp3,hp4⟩) ?_
     with_reducible refine zb (Bool.not_eq_true _ ▸ g2) ?_
     exact zG.mpr rfl
 · have hr:S.fg n1 np (fun j=>tp (j+ap)) n2 nq (fun j=>tq (j+aq))=(false,1,[]):=by unfold S.fg; rw [if_neg fun h=>g1 h.1]
   rw [hr]
   unfold p34
   with_reducible refine zH (decide_eq_true ⟨hp1,hp2⟩) ?_
   with_reducible refine zb (Bool.not_eq_true _ ▸ g1) ?_
   exact zG.mpr rfl
theorem k34_ok:k34.ok Tryz.prog:=by
 intro x hx
 obtain ⟨⟨n1,⟨ap,np,mp,tp,_⟩,_⟩,⟨n2,⟨aq,nq,mq,tq,_⟩,_⟩,_⟩:=x
 obtain ⟨h1,h2⟩:=a34 n1 ap np mp tp n2 aq nq mq tq (s34 n1 ap np mp tp n2 aq nq mq tq (zm hx rfl))
 exact ⟨⟨400,(by decide:2+1+1≤400),h1⟩,h2⟩
theorem jY {n1 n2:Bool} {V W:Int} (hV:0≤V) (hW:0≤W) (h1:0<V∨n1=false) (h2:0<W∨n2=false):S.fv (S.sv n1 V) (S.sv n2 W)=bif n1 then (bif n2 then S.fv W V else-1) else (bif n2 then 1 else S.fv V W):=by
 unfold S.fv S.sv
 cases n1<;>cases n2<;>simp only [cond_true,cond_false,Bool.true_eq_false,or_false] at* <;>(repeat' split)<;>omega
section
variable (fR:TT) (fS:KS) (fT:KR) (n1:Bool) (ap np mp:Nat) (tp:NI) (n2:Bool) (aq nq mq:Nat) (tq:NI)
abbrev St32:=Empty
abbrev Rt32:=Int
noncomputable def V32 (r:Rt32):PV:= .int .i64 r
noncomputable def N32 (r:Rt32):List Blk:= []
noncomputable def I32:St32→Hd:=fun s=>s.elim
noncomputable def q32 (n1:Bool) (ap np mp:Nat) (tp:NI) (n2:Bool) (aq nq mq:Nat) (tq:NI):St32→Option (St32⊕Rt32):=fun s=>s.elim
noncomputable def p32 (n1:Bool) (ap np mp:Nat) (tp:NI) (n2:Bool) (aq nq mq:Nat) (tq:NI):Option (St32⊕Rt32):=bif n1 then (bif n2 then (bif (decide (aq+nq≤mq∧nq≤1000000∧ap+np≤mp∧np≤1000000∧(S.fW nq fun j=>tq (j+aq))=true∧(S.fW np fun j=>tp (j+ap))=true)) then (some (.inr (S.fv (S.val nq fun j=>tq (j+aq)) (S.val np fun j=>tp (j+ap))))) else none) else (some (.inr ((-1:Int))))) else (bif n2 then (some (.inr ((1:Int)))) else (bif (decide (ap+np≤mp∧np≤1000000∧aq+nq≤mq∧nq≤1000000∧(S.fW np fun j=>tp (j+ap))=true∧(S.fW nq fun j=>tq (j+aq))=true)) then (some (.inr (S.fv (S.val np fun j=>tp (j+ap)) (S.val nq fun j=>tq (j+aq))))) else none))
noncomputable abbrev u32_e_0:=([[(1,false,Blk.cols mq [Col.int IntKind.i64 tq]),(0,false,Blk.cols mp [Col.int IntKind.i64 tp])]])
noncomputable abbrev u32_e_1:=decide (aq+nq≤mq∧nq≤1000000∧ap+np≤mp∧np≤1000000∧(S.fW nq fun j=>tq (j+aq))=true∧(S.fW np fun j=>tp (j+ap))=true)
noncomputable abbrev u32_e_2:=decide (ap+np≤mp∧np≤1000000∧aq+nq≤mq∧nq≤1000000∧(S.fW np fun j=>tp (j+ap))=true∧(S.fW nq fun j=>tq (j+aq))=true)
def Te32:Prop:=fR n1 (fR n2 (fR n2 (fR n1 (fR n1 (fR (u32_e_1 ap np mp tp aq nq mq tq) (fT (.int .i64 (S.fv (S.val nq (FS tq aq)) (S.val np (FS tp ap)))) (u32_e_0 mp tp mq tq) 5) False) (fR (u32_e_2 ap np mp tp aq nq mq tq) (fT (.int .i64 (S.fv (S.val np (FS tp ap)) (S.val nq (FS tq aq)))) (u32_e_0 mp tp mq tq) 5) False)) (fT (.int .i64 1) (u32_e_0 mp tp mq tq) 4)) (fR n1 (fR (u32_e_1 ap np mp tp aq nq mq tq) (fT (.int .i64 (S.fv (S.val nq (FS tq aq)) (S.val np (FS tp ap)))) (u32_e_0 mp tp mq tq) 5) False) (fR (u32_e_2 ap np mp tp aq nq mq tq) (fT (.int .i64 (S.fv (S.val np (FS tp ap)) (S.val nq (FS tq aq)))) (u32_e_0 mp tp mq tq) 5) False))) (fT (.int .i64 (-1:Int)) (u32_e_0 mp tp mq tq) 4)) (fR n2 (fR n1 (fR n1 (fR (u32_e_1 ap np mp tp aq nq mq tq) (fT (.int .i64 (S.fv (S.val nq (FS tq aq)) (S.val np (FS tp ap)))) (u32_e_0 mp tp mq tq) 5) False) (fR (u32_e_2 ap np mp tp aq nq mq tq) (fT (.int .i64 (S.fv (S.val np (FS tp ap)) (S.val nq (FS tq aq)))) (u32_e_0 mp tp mq tq) 5) False)) (fT (.int .i64 1) (u32_e_0 mp tp mq tq) 4)) (fR n1 (fR (u32_e_1 ap np mp tp aq nq mq tq) (fT (.int .i64 (S.fv (S.val nq (FS tq aq)) (S.val np (FS tp ap)))) (u32_e_0 mp tp mq tq) 5) False) (fR (u32_e_2 ap np mp tp aq nq mq tq) (fT (.int .i64 (S.fv (S.val np (FS tp ap)) (S.val nq (FS tq aq)))) (u32_e_0 mp tp mq tq) 5) False)))
theorem te32:run fR Tryz.env true (xG2 fR) true 400 ⟨87,[.cd (zU Tryz.f87).body],z8 0 [.agg [.bool n1,.loose ⟨0,1,ap,0⟩ np],.agg [.bool n2,.loose ⟨1,1,aq,0⟩ nq]],[[],[(0,(false,CB mp tp)),(1,(false,CB mq tq))]],2⟩ (zr 2 [] fS fT)=
 Te32 fR fT n1 ap np mp tp n2 aq nq mq tq:=by kernel_rfl
noncomputable abbrev J32:Rt32→zS:=fun r=> [yC (2+1) ((N32) r)++ [(0,(false,CB mp tp)),(1,(false,CB mq tq))]]
attribute [local irreducible] Int.subNatNat in
theorem a32 {r:Rt32} (h:zY ((q32 n1 ap np mp tp n2 aq nq mq tq)) ((p32 n1 ap np mp tp n2 aq nq mq tq)) r):zn Tryz.prog 87 [.agg [.bool n1,.loose ⟨0,1,ap,0⟩ np],.agg [.bool n2,.loose ⟨1,1,aq,0⟩ nq]] [[(0,(false,CB mp tp)),(1,(false,CB mq tq))]] 2 ((V32) r) ((J32 mp tp mq tq) r) 400∧HB Tryz.prog 87:=by
 refine zf Tryz.envOk Tryz.mixed oe ((I32)) ((V32)) (J32 mp tp mq tq) (fn:=zU Tryz.f87) (ts:= []) (n:=400) rfl (by decide) (by simp) (zW rfl) ?_ ?_ ?_ h
 · intro s; exact s.elim
 · intro fS fT x hS hR h
   refine Holds.eq (te32 cond fS fT n1 ap np mp tp n2 aq nq mq tq) ?_
   unfold Te32
   unfold p32 at h
   exact zA h (fun c0 h=>zA h (fun c1 h=>zJ c1 (zJ c0 (zJ c0 (zA h (fun c2 h=>zV hR _ h (fun n=>n) rfl rfl rfl (zI rfl) rfl (zB (zC rfl) rfl rfl (zB (zC rfl) rfl rfl zE))) (fun c2 h=>zF h))))) (fun c1 h=>zV hR _ h (fun n=>n) rfl rfl rfl (zI rfl) rfl (zB (zC rfl) rfl rfl (zB (zC rfl) rfl rfl zE)))) (fun c0 h=>zA h (fun c1 h=>zd c0 (zV hR _ h (fun n=>n) rfl rfl rfl (zI rfl) rfl (zB (zC rfl) rfl rfl (zB (zC rfl) rfl rfl zE)))) (fun c1 h=>zd c0 (zA h (fun c2 h=>zV hR _ h (fun n=>n) rfl rfl rfl (zI rfl) rfl (zB (zC rfl) rfl rfl (zB (zC rfl) rfl rfl zE))) (fun c2 h=>zF h))))
 · intro fS fT x hS hR s h; exact s.elim
end
noncomputable def k32:Con:=⟨87,[.agg [.plain (.bool),.list [.int .i64]],.agg [.plain (.bool),.list [.int .i64]]],w48 (fun n1 ap np mp tp n2 aq nq mq tq=>decide ((ap+np≤mp∧np≤1000000)∧aq+nq≤mq∧nq≤1000000∧S.fV n1 np (FS tp ap)=true∧S.fV n2 nq (FS tq aq)=true)),w48 (fun n1 ap np mp tp n2 aq nq mq tq=>(V32) (S.fu n1 np (FS tp ap) n2 nq (FS tq aq))),w48 (fun n1 ap np mp tp n2 aq nq mq tq=>(N32) (S.fu n1 np (FS tp ap) n2 nq (FS tq aq))),fun _ _=> .dead⟩
theorem s32 (n1:Bool) (ap np mp:Nat) (tp:Nat→Int) (n2:Bool) (aq nq mq:Nat) (tq:Nat→Int) (hp:(ap+np≤mp∧np≤1000000)∧aq+nq≤mq∧nq≤1000000∧S.fV n1 np (fun j=>tp (j+ap))=true∧S.fV n2 nq (fun j=>tq (j+aq))=true):zY ((q32 n1 ap np mp tp n2 aq nq mq tq)) ((p32 n1 ap np mp tp n2 aq nq mq tq)) (S.fu n1 np (fun j=>tp (j+ap)) n2 nq (fun j=>tq (j+aq))):=by
 obtain ⟨⟨hp1,hp2⟩,hp3,hp4,g1,g2⟩:=hp
 have d1:ap+np≤mp∧np≤1000000:=⟨hp1,hp2⟩
 have d2:aq+nq≤mq∧nq≤1000000:=⟨hp3,hp4⟩
 unfold S.fu
 · · rw [if_pos ⟨g1,g2⟩]
     obtain ⟨l1,k1,z1⟩:=yg.mp g1
     obtain ⟨l2,k2,z2⟩:=yg.mp g2
     have v1:=yM (zi k1)
     have v2:=yM (zi k2)
     rw [jY v1 v2 (by rcases z1 with h|h; exact .inl (yV k1 h); exact .inr h) (by rcases z2 with h|h; exact .inl (yV k2 h); exact .inr h)]
     have c1:aq+nq≤mq∧nq≤1000000∧ap+np≤mp∧np≤1000000∧S.fW nq (fun j=>tq (j+aq))=true∧S.fW np (fun j=>tp (j+ap))=true:=⟨hp3,hp4,hp1,hp2,k2,k1⟩
     have c2:ap+np≤mp∧np≤1000000∧aq+nq≤mq∧nq≤1000000∧S.fW np (fun j=>tp (j+ap))=true∧S.fW nq (fun j=>tq (j+aq))=true:=⟨hp1,hp2,hp3,hp4,k1,k2⟩
     unfold p32
     cases n1<;>cases n2<;>simp only [g1,g2,decide_eq_true d1,decide_eq_true d2,cond_true,cond_false,decide_eq_true c1,decide_eq_true c2]<;>exact zG.mpr rfl
theorem k32_ok:k32.ok Tryz.prog:=by
 intro x hx
 obtain ⟨⟨n1,⟨ap,np,mp,tp,_⟩,_⟩,⟨n2,⟨aq,nq,mq,tq,_⟩,_⟩,_⟩:=x
 obtain ⟨h1,h2⟩:=a32 n1 ap np mp tp n2 aq nq mq tq (s32 n1 ap np mp tp n2 aq nq mq tq (zm hx rfl))
 exact ⟨⟨400,(by decide:2+1+0≤400),h1⟩,h2⟩
section
variable {n1 n2:Bool} {n m:Nat} {t u:Nat→Int}
theorem fP {ng:Bool} (h:S.fV ng n t=true):((S.sv ng (S.val n t)).natAbs:Int)<S.pw n:=by
 have h1:=yM (zi (z9 h).2)
 have h2:=z5 (zi (z9 h).2) (Nat.le_refl n)
 cases ng<;>simp only [S.sv,cond_true,cond_false]<;>omega
theorem iP {ng:Bool} (h:S.fV ng n t=true) (hn:n≠0):S.sv ng (S.val n t)≠0:=by
 have h1:=yV (z9 h).2 (by omega)
 cases ng<;>simp only [S.sv,cond_true,cond_false]<;>omega
theorem jN {v w:Int} (hw:w≠0):((v / w).natAbs:Int)≤v.natAbs∧0≤v % w∧v % w<(w.natAbs:Int):=by
 refine ⟨?_,Int.emod_nonneg _ hw,Int.emod_lt _ hw⟩
 have h:=Int.natAbs_ediv_le_natAbs v w
 omega
theorem nR (g1:S.fV n1 n t=true) (g2:S.fV n2 m u=true) (hm:m≠0):S.fd n1 n t n2 m u=(decide (S.sv n1 (S.val n t) / S.sv n2 (S.val m u)<0),0,S.f0 (S.sv n1 (S.val n t) % S.sv n2 (S.val m u)),S.f0 ((S.sv n1 (S.val n t) / S.sv n2 (S.val m u)).natAbs:Int)):=by
 unfold S.fd
 rw [if_pos ⟨g1,g2⟩,if_neg hm]
 unfold S.eS
 rw [if_neg]
 have h1:=jN (v:=S.sv n1 (S.val n t)) (iP g2 hm)
 have h2:=fP g1
 have:=zw (v:=((S.sv n1 (S.val n t) / S.sv n2 (S.val m u)).natAbs:Int)) (n:=n) (by omega)
 have:=(z9 g1).1
 omega
end
noncomputable def xR1 (fR:Bool→Prop→Prop→Prop):Ext:=y2 fR [k32]
theorem im:yT Tryz.prog (xR1 cond):=yH ⟨k32_ok,trivial⟩
section
variable (fR:TT) (fS:KS) (fT:KR) (n1:Bool) (ap np mp:Nat) (tp:NI) (n2:Bool) (aq nq mq:Nat) (tq:NI)
inductive St556 where
 |h0 (x0:Int)
abbrev Rt556:=Bool
noncomputable def V556 (r:Rt556):PV:= .bool r
noncomputable def N556 (r:Rt556):List Blk:= []
noncomputable def I556:St556→Hd
  | .h0 x0=>⟨hd Tryz.f56 0,[.ptr ⟨2,0,0,0⟩,
 .ptr ⟨3,0,0,0⟩,.int .i64 x0],[[(2,(true,.cells [.bool n1,.loose ⟨0,1,ap,0⟩ np])),(3,(true,.cells [.bool n2,.loose ⟨1,1,aq,0⟩ nq]))],[(0,(false,CB mp tp)),(1,(false,CB mq tq))]],4⟩
noncomputable def q556 (n1:Bool) (ap np mp:Nat) (tp:NI) (n2:Bool) (aq nq mq:Nat) (tq:NI):St556→Option (St556⊕Rt556)| .h0 x0=>bif (decide (x0<(np:Int))) then (bif (decide ((0:Int)≤x0∧x0<(np:Int))) then (bif (decide (x0.toNat+ap<mp)) then (bif (decide ((0:Int)≤x0∧x0<(nq:Int))) then (bif (decide (x0.toNat+aq<mq)) then (bif (tp (x0.toNat+ap) != tq (x0.toNat+aq)) then (some (.inr false)) else (bif (lim .i64 (x0+1)) then (some (.inl (.h0 (x0+1)))) else none)) else none) else none) else none) else none) else (some (.inr true))
noncomputable def p556 (n1:Bool) (ap np mp:Nat) (tp:NI) (n2:Bool) (aq nq mq:Nat) (tq:NI):Option (St556⊕Rt556):=bif n1 then (bif n2 then (bif ((np:Int) != (nq:Int)) then (some (.inr false)) else (some (.inl (.h0 ((0:Int)))))) else (some (.inr false))) else (bif n2 then (some (.inr false)) else (bif ((np:Int) != (nq:Int)) then (some (.inr false)) else (some (.inl (.h0 ((0:Int)))))))
noncomputable abbrev u556_e_0:=([[(1,false,Blk.cols mq [Col.int IntKind.i64 tq]),(0,false,Blk.cols mp [Col.int IntKind.i64 tp])]])
def Te556:Prop:=fR n1 (fR n2 (fR ((np:Int) != (nq:Int)) (fT (.tf false) (u556_e_0 mp tp mq tq) 4) (fS (hd Tryz.f56 0) ([.ptr ⟨2,0,0,0⟩,.ptr ⟨3,0,0,0⟩,.int .i64 0]) ([[(1,false,CB mq tq),(0,false,CB mp tp),(3,true,.cells [.bool n2,.loose ⟨1,1,aq,0⟩ nq]),(2,true,.cells [.bool n1,.loose ⟨0,1,ap,0⟩ np])]]) 4)) (fT (.tf false) (u556_e_0 mp tp mq tq) 4)) (fR n2 (fT (.tf false) (u556_e_0 mp tp mq tq) 4) (fR ((np:Int) != (nq:Int)) (fT (.tf false) (u556_e_0 mp tp mq tq) 4) (fS (hd Tryz.f56 0) ([.ptr ⟨2,0,0,0⟩,.ptr ⟨3,0,0,0⟩,.int .i64 0]) ([[(1,false,CB mq tq),(0,false,CB mp tp),(3,true,.cells [.bool n2,.loose ⟨1,1,aq,0⟩ nq]),(2,true,.cells [.bool n1,.loose ⟨0,1,ap,0⟩ np])]]) 4)))
theorem te556:run fR Tryz.env true noX true 400 ⟨56,[.cd (zU Tryz.f56).body],z8 0 [.agg [.bool n1,.loose ⟨0,1,ap,0⟩ np],.agg [.bool n2,.loose ⟨1,1,aq,0⟩ nq]],[[],[(0,(false,CB mp tp)),(1,(false,CB mq tq))]],2⟩ (zr 2 [2,3,5] fS fT)=
 Te556 fR fS fT n1 ap np mp tp n2 aq nq mq tq:=by kernel_rfl
def T556_0 (x0:Int):Prop:=fR (decide (x0<(np:Int))) (fR (decide ((0:Int)≤x0∧x0<(np:Int))) (fR (decide (x0.toNat+ap<mp)) (fR (decide ((0:Int)≤x0∧x0<(nq:Int))) (fR (decide (x0.toNat+aq<mq)) (fR (tp (x0.toNat+ap) != tq (x0.toNat+aq)) (fT (.tf false) ([[(1,false,CB mq tq),(0,false,CB mp tp)]]) 4) (fR (lim .i64 (x0+1)) (fS (hd Tryz.f56 0) ([.ptr ⟨2,0,0,0⟩,.ptr ⟨3,0,0,0⟩,.int .i64 (x0+1)]) ([[(1,false,CB mq tq),(0,false,CB mp tp),(3,true,.cells [.bool n2,.loose ⟨1,1,aq,0⟩ nq]),(2,true,.cells [.bool n1,.loose ⟨0,1,ap,0⟩ np])]]) 4) False)) False) False) False) False) (fT (.tf true) ([[(1,false,CB mq tq),(0,false,CB mp tp)]]) 4)
theorem t556_0 (x0:Int):run fR Tryz.env true noX true 400 ⟨56,hd Tryz.f56 0,yd [2,3,5] [.ptr ⟨2,0,0,0⟩,
 .ptr ⟨3,0,0,0⟩,.int .i64 x0],[[(2,(true,.cells [.bool n1,.loose ⟨0,1,ap,0⟩ np])),(3,(true,.cells [.bool n2,.loose ⟨1,1,aq,0⟩ nq]))],[(0,(false,CB mp tp)),(1,(false,CB mq tq))]],4⟩ (zr 2 [2,3,5] fS fT)=
  T556_0 fR fS fT n1 ap np mp tp n2 aq nq mq tq x0:=by kernel_rfl
noncomputable abbrev J556:Rt556→zS:=fun r=> [yC (2+1) ((N556) r)++ [(0,(false,CB mp tp)),(1,(false,CB mq tq))]]
attribute [local irreducible] Int.subNatNat in
theorem a556 {r:Rt556} (h:zY ((q556 n1 ap np mp tp n2 aq nq mq tq)) ((p556 n1 ap np mp tp n2 aq nq mq tq)) r):zn Tryz.prog 56 [.agg [.bool n1,.loose ⟨0,1,ap,0⟩ np],.agg [.bool n2,.loose ⟨1,1,aq,0⟩ nq]] [[(0,(false,CB mp tp)),(1,(false,CB mq tq))]] 2 ((V556) r) ((J556 mp tp mq tq) r) 400∧HB Tryz.prog 56:=by
 refine zf Tryz.envOk Tryz.mixed yz ((I556 n1 ap np mp tp n2 aq nq mq tq)) ((V556)) (J556 mp tp mq tq) (fn:=zU Tryz.f56) (ts:= [2,3,5]) (n:=400) rfl (by decide) (by simp) (zW rfl) ?_ ?_ ?_ h
 · intro s; cases s<;>exact ⟨yo _ _,by simp [I556],zW rfl,Nat.le_of_ble_eq_true rfl⟩
 · intro fS fT x hS hR h
   refine Holds.eq (te556 cond fS fT n1 ap np mp tp n2 aq nq mq tq) ?_
   unfold Te556
   unfold p556 at h
   refine zA h (fun c0 h=>zA h (fun c1 h=>zA h (fun c2 h=> ?_) (fun c2 h=> ?_)) (fun c1 h=> ?_)) (fun c0 h=>zA h (fun c1 h=> ?_) (fun c1 h=>zA h (fun c2 h=> ?_) (fun c2 h=> ?_)))
   all_goals first
     |exact zV hR _ h (fun n=>n) rfl rfl rfl (zR rfl) rfl (zB (zC rfl) rfl rfl (zB (zC rfl) rfl rfl zE))
     |exact ze hS _ h (fun n=>bif Nat.beq n 2 then 2 else bif Nat.beq n 3 then 3 else n) rfl rfl rfl ⟨(xJ (zD rfl) rfl rfl),⟨(xJ (zD rfl) rfl rfl),⟨(zI rfl),trivial⟩⟩⟩ rfl (xX (zD rfl) rfl (by simp) (yb ⟨(zj rfl),(zQ (zC rfl) rfl rfl rfl),trivial⟩) (xX (zD rfl) rfl (by simp) (yb ⟨(zj rfl),(zQ (zC rfl) rfl rfl rfl),trivial⟩) (zB (zC rfl) rfl rfl (zB (zC rfl) rfl rfl zE))))
 · intro fS fT x hS hR s h
   cases s with
   |h0 x0=>
    refine Holds.eq (t556_0 cond fS fT n1 ap np mp tp n2 aq nq mq tq x0) ?_
    unfold T556_0
    rw [q556] at h
    exact zA h (fun c0 h=>zA h (fun c1 h=>zA h (fun c2 h=>zA h (fun c3 h=>zA h (fun c4 h=>zA h (fun c5 h=>zV hR _ h (fun n=>n) rfl rfl rfl (zR rfl) rfl (zB (zC rfl) rfl rfl (zB (zC rfl) rfl rfl zE))) (fun c5 h=>zA h (fun c6 h=>ze hS _ h (fun n=>bif Nat.beq n 2 then 2 else bif Nat.beq n 3 then 3 else n) rfl rfl rfl ⟨(xJ (zD rfl) rfl rfl),⟨(xJ (zD rfl) rfl rfl),⟨(zI rfl),trivial⟩⟩⟩ rfl (xX (zD rfl) rfl (by simp) (yb ⟨(zj rfl),(zQ (zC rfl) rfl rfl rfl),trivial⟩) (xX (zD rfl) rfl (by simp) (yb ⟨(zj rfl),(zQ (zC rfl) rfl rfl rfl),trivial⟩) (zB (zC rfl) rfl rfl (zB (zC rfl) rfl rfl zE))))) (fun c6 h=>zF h))) (fun c4 h=>zF h)) (fun c3 h=>zF h)) (fun c2 h=>zF h)) (fun c1 h=>zF h)) (fun c0 h=>zV hR _ h (fun n=>n) rfl rfl rfl (zR rfl) rfl (zB (zC rfl) rfl rfl (zB (zC rfl) rfl rfl zE)))
end
noncomputable def k556:Con:=⟨56,[.agg [.plain (.bool),.list [.int .i64]],.agg [.plain (.bool),.list [.int .i64]]],w48 (fun n1 ap np mp tp n2 aq nq mq tq=>decide ((ap+np≤mp∧np≤1000000)∧aq+nq≤mq∧nq≤1000000)),w48 (fun n1 ap np mp tp n2 aq nq mq tq=>(V556) (S.fo n1 np (FS tp ap) n2 nq (FS tq aq))),w48 (fun n1 ap np mp tp n2 aq nq mq tq=>(N556) (S.fo n1 np (FS tp ap) n2 nq (FS tq aq))),fun _ _=> .dead⟩
theorem e556 (n1:Bool) (ap np mp:Nat) (tp:Nat→Int) (n2:Bool) (aq nq mq:Nat) (tq:Nat→Int) (h:np=nq):decide (S.fb np (fun j=>tp (j+ap))=S.fb nq (fun j=>tq (j+aq)))=true↔ ∀ j,j<np→tp (j+ap)=tq (j+aq):=by
 rw [decide_eq_true_eq,qF]
 simp only [h,true_and]
theorem s556' (n1:Bool) (ap np mp:Nat) (tp:Nat→Int) (n2:Bool) (aq nq mq:Nat) (tq:Nat→Int) (hp:(ap+np≤mp∧np≤1000000)∧aq+nq≤mq∧nq≤1000000) (he:np=nq): ∀ k i:Nat,i+k=np→(∀ j,j<i→tp (j+ap)=tq (j+aq))→Comes (q556 n1 ap np mp tp n2 aq nq mq tq) (.h0 (i:Int)) (decide (S.fb np (fun j=>tp (j+ap))=S.fb nq (fun j=>tq (j+aq)))):=by
 obtain ⟨⟨hp1,hp2⟩,hp3,hp4⟩:=hp
 have hq:=e556 n1 ap np mp tp n2 aq nq mq tq he
 generalize decide (S.fb np (fun j=>tp (j+ap))=S.fb nq (fun j=>tq (j+aq)))=R at hq ⊢
 intro k
 induction k with
 |zero=>
  intro i hi hj
  obtain rfl:np=i:=by omega
  apply Comes.of
  show zY _ _ _
  (first|rw [q556]|unfold q556)
  repeat' (first|with_reducible refine zP (fun h=> ?_) (fun h=> ?_)<;>(try simp only [SH] at h)|exact zK.mpr (by omega))
  all_goals first|(exfalso; omega)|(exact zG.mpr (hq.mpr hj).symm)
 | succ k ih=>
  intro i hi hj
  have hw: ∀ {P:Prop},(R=true→P)→ ¬ P→false=R:=fun h1 h2=>by cases R; rfl; exact absurd (h1 rfl) h2
  apply Comes.of
  show zY _ _ _
  (first|rw [q556]|unfold q556)
  repeat' (first|with_reducible refine zP (fun h=> ?_) (fun h=> ?_)<;>(try simp only [SH] at h)|exact zK.mpr (by omega))
  all_goals first
    |(exfalso; omega)
    | (refine ih (i+1) (by omega) fun j hlt=> ?_
       rcases Nat.lt_or_eq_of_le (Nat.le_of_lt_succ hlt) with h1|h1
       · exact hj j h1
       · subst h1; simp_all)
    |(refine zG.mpr (hw (fun e=>hq.mp e i (by omega)) fun e=> ?_); simp_all)
theorem gz {n1 n2:Bool} {n m:Nat} {t u:Nat→Int} (h:n1≠n2∨n≠m):S.fo n1 n t n2 m u=false:=by
 refine decide_eq_false fun x=> ?_
 rcases h with h|h
 · exact h x.1
 · exact h (qF.mp x.2).1
theorem gR {n1 n2:Bool} {n m:Nat} {t u:Nat→Int} (h:n1=n2):S.fo n1 n t n2 m u=decide (S.fb n t=S.fb m u):=by
 unfold S.fo
 rw [Bool.eq_iff_iff,decide_eq_true_eq,decide_eq_true_eq]
 exact ⟨fun x=>x.2,fun x=>⟨h,x⟩⟩
theorem s556 (n1:Bool) (ap np mp:Nat) (tp:Nat→Int) (n2:Bool) (aq nq mq:Nat) (tq:Nat→Int) (hp:(ap+np≤mp∧np≤1000000)∧aq+nq≤mq∧nq≤1000000):zY ((q556 n1 ap np mp tp n2 aq nq mq tq)) ((p556 n1 ap np mp tp n2 aq nq mq tq)) (S.fo n1 np (fun j=>tp (j+ap)) n2 nq (fun j=>tq (j+aq))):=by
 by_cases hn:n1=n2
 · rw [gR hn]
   by_cases he:np=nq
   · have hm:=s556' n1 ap np mp tp n2 aq nq mq tq hp he np 0 (by omega) (fun j hj=>absurd hj (Nat.not_lt_zero j))
     subst hn
     cases n1 with
     |false=>
      show zY _ _ _
      unfold p556
      repeat' (first|with_reducible refine zP (fun h=> ?_) (fun h=> ?_)<;>(try simp only [SH] at h)|exact zK.mpr (by omega))
      all_goals first|(exfalso; omega)|exact hm
     |true=>
      show zY _ _ _
      unfold p556
      repeat' (first|with_reducible refine zP (fun h=> ?_) (fun h=> ?_)<;>(try simp only [SH] at h)|exact zK.mpr (by omega))
      all_goals first|(exfalso; omega)|exact hm
   · have hd:decide (S.fb np (fun j=>tp (j+ap))=S.fb nq (fun j=>tq (j+aq)))=false:=decide_eq_false (fun e=>he (qF.mp e).1)
     rw [hd]
     subst hn
     cases n1 with
     |false=>
      show zY _ _ _
      unfold p556
      repeat' (first|with_reducible refine zP (fun h=> ?_) (fun h=> ?_)<;>(try simp only [SH] at h)|exact zK.mpr (by omega))
      all_goals first|(exfalso; omega)|exact zG.mpr rfl
     |true=>
      show zY _ _ _
      unfold p556
      repeat' (first|with_reducible refine zP (fun h=> ?_) (fun h=> ?_)<;>(try simp only [SH] at h)|exact zK.mpr (by omega))
      all_goals first|(exfalso; omega)|exact zG.mpr rfl
 · rw [gz (.inl hn)]
   cases n1<;>cases n2<;>first|exact absurd rfl hn|(unfold p556; exact zG.mpr rfl)
theorem k556_ok:k556.ok Tryz.prog:=by
 intro x hx
 obtain ⟨⟨n1,⟨ap,np,mp,tp,_⟩,_⟩,⟨n2,⟨aq,nq,mq,tq,_⟩,_⟩,_⟩:=x
 obtain ⟨h1,h2⟩:=a556 n1 ap np mp tp n2 aq nq mq tq (s556 n1 ap np mp tp n2 aq nq mq tq (zm hx rfl))
 exact ⟨⟨400,(by decide:2+1+0≤400),h1⟩,h2⟩
section
variable (fR:TT) (fS:KS) (fT:KR) (n1:Bool) (ap np mp:Nat) (tp:NI) (n2:Bool) (aq nq mq:Nat) (tq:NI)
abbrev St541:=Empty
abbrev Rt541:=Bool
noncomputable def V541 (r:Rt541):PV:= .bool r
noncomputable def N541 (r:Rt541):List Blk:= []
noncomputable def I541:St541→Hd:=fun s=>s.elim
noncomputable def q541 (n1:Bool) (ap np mp:Nat) (tp:NI) (n2:Bool) (aq nq mq:Nat) (tq:NI):St541→Option (St541⊕Rt541):=fun s=>s.elim
noncomputable def p541 (n1:Bool) (ap np mp:Nat) (tp:NI) (n2:Bool) (aq nq mq:Nat) (tq:NI):Option (St541⊕Rt541):=bif (decide ((ap+np≤mp∧np≤1000000)∧aq+nq≤mq∧nq≤1000000∧(S.fV n1 np fun j=>tp (j+ap))=true∧(S.fV n2 nq fun j=>tq (j+aq))=true)) then (bif ((S.fu n1 np (fun j=>tp (j+ap)) n2 nq fun j=>tq (j+aq))==0) then (some (.inr true)) else (some (.inr false))) else none
def Te541:Prop:=fR (decide ((ap+np≤mp∧np≤1000000)∧aq+nq≤mq∧nq≤1000000∧(S.fV n1 np (FS tp ap))=true∧(S.fV n2 nq (FS tq aq))=true)) (fR ((S.fu n1 np (FS tp ap) n2 nq (FS tq aq))==0) (fT (.tf true) ([[(1,false,CB mq tq),(0,false,CB mp tp)]]) 5) (fT (.tf false) ([[(1,false,CB mq tq),(0,false,CB mp tp)]]) 5)) False
theorem te541:run fR Tryz.env true (xR1 fR) true 400 ⟨41,[.cd (zU Tryz.f41).body],z8 0 [.agg [.bool n1,.loose ⟨0,1,ap,0⟩ np],.agg [.bool n2,.loose ⟨1,1,aq,0⟩ nq]],[[],[(0,(false,CB mp tp)),(1,(false,CB mq tq))]],2⟩ (zr 2 [] fS fT)=
 Te541 fR fT n1 ap np mp tp n2 aq nq mq tq:=by kernel_rfl
noncomputable abbrev J541:Rt541→zS:=fun r=> [yC (2+1) ((N541) r)++ [(0,(false,CB mp tp)),(1,(false,CB mq tq))]]
attribute [local irreducible] Int.subNatNat in
theorem a541 {r:Rt541} (h:zY ((q541 n1 ap np mp tp n2 aq nq mq tq)) ((p541 n1 ap np mp tp n2 aq nq mq tq)) r):zn Tryz.prog 41 [.agg [.bool n1,.loose ⟨0,1,ap,0⟩ np],.agg [.bool n2,.loose ⟨1,1,aq,0⟩ nq]] [[(0,(false,CB mp tp)),(1,(false,CB mq tq))]] 2 ((V541) r) ((J541 mp tp mq tq) r) 400∧HB Tryz.prog 41:=by
 refine zf Tryz.envOk Tryz.mixed im ((I541)) ((V541)) (J541 mp tp mq tq) (fn:=zU Tryz.f41) (ts:= []) (n:=400) rfl (by decide) (by simp) (zW rfl) ?_ ?_ ?_ h
 · intro s; exact s.elim
 · intro fS fT x hS hR h
   refine Holds.eq (te541 cond fS fT n1 ap np mp tp n2 aq nq mq tq) ?_
   unfold Te541
   unfold p541 at h
   exact zA h (fun c0 h=>zA h (fun c1 h=>zV hR _ h (fun n=>n) rfl rfl rfl (zR rfl) rfl (zB (zC rfl) rfl rfl (zB (zC rfl) rfl rfl zE))) (fun c1 h=>zV hR _ h (fun n=>n) rfl rfl rfl (zR rfl) rfl (zB (zC rfl) rfl rfl (zB (zC rfl) rfl rfl zE)))) (fun c0 h=>zF h)
 · intro fS fT x hS hR s h; exact s.elim
end
noncomputable def k541:Con:=⟨41,[.agg [.plain (.bool),.list [.int .i64]],.agg [.plain (.bool),.list [.int .i64]]],w48 (fun n1 ap np mp tp n2 aq nq mq tq=>decide ((ap+np≤mp∧np≤1000000)∧aq+nq≤mq∧nq≤1000000∧S.fV n1 np (FS tp ap)=true∧S.fV n2 nq (FS tq aq)=true)),w48 (fun n1 ap np mp tp n2 aq nq mq tq=>(V541) (decide (S.fu n1 np (FS tp ap) n2 nq (FS tq aq)=0))),w48 (fun n1 ap np mp tp n2 aq nq mq tq=>(N541) (decide (S.fu n1 np (FS tp ap) n2 nq (FS tq aq)=0))),fun _ _=> .dead⟩
theorem s541 (n1:Bool) (ap np mp:Nat) (tp:Nat→Int) (n2:Bool) (aq nq mq:Nat) (tq:Nat→Int) (hp:(ap+np≤mp∧np≤1000000)∧aq+nq≤mq∧nq≤1000000∧S.fV n1 np (fun j=>tp (j+ap))=true∧S.fV n2 nq (fun j=>tq (j+aq))=true):zY ((q541 n1 ap np mp tp n2 aq nq mq tq)) ((p541 n1 ap np mp tp n2 aq nq mq tq)) (decide (S.fu n1 np (fun j=>tp (j+ap)) n2 nq (fun j=>tq (j+aq))=0)):=by
 obtain ⟨⟨hp1,hp2⟩,hp3,hp4,g1,g2⟩:=hp
 unfold p541
 with_reducible refine zH (decide_eq_true ⟨⟨hp1,hp2⟩,hp3,hp4,g1,g2⟩) ?_
 by_cases h:S.fu n1 np (fun j=>tp (j+ap)) n2 nq (fun j=>tq (j+aq))=0
 · rw [decide_eq_true h]
   with_reducible refine zH (beq_iff_eq.mpr h) ?_
   exact zG.mpr rfl
 · rw [decide_eq_false h]
   with_reducible refine zb (beq_eq_false_iff_ne.mpr h) ?_
   exact zG.mpr rfl
theorem k541_ok:k541.ok Tryz.prog:=by
 intro x hx
 obtain ⟨⟨n1,⟨ap,np,mp,tp,_⟩,_⟩,⟨n2,⟨aq,nq,mq,tq,_⟩,_⟩,_⟩:=x
 obtain ⟨h1,h2⟩:=a541 n1 ap np mp tp n2 aq nq mq tq (s541 n1 ap np mp tp n2 aq nq mq tq (zm hx rfl))
 exact ⟨⟨400,(by decide:2+1+0≤400),h1⟩,h2⟩
theorem nj {n1 n2:Bool} {V W:Int}:S.fh (S.sv n1 V) (S.sv n2 W)=S.fh V W:=by
 unfold S.fh S.sv
 cases n1<;>cases n2<;>simp only [cond_true,cond_false,Int.gcd_neg,Int.neg_gcd]
theorem xg {a c:Int}:S.fh a c ∣ a∧S.fh a c ∣ c:=⟨Int.gcd_dvd_left ..,Int.gcd_dvd_right ..⟩
theorem j6 {a c:Int}:0≤S.fh a c:=Int.natCast_nonneg _
theorem wz {a c:Int} (h:c≠0):0<S.fh a c:=by
 refine Int.not_le.mp fun e=>h ?_
 have:=(xg (a:=a) (c:=c)).2
 rw [show S.fh a c=0 by have:=j6 (a:=a) (c:=c); omega] at this
 exact Int.zero_dvd.mp this
theorem jr {a c:Int} (h:c≠0):S.fh a c≤(c.natAbs:Int):=by
 refine Int.le_of_dvd (by omega) ?_
 exact Int.dvd_natAbs.mpr (xg (a:=a)).2
namespace S
noncomputable def rn (a c:Int):Int:=(if c<0 then-a else a) / fh a c
noncomputable def rd (a c:Int):Int:=(c.natAbs:Int) / fh a c
def fY (n1:Bool) (n:Nat) (t:Nat→Int) (n2:Bool) (m:Nat) (u:Nat→Int):Bool:=fV n1 n t&&(fV n2 m u&&(!n2&&(decide (0<m)&&decide (Int.gcd (val n t) (val m u)=1))))
end S
theorem yf {n1:Bool} {n:Nat} {t:Nat→Int} {n2:Bool} {m:Nat} {u:Nat→Int}:S.fY n1 n t n2 m u=true↔S.fV n1 n t=true∧S.fV n2 m u=true∧n2=false∧0<m∧S.fh (S.val n t) (S.val m u)=1:=by
 unfold S.fY S.fh
 simp only [Bool.and_eq_true,decide_eq_true_eq,Bool.not_eq_true']
 have:((Int.gcd (S.val n t) (S.val m u):Nat):Int)=1↔Int.gcd (S.val n t) (S.val m u)=1:=by omega
 rw [this]
theorem kv {a c:Int}:S.rn a c*S.fh a c=if c<0 then-a else a:=by
 unfold S.rn
 refine Int.ediv_mul_cancel ?_
 have:=(xg (a:=a) (c:=c)).1
 split
 · exact Int.dvd_neg.mpr this
 · exact this
theorem oI {a c:Int}:S.rd a c*S.fh a c=(c.natAbs:Int):=by
 unfold S.rd
 exact Int.ediv_mul_cancel (Int.dvd_natAbs.mpr (xg (a:=a)).2)
theorem lZ {a c:Int} (h:c≠0):0<S.rd a c:=by
 have e:=oI (a:=a) (c:=c)
 have g:=wz (a:=a) h
 refine Int.not_le.mp fun h1=> ?_
 have:=Int.mul_nonpos_of_nonpos_of_nonneg h1 (Int.le_of_lt g)
 omega
theorem rB {x g:Int} (hx:0≤x) (hg:0<g):x≤x*g:=by
 have:=Int.mul_le_mul_of_nonneg_left (show 1≤g by omega) hx
 omega
theorem iL {a c:Int} (h:c≠0):((S.rn a c).natAbs:Int)≤a.natAbs:=by
 have e:=kv (a:=a) (c:=c)
 have g:=wz (a:=a) h
 have:=rB (x:=((S.rn a c).natAbs:Int)) (by omega) g
 have e2:((S.rn a c).natAbs:Int)*S.fh a c=((S.rn a c*S.fh a c).natAbs:Int):=by
  rw [Int.natAbs_mul,Int.natCast_mul,show ((Int.natAbs (S.fh a c):Nat):Int)=S.fh a c by omega]
 rw [e2,e] at this
 split at this<;>omega
theorem iI {a c:Int} (h:c≠0):S.rd a c≤(c.natAbs:Int):=by
 have:=rB (x:=S.rd a c) (Int.le_of_lt (lZ h)) (wz (a:=a) h)
 rw [oI] at this
 exact this
theorem kX {a c:Int} (h:c≠0):S.fh (S.rn a c) (S.rd a c)=1:=by
 have g:=wz (a:=a) h
 have e:S.fh (S.rn a c*S.fh a c) (S.rd a c*S.fh a c)=S.fh (S.rn a c) (S.rd a c)*S.fh a c:=by
  show ((Int.gcd _ _:Nat):Int)=_
  rw [Int.gcd_mul_right,Int.natCast_mul]
  have:((Int.natAbs (S.fh a c):Nat):Int)=S.fh a c:=by omega
  rw [this]; rfl
 have e2:S.fh (S.rn a c*S.fh a c) (S.rd a c*S.fh a c)=S.fh a c:=by
  rw [kv,oI]
  show ((Int.gcd _ _:Nat):Int)=((Int.gcd _ _:Nat):Int)
  rw [show Int.gcd (if c<0 then-a else a) (c.natAbs:Int)=Int.gcd (if c<0 then-a else a) c by unfold Int.gcd; rw [Int.natAbs_natCast]]
  split
  · rw [Int.neg_gcd]
  · rfl
 rw [e2] at e
 have:1*S.fh a c=S.fh (S.rn a c) (S.rd a c)*S.fh a c:=by omega
 exact (Int.eq_of_mul_eq_mul_right (by omega) this).symm
section
variable (fR:TT) (fS:KS) (fT:KR) (n1:Bool) (ap np mp:Nat) (tp:NI)
abbrev St51:=Empty
abbrev Rt51:=Bool×List Int
noncomputable def V51 (r:Rt51):PV:= .agg [.bool r.1,.own 2 1 r.2.length]
noncomputable def N51 (r:Rt51):List Blk:= [CI r.2]
noncomputable def I51:St51→Hd:=fun s=>s.elim
noncomputable def q51 (n1:Bool) (ap np mp:Nat) (tp:NI):St51→Option (St51⊕Rt51):=fun s=>s.elim
noncomputable def p51 (n1:Bool) (ap np mp:Nat) (tp:NI):Option (St51⊕Rt51):=bif n1 then (bif (decide (ap+np≤mp∧np≤1000000∧(S.fX np fun j=>tp (j+ap))=true)) then (some (.inr (S.fy false (S.val np fun j=>tp (j+ap)),S.f0 (S.val np fun j=>tp (j+ap))))) else none) else (bif (decide (ap+np≤mp∧np≤1000000∧(S.fX np fun j=>tp (j+ap))=true)) then (some (.inr (S.fy true (S.val np fun j=>tp (j+ap)),S.f0 (S.val np fun j=>tp (j+ap))))) else none)
def Te51:Prop:=fR n1 (fR (decide (ap+np≤mp∧np≤1000000∧(S.fX np (FS tp ap))=true)) (fT (.agg [.bool (S.fy false (S.val np (FS tp ap))),.own 4 1 (S.f0 (S.val np (FS tp ap))).length]) ([[(0,false,CB mp tp),(4,true,CI (S.f0 (S.val np (FS tp ap))))]]) 5) False) (fR (decide (ap+np≤mp∧np≤1000000∧(S.fX np (FS tp ap))=true)) (fT (.agg [.bool (S.fy true (S.val np (FS tp ap))),.own 4 1 (S.f0 (S.val np (FS tp ap))).length]) ([[(0,false,CB mp tp),(4,true,CI (S.f0 (S.val np (FS tp ap))))]]) 5) False)
theorem te51:run fR Tryz.env true (xD fR) true 400 ⟨96,[.cd (zU Tryz.f96).body],z8 0 [.agg [.bool n1,.loose ⟨0,1,ap,0⟩ np]],[[],[(0,(false,CB mp tp))]],1⟩ (zr 1 [] fS fT)=
 Te51 fR fT n1 ap np mp tp:=by kernel_rfl
noncomputable abbrev J51:Rt51→zS:=fun r=> [yC (1+1) ((N51) r)++ [(0,(false,CB mp tp))]]
attribute [local irreducible] Int.subNatNat in
theorem a51 {r:Rt51} (h:zY ((q51 n1 ap np mp tp)) ((p51 n1 ap np mp tp)) r):zn Tryz.prog 96 [.agg [.bool n1,.loose ⟨0,1,ap,0⟩ np]] [[(0,(false,CB mp tp))]] 1 ((V51) r) ((J51 mp tp) r) 400∧HB Tryz.prog 96:=by
 refine zf Tryz.envOk Tryz.mixed pE ((I51)) ((V51)) (J51 mp tp) (fn:=zU Tryz.f96) (ts:= []) (n:=400) rfl (by decide) (by simp) (zW rfl) ?_ ?_ ?_ h
 · intro s; exact s.elim
 · intro fS fT x hS hR h
   refine Holds.eq (te51 cond fS fT n1 ap np mp tp) ?_
   unfold Te51
   unfold p51 at h
   exact zA h (fun c0 h=>zA h (fun c1 h=>zV hR _ h (fun n=>bif Nat.beq n 2 then 4 else n) rfl rfl rfl (zc ⟨(zj rfl),(zX (zD rfl) rfl rfl),trivial⟩) rfl (zL (zD rfl) rfl (Nat.le_of_eq rfl) (zN (fun _ _=>rfl) zM) (zB (zC rfl) rfl rfl zE))) (fun c1 h=>zF h)) (fun c0 h=>zA h (fun c1 h=>zV hR _ h (fun n=>bif Nat.beq n 2 then 4 else n) rfl rfl rfl (zc ⟨(zj rfl),(zX (zD rfl) rfl rfl),trivial⟩) rfl (zL (zD rfl) rfl (Nat.le_of_eq rfl) (zN (fun _ _=>rfl) zM) (zB (zC rfl) rfl rfl zE))) (fun c1 h=>zF h))
 · intro fS fT x hS hR s h; exact s.elim
end
noncomputable def k51:Con:=⟨96,[.agg [.plain (.bool),.list [.int .i64]]],w18 (fun n1 ap np mp tp=>decide ((ap+np≤mp∧np≤1000000)∧S.fX np (FS tp ap)=true)),w18 (fun n1 ap np mp tp=>(V51) (S.fy (!n1) (S.val np (FS tp ap)),S.f0 (S.val np (FS tp ap)))),w18 (fun n1 ap np mp tp=>(N51) (S.fy (!n1) (S.val np (FS tp ap)),S.f0 (S.val np (FS tp ap)))),fun _ _=> .dead⟩
theorem s51 (n1:Bool) (ap np mp:Nat) (tp:Nat→Int) (hp:(ap+np≤mp∧np≤1000000)∧S.fX np (fun j=>tp (j+ap))=true):zY ((q51 n1 ap np mp tp)) ((p51 n1 ap np mp tp)) ((S.fy (!n1) (S.val np (fun j=>tp (j+ap))),S.f0 (S.val np (fun j=>tp (j+ap))))):=by
 obtain ⟨⟨hp1,hp2⟩,hp3⟩:=hp
 unfold p51
 cases n1
 · with_reducible refine zb rfl ?_
   with_reducible refine zH (decide_eq_true ⟨hp1,hp2,hp3⟩) ?_
   exact zG.mpr rfl
 · with_reducible refine zH rfl ?_
   with_reducible refine zH (decide_eq_true ⟨hp1,hp2,hp3⟩) ?_
   exact zG.mpr rfl
theorem k51_ok:k51.ok Tryz.prog:=by
 intro x hx
 obtain ⟨⟨n1,⟨ap,np,mp,tp,_⟩,_⟩,_⟩:=x
 obtain ⟨h1,h2⟩:=a51 n1 ap np mp tp (s51 n1 ap np mp tp (zm hx rfl))
 exact ⟨⟨400,(by decide:1+1+1≤400),h1⟩,h2⟩
noncomputable def xR0 (fR:Bool→Prop→Prop→Prop):Ext:=y2 fR [k34,k35,k29,k30,k51]
theorem kH:yT Tryz.prog (xR0 cond):=yH ⟨k34_ok,k35_ok,k29_ok,k30_ok,k51_ok,trivial⟩
namespace S
noncomputable def fw (a c:Int):Bool×Bool×List Int×List Int:=(decide (rn a c<0),false,f0 ((rn a c).natAbs:Int),f0 (rd a c))
end S
theorem pL {r:Int} (h0:0≤r) (h:r<S.pw 80):S.fV false (S.f0 r).length (fun j=>S.at' (S.f0 r) j)=true∧S.sv false (S.val (S.f0 r).length fun j=>S.at' (S.f0 r) j)=r:=
 ⟨yg.mpr ⟨zw h,yE,.inr rfl⟩,zq h0⟩
theorem iV {ng:Bool} {r:Int} (h0:0<r) (h:r<S.pw 80):S.fV ng (S.f0 r).length (fun j=>S.at' (S.f0 r) j)=true∧S.sv ng (S.val (S.f0 r).length fun j=>S.at' (S.f0 r) j)=S.sv ng r:=
 ⟨yg.mpr ⟨zw h,yE,.inl (yc h0)⟩,by rw [zq (by omega)]⟩
theorem gg {a c:Int} (h:c≠0):S.rn (-a) (-c)=S.rn a c:=by
 unfold S.rn S.fh
 rw [Int.gcd_neg,Int.neg_gcd]
 by_cases h1:c<0
 · rw [if_neg (by omega),if_pos h1]
 · rw [if_pos (by omega),if_neg h1,Int.neg_neg]
theorem gP {a c:Int}:S.rd (-a) (-c)=S.rd a c:=by
 unfold S.rd S.fh
 rw [Int.gcd_neg,Int.neg_gcd,Int.natAbs_neg]
section
variable {n1 n2:Bool} {n m:Nat} {t u:Nat→Int}
theorem qk (g2:S.fV n2 m u=true) (hm:0<m):0<S.fh (S.val n t) (S.val m u):=wz (by have:=yV (z9 g2).2 hm; omega)
theorem tQ (g2:S.fV n2 m u=true) (hm:0<m):S.fh (S.val n t) (S.val m u)<S.pw 80:=by
 have h1:=yV (z9 g2).2 hm
 have h2:=z5 (zi (z9 g2).2) (z9 g2).1
 have:=jr (a:=S.val n t) (c:=S.val m u) (by omega)
 omega
theorem ov {a g:Int} (h:g ∣ a):a / S.sv n2 g=S.sv n2 (a / g):=by
 cases n2
 · rfl
 · exact Int.ediv_neg _ _
theorem nL {a g:Int} (h:g ∣ a):a % S.sv n2 g=0:=by
 cases n2
 · exact Int.emod_eq_zero_of_dvd h
 · show a % (-g)=0
   rw [Int.emod_neg]; exact Int.emod_eq_zero_of_dvd h
theorem fQ (hm:0<S.val m u):S.rn (S.sv n1 (S.val n t)) (S.sv n2 (S.val m u))=S.sv n2 (S.sv n1 (S.val n t) / S.fh (S.val n t) (S.val m u)):=by
 unfold S.rn
 rw [nj]
 have d:S.fh (S.val n t) (S.val m u) ∣ S.sv n1 (S.val n t):=by
  cases n1
  · exact xg.1
  · exact Int.dvd_neg.mpr xg.1
 cases n2
 · rw [if_neg (by show ¬ S.val m u<0; omega)]; rfl
 · rw [if_pos (by show-S.val m u<0; omega),Int.neg_ediv_of_dvd d]; rfl
theorem g9 (hm:0<S.val m u):S.rd (S.sv n1 (S.val n t)) (S.sv n2 (S.val m u))=S.val m u / S.fh (S.val n t) (S.val m u):=by
 unfold S.rd
 rw [nj,gj]
 congr 1
 omega
theorem rD (g1:S.fV n1 n t=true) (g2:S.fV n2 m u=true) (hm:0<m):S.fd n1 n t n2 (S.f0 (S.fh (S.val n t) (S.val m u))).length (fun j=>S.at' (S.f0 (S.fh (S.val n t) (S.val m u))) j)=(decide (S.rn (S.sv n1 (S.val n t)) (S.sv n2 (S.val m u))<0),0,[],S.f0 ((S.rn (S.sv n1 (S.val n t)) (S.sv n2 (S.val m u))).natAbs:Int)):=by
 have hp:=qk (n:=n) (t:=t) g2 hm
 have ho:=iV (ng:=n2) hp (tQ g2 hm)
 have d:S.fh (S.val n t) (S.val m u) ∣ S.sv n1 (S.val n t):=by
  cases n1
  · exact xg.1
  · exact Int.dvd_neg.mpr xg.1
 rw [nR g1 ho.1 (by have:=yc hp; omega),ho.2,ov d,nL d,fQ (yV (z9 g2).2 hm),yQ]
theorem sr (g1:S.fV n1 n t=true) (g2:S.fV n2 m u=true) (hm:0<m):S.fd n2 m u n2 (S.f0 (S.fh (S.val n t) (S.val m u))).length (fun j=>S.at' (S.f0 (S.fh (S.val n t) (S.val m u))) j)=(false,0,[],S.f0 (S.rd (S.sv n1 (S.val n t)) (S.sv n2 (S.val m u)))):=by
 have hp:=qk (n:=n) (t:=t) g2 hm
 have hv:=yV (z9 g2).2 hm
 have ho:=iV (ng:=n2) hp (tQ g2 hm)
 have d1:S.fh (S.val n t) (S.val m u) ∣ S.val m u:=xg.2
 have d:S.fh (S.val n t) (S.val m u) ∣ S.sv n2 (S.val m u):=by
  cases n2
  · exact d1
  · exact Int.dvd_neg.mpr d1
 have e:S.sv n2 (S.val m u) / S.sv n2 (S.fh (S.val n t) (S.val m u))=S.val m u / S.fh (S.val n t) (S.val m u):=by
  rw [ov d]
  cases n2
  · rfl
  · show-(-S.val m u / _)=_
    rw [Int.neg_ediv_of_dvd d1,Int.neg_neg]
 have q:=Int.ediv_nonneg (Int.le_of_lt hv) (Int.le_of_lt hp)
 rw [nR g2 ho.1 (by have:=yc hp; omega),ho.2,e,nL d,g9 hv,yQ,decide_eq_false (by omega),show ((S.val m u / S.fh (S.val n t) (S.val m u)).natAbs:Int)=S.val m u / S.fh (S.val n t) (S.val m u) by omega]
end
section
variable (fR:TT) (fS:KS) (fT:KR) (n1:Bool) (ap np mp:Nat) (tp:NI) (n2:Bool) (aq nq mq:Nat) (tq:NI)
noncomputable abbrev c553_e_0:=Prod.snd ((S.fg n1 np (fun j=>tp (j+ap)) n2 nq fun j=>tq (j+aq)).2)
noncomputable abbrev c553_e_1:=decide ((ap+np≤mp∧np≤1000000)∧0+(c553_e_0 n1 ap np tp n2 aq nq tq).length≤((S.fg n1 np (fun j=>tp (j+ap)) n2 nq fun j=>tq (j+aq)).2.2).length∧((S.fg n1 np (fun j=>tp (j+ap)) n2 nq fun j=>tq (j+aq)).2.2).length≤1000000)
noncomputable abbrev c553_e_2:=decide ((aq+nq≤mq∧nq≤1000000)∧0+(c553_e_0 n1 ap np tp n2 aq nq tq).length≤((S.fg n1 np (fun j=>tp (j+ap)) n2 nq fun j=>tq (j+aq)).2.2).length∧((S.fg n1 np (fun j=>tp (j+ap)) n2 nq fun j=>tq (j+aq)).2.2).length≤1000000)
noncomputable abbrev c553_e_3:=Prod.snd (Prod.snd (S.fg n1 np (fun j=>tp (j+ap)) n2 nq fun j=>tq (j+aq)))
abbrev St553:=Empty
abbrev Rt553:=Bool×Bool×List Int×List Int
noncomputable def V553 (r:Rt553):PV:= .agg [.bool r.1,.own 3 1 r.2.2.1.length,.bool r.2.1,.own 4 1 r.2.2.2.length]
noncomputable def N553 (r:Rt553):List Blk:= [CI r.2.2.1,CI r.2.2.2]
noncomputable def I553:St553→Hd:=fun s=>s.elim
noncomputable def q553 (n1:Bool) (ap np mp:Nat) (tp:NI) (n2:Bool) (aq nq mq:Nat) (tq:NI):St553→Option (St553⊕Rt553):=fun s=>s.elim
noncomputable def p553 (n1:Bool) (ap np mp:Nat) (tp:NI) (n2:Bool) (aq nq mq:Nat) (tq:NI):Option (St553⊕Rt553):=bif (decide ((ap+np≤mp∧np≤1000000)∧aq+nq≤mq∧nq≤1000000)) then (bif n2 then (bif (c553_e_1 n1 ap np mp tp n2 aq nq tq) then (bif (c553_e_2 n1 ap np tp n2 aq nq mq tq) then (some (.inr (Prod.fst (S.fd n1 np (fun j=>tp (j+ap)) true ((S.fg n1 np (fun j=>tp (j+ap)) n2 nq fun j=>tq (j+aq)).2.2).length fun j=>S.at' ((S.fg n1 np (fun j=>tp (j+ap)) n2 nq fun j=>tq (j+aq)).2.2) j),Prod.fst (S.fd n2 nq (fun j=>tq (j+aq)) true ((S.fg n1 np (fun j=>tp (j+ap)) n2 nq fun j=>tq (j+aq)).2.2).length fun j=>S.at' ((S.fg n1 np (fun j=>tp (j+ap)) n2 nq fun j=>tq (j+aq)).2.2) j),Prod.snd (Prod.snd (Prod.snd (S.fd n1 np (fun j=>tp (j+ap)) true ((S.fg n1 np (fun j=>tp (j+ap)) n2 nq fun j=>tq (j+aq)).2.2).length fun j=>S.at' ((S.fg n1 np (fun j=>tp (j+ap)) n2 nq fun j=>tq (j+aq)).2.2) j))),Prod.snd (Prod.snd (Prod.snd (S.fd n2 nq (fun j=>tq (j+aq)) true ((S.fg n1 np (fun j=>tp (j+ap)) n2 nq fun j=>tq (j+aq)).2.2).length fun j=>S.at' ((S.fg n1 np (fun j=>tp (j+ap)) n2 nq fun j=>tq (j+aq)).2.2) j)))))) else none) else none) else (bif (c553_e_1 n1 ap np mp tp n2 aq nq tq) then (bif (c553_e_2 n1 ap np tp n2 aq nq mq tq) then (some (.inr (Prod.fst (S.fd n1 np (fun j=>tp (j+ap)) false ((S.fg n1 np (fun j=>tp (j+ap)) n2 nq fun j=>tq (j+aq)).2.2).length fun j=>S.at' ((S.fg n1 np (fun j=>tp (j+ap)) n2 nq fun j=>tq (j+aq)).2.2) j),Prod.fst (S.fd n2 nq (fun j=>tq (j+aq)) false ((S.fg n1 np (fun j=>tp (j+ap)) n2 nq fun j=>tq (j+aq)).2.2).length fun j=>S.at' ((S.fg n1 np (fun j=>tp (j+ap)) n2 nq fun j=>tq (j+aq)).2.2) j),Prod.snd (Prod.snd (Prod.snd (S.fd n1 np (fun j=>tp (j+ap)) false ((S.fg n1 np (fun j=>tp (j+ap)) n2 nq fun j=>tq (j+aq)).2.2).length fun j=>S.at' ((S.fg n1 np (fun j=>tp (j+ap)) n2 nq fun j=>tq (j+aq)).2.2) j))),Prod.snd (Prod.snd (Prod.snd (S.fd n2 nq (fun j=>tq (j+aq)) false ((S.fg n1 np (fun j=>tp (j+ap)) n2 nq fun j=>tq (j+aq)).2.2).length fun j=>S.at' ((S.fg n1 np (fun j=>tp (j+ap)) n2 nq fun j=>tq (j+aq)).2.2) j)))))) else none) else none)) else none
def Te553:Prop:=fR (decide ((ap+np≤mp∧np≤1000000)∧aq+nq≤mq∧nq≤1000000)) (fR n2 (fR (c553_e_1 n1 ap np mp tp n2 aq nq tq) (fR (c553_e_2 n1 ap np tp n2 aq nq mq tq) (fT (.agg [.bool (S.fd n1 np (FS tp ap) true (c553_e_0 n1 ap np tp n2 aq nq tq).length fun j=>S.at' (S.fg n1 np (FS tp ap) n2 nq (FS tq aq)).2.2 j).1,.own 10 1 (S.fd n1 np (FS tp ap) true (c553_e_0 n1 ap np tp n2 aq nq tq).length fun j=>S.at' (c553_e_0 n1 ap np tp n2 aq nq tq) j).2.2.2.length,.bool (S.fd n2 nq (FS tq aq) true (c553_e_0 n1 ap np tp n2 aq nq tq).length fun j=>S.at' (S.fg n1 np (FS tp ap) n2 nq (FS tq aq)).2.2 j).1,.own 15 1 (S.fd n2 nq (FS tq aq) true (c553_e_0 n1 ap np tp n2 aq nq tq).length fun j=>S.at' (c553_e_0 n1 ap np tp n2 aq nq tq) j).2.2.2.length]) ([[(1,false,CB mq tq),(0,false,CB mp tp),(15,true,.cols (S.fd n2 nq (FS tq aq) true (c553_e_3 n1 ap np tp n2 aq nq tq).length fun j=>S.at' (c553_e_0 n1 ap np tp n2 aq nq tq) j).2.2.2.length [.int .i64 fun j=>S.at' (S.fd n2 nq (FS tq aq) true (c553_e_3 n1 ap np tp n2 aq nq tq).length fun j=>S.at' (c553_e_3 n1 ap np tp n2 aq nq tq) j).2.2.2 j]),(10,true,.cols (S.fd n1 np (FS tp ap) true (c553_e_3 n1 ap np tp n2 aq nq tq).length fun j=>S.at' (c553_e_0 n1 ap np tp n2 aq nq tq) j).2.2.2.length [.int .i64 fun j=>S.at' (S.fd n1 np (FS tp ap) true (c553_e_3 n1 ap np tp n2 aq nq tq).length fun j=>S.at' (c553_e_3 n1 ap np tp n2 aq nq tq) j).2.2.2 j])]]) 18) False) False) (fR (c553_e_1 n1 ap np mp tp n2 aq nq tq) (fR (c553_e_2 n1 ap np tp n2 aq nq mq tq) (fT (.agg [.bool (S.fd n1 np (FS tp ap) false (c553_e_0 n1 ap np tp n2 aq nq tq).length fun j=>S.at' (S.fg n1 np (FS tp ap) n2 nq (FS tq aq)).2.2 j).1,.own 10 1 (S.fd n1 np (FS tp ap) false (c553_e_0 n1 ap np tp n2 aq nq tq).length fun j=>S.at' (c553_e_0 n1 ap np tp n2 aq nq tq) j).2.2.2.length,.bool (S.fd n2 nq (FS tq aq) false (c553_e_0 n1 ap np tp n2 aq nq tq).length fun j=>S.at' (S.fg n1 np (FS tp ap) n2 nq (FS tq aq)).2.2 j).1,.own 15 1 (S.fd n2 nq (FS tq aq) false (c553_e_0 n1 ap np tp n2 aq nq tq).length fun j=>S.at' (c553_e_0 n1 ap np tp n2 aq nq tq) j).2.2.2.length]) ([[(1,false,CB mq tq),(0,false,CB mp tp),(15,true,.cols (S.fd n2 nq (FS tq aq) false (c553_e_3 n1 ap np tp n2 aq nq tq).length fun j=>S.at' (c553_e_0 n1 ap np tp n2 aq nq tq) j).2.2.2.length [.int .i64 fun j=>S.at' (S.fd n2 nq (FS tq aq) false (c553_e_3 n1 ap np tp n2 aq nq tq).length fun j=>S.at' (c553_e_3 n1 ap np tp n2 aq nq tq) j).2.2.2 j]),(10,true,.cols (S.fd n1 np (FS tp ap) false (c553_e_3 n1 ap np tp n2 aq nq tq).length fun j=>S.at' (c553_e_0 n1 ap np tp n2 aq nq tq) j).2.2.2.length [.int .i64 fun j=>S.at' (S.fd n1 np (FS tp ap) false (c553_e_3 n1 ap np tp n2 aq nq tq).length fun j=>S.at' (c553_e_3 n1 ap np tp n2 aq nq tq) j).2.2.2 j])]]) 18) False) False)) False
theorem te553:run fR Tryz.env true (xR0 fR) true 400 ⟨53,[.cd (zU Tryz.f53).body],z8 0 [.agg [.bool n1,.loose ⟨0,1,ap,0⟩ np],.agg [.bool n2,.loose ⟨1,1,aq,0⟩ nq]],[[],[(0,(false,CB mp tp)),(1,(false,CB mq tq))]],2⟩ (zr 2 [] fS fT)=
 Te553 fR fT n1 ap np mp tp n2 aq nq mq tq:=by kernel_rfl
noncomputable abbrev J553:Rt553→zS:=fun r=> [yC (2+1) ((N553) r)++ [(0,(false,CB mp tp)),(1,(false,CB mq tq))]]
attribute [local irreducible] Int.subNatNat in
theorem a553 {r:Rt553} (h:zY ((q553 n1 ap np mp tp n2 aq nq mq tq)) ((p553 n1 ap np mp tp n2 aq nq mq tq)) r):zn Tryz.prog 53 [.agg [.bool n1,.loose ⟨0,1,ap,0⟩ np],.agg [.bool n2,.loose ⟨1,1,aq,0⟩ nq]] [[(0,(false,CB mp tp)),(1,(false,CB mq tq))]] 2 ((V553) r) ((J553 mp tp mq tq) r) 400∧HB Tryz.prog 53:=by
 refine zf Tryz.envOk Tryz.mixed kH ((I553)) ((V553)) (J553 mp tp mq tq) (fn:=zU Tryz.f53) (ts:= []) (n:=400) rfl (by decide) (by simp) (zW rfl) ?_ ?_ ?_ h
 · intro s; exact s.elim
 · intro fS fT x hS hR h
   refine Holds.eq (te553 cond fS fT n1 ap np mp tp n2 aq nq mq tq) ?_
   unfold Te553
   unfold p553 at h
   refine zA h (fun c0 h=>zA h (fun c1 h=>zA h (fun c2 h=>zA h (fun c3 h=> ?_) (fun c3 h=> ?_)) (fun c2 h=> ?_)) (fun c1 h=>zA h (fun c2 h=>zA h (fun c3 h=> ?_) (fun c3 h=> ?_)) (fun c2 h=> ?_))) (fun c0 h=> ?_)
   all_goals first
     |exact zF h
     |exact zV hR _ h (fun n=>bif Nat.beq n 3 then 10 else bif Nat.beq n 4 then 15 else n) rfl rfl rfl (zc ⟨(zj rfl),(zX (zD rfl) rfl rfl),(zj rfl),(zX (zD rfl) rfl rfl),trivial⟩) rfl (zL (zD rfl) rfl (Nat.le_of_eq rfl) (zN (fun _ _=>rfl) zM) (zL (zD rfl) rfl (Nat.le_of_eq rfl) (zN (fun _ _=>rfl) zM) (zB (zC rfl) rfl rfl (zB (zC rfl) rfl rfl zE))))
 · intro fS fT x hS hR s h; exact s.elim
end
noncomputable def k553:Con:=⟨53,[.agg [.plain (.bool),.list [.int .i64]],.agg [.plain (.bool),.list [.int .i64]]],w48 (fun n1 ap np mp tp n2 aq nq mq tq=>decide (((ap+np≤mp∧np≤1000000)∧aq+nq≤mq∧nq≤1000000)∧S.fV n1 np (FS tp ap)=true∧S.fV n2 nq (FS tq aq)=true∧0<nq)),w48 (fun n1 ap np mp tp n2 aq nq mq tq=>(V553) (S.fw (S.sv n1 (S.val np (FS tp ap))) (S.sv n2 (S.val nq (FS tq aq))))),w48 (fun n1 ap np mp tp n2 aq nq mq tq=>(N553) (S.fw (S.sv n1 (S.val np (FS tp ap))) (S.sv n2 (S.val nq (FS tq aq))))),fun _ _=> .dead⟩
theorem s553 (n1:Bool) (ap np mp:Nat) (tp:Nat→Int) (n2:Bool) (aq nq mq:Nat) (tq:Nat→Int) (hp:((ap+np≤mp∧np≤1000000)∧aq+nq≤mq∧nq≤1000000)∧S.fV n1 np (fun j=>tp (j+ap))=true∧S.fV n2 nq (fun j=>tq (j+aq))=true∧0<nq):zY ((q553 n1 ap np mp tp n2 aq nq mq tq)) ((p553 n1 ap np mp tp n2 aq nq mq tq)) (((S.fw (S.sv n1 (S.val np (fun j=>tp (j+ap)))) (S.sv n2 (S.val nq (fun j=>tq (j+aq))))).1,(S.fw (S.sv n1 (S.val np (fun j=>tp (j+ap)))) (S.sv n2 (S.val nq (fun j=>tq (j+aq))))).2.1,(S.fw (S.sv n1 (S.val np (fun j=>tp (j+ap)))) (S.sv n2 (S.val nq (fun j=>tq (j+aq))))).2.2.1,(S.fw (S.sv n1 (S.val np (fun j=>tp (j+ap)))) (S.sv n2 (S.val nq (fun j=>tq (j+aq))))).2.2.2)):=by
 obtain ⟨⟨⟨hp1,hp2⟩,hp3,hp4⟩,g1,g2,hn⟩:=hp
 have hr:S.fg n1 np (fun j=>tp (j+ap)) n2 nq (fun j=>tq (j+aq))=(false,0,S.f0 (S.fh (S.val np (fun j=>tp (j+ap))) (S.val nq (fun j=>tq (j+aq))))):=by unfold S.fg; rw [if_pos ⟨g1,g2⟩]
 have e1:=rD g1 g2 hn
 have e2:=sr g1 g2 hn
 have lg:=zw (tQ (n:=np) (t:=(fun j=>tp (j+ap))) g2 hn)
 unfold p553
 with_reducible refine zH (decide_eq_true ⟨⟨hp1,hp2⟩,hp3,hp4⟩) ?_
 simp only [-eq_self,c553_e_0,c553_e_1,c553_e_2,c553_e_3,hr]
 cases n2
 · with_reducible refine zb rfl ?_
   with_reducible refine zH (decide_eq_true ⟨⟨hp1,hp2⟩,by omega,by omega⟩) ?_
   with_reducible refine zH (decide_eq_true ⟨⟨hp3,hp4⟩,by omega,by omega⟩) ?_
   rw [e1,e2]
   exact zG.mpr rfl
 · with_reducible refine zH rfl ?_
   with_reducible refine zH (decide_eq_true ⟨⟨hp1,hp2⟩,by omega,by omega⟩) ?_
   with_reducible refine zH (decide_eq_true ⟨⟨hp3,hp4⟩,by omega,by omega⟩) ?_
   rw [e1,e2]
   exact zG.mpr rfl
theorem k553_ok:k553.ok Tryz.prog:=by
 intro x hx
 obtain ⟨⟨n1,⟨ap,np,mp,tp,_⟩,_⟩,⟨n2,⟨aq,nq,mq,tq,_⟩,_⟩,_⟩:=x
 obtain ⟨h1,h2⟩:=a553 n1 ap np mp tp n2 aq nq mq tq (s553 n1 ap np mp tp n2 aq nq mq tq (zm hx rfl))
 exact ⟨⟨400,(by decide:2+1+2≤400),h1⟩,h2⟩
theorem nK {ng:Bool} {V:Int} (h0:0≤V) (h:V<S.pw 80):S.fV (S.fy ng V) (S.f0 V).length (fun j=>S.at' (S.f0 V) j)=true∧S.sv (S.fy ng V) (S.val (S.f0 V).length fun j=>S.at' (S.f0 V) j)=S.sv ng V:=by
 refine ⟨yg.mpr ⟨zw h,yE,?_⟩,by rw [zq h0,kN h0]⟩
 by_cases hv:0<V
 · exact .inl (yc hv)
 · refine .inr ?_
   unfold S.fy
   rw [decide_eq_false hv,Bool.and_false]
section
variable (fR:TT) (fS:KS) (fT:KR) (n1:Bool) (ap np mp:Nat) (tp:NI) (n2:Bool) (aq nq mq:Nat) (tq:NI)
noncomputable abbrev c550_e_0:=S.fg (S.fy (!n1) (S.val np fun j=>tp (j+ap))) (S.f0 (S.val np fun j=>tp (j+ap))).length (fun j=>S.at' (S.f0 (S.val np fun j=>tp (j+ap))) j) (S.fy (!n2) (S.val nq fun j=>tq (j+aq))) (S.f0 (S.val nq fun j=>tq (j+aq))).length fun j=>S.at' (S.f0 (S.val nq fun j=>tq (j+aq))) j
noncomputable abbrev c550_e_1:=S.fd (S.fy (!n1) (S.val np fun j=>tp (j+ap))) (S.f0 (S.val np fun j=>tp (j+ap))).length (fun j=>S.at' (S.f0 (S.val np fun j=>tp (j+ap))) j) (Prod.fst (c550_e_0 n1 ap np tp n2 aq nq tq)) (Prod.snd (Prod.snd (c550_e_0 n1 ap np tp n2 aq nq tq))).length fun j=>S.at' (Prod.snd (Prod.snd (c550_e_0 n1 ap np tp n2 aq nq tq))) j
noncomputable abbrev c550_e_2:=S.fd (S.fy (!n2) (S.val nq fun j=>tq (j+aq))) (S.f0 (S.val nq fun j=>tq (j+aq))).length (fun j=>S.at' (S.f0 (S.val nq fun j=>tq (j+aq))) j) (Prod.fst (c550_e_0 n1 ap np tp n2 aq nq tq)) (Prod.snd (Prod.snd (c550_e_0 n1 ap np tp n2 aq nq tq))).length fun j=>S.at' (Prod.snd (Prod.snd (c550_e_0 n1 ap np tp n2 aq nq tq))) j
noncomputable abbrev c550_e_3:=Prod.snd (Prod.snd (S.fg (S.fy (!n1) (S.val np fun j=>tp (j+ap))) (S.f0 (S.val np fun j=>tp (j+ap))).length (fun j=>S.at' (S.f0 (S.val np fun j=>tp (j+ap))) j) (S.fy (!n2) (S.val nq fun j=>tq (j+aq))) (S.f0 (S.val nq fun j=>tq (j+aq))).length fun j=>S.at' (S.f0 (S.val nq fun j=>tq (j+aq))) j))
noncomputable abbrev c550_e_4:=Prod.snd ((S.fg n1 np (fun j=>tp (j+ap)) n2 nq fun j=>tq (j+aq)).2)
abbrev St550:=Empty
abbrev Rt550:=Bool×Bool×List Int×List Int
noncomputable def V550 (r:Rt550):PV:= .agg [.bool r.1,.own 3 1 r.2.2.1.length,.bool r.2.1,.own 4 1 r.2.2.2.length]
noncomputable def N550 (r:Rt550):List Blk:= [CI r.2.2.1,CI r.2.2.2]
noncomputable def I550:St550→Hd:=fun s=>s.elim
noncomputable def q550 (n1:Bool) (ap np mp:Nat) (tp:NI) (n2:Bool) (aq nq mq:Nat) (tq:NI):St550→Option (St550⊕Rt550):=fun s=>s.elim
noncomputable def p550 (n1:Bool) (ap np mp:Nat) (tp:NI) (n2:Bool) (aq nq mq:Nat) (tq:NI):Option (St550⊕Rt550):=bif n2 then (bif (decide ((ap+np≤mp∧np≤1000000)∧(S.fX np fun j=>tp (j+ap))=true)) then (bif (decide ((aq+nq≤mq∧nq≤1000000)∧(S.fX nq fun j=>tq (j+aq))=true)) then (bif (decide ((0+(S.f0 (S.val np fun j=>tp (j+ap))).length≤(S.f0 (S.val np fun j=>tp (j+ap))).length∧(S.f0 (S.val np fun j=>tp (j+ap))).length≤1000000)∧0+(S.f0 (S.val nq fun j=>tq (j+aq))).length≤(S.f0 (S.val nq fun j=>tq (j+aq))).length∧(S.f0 (S.val nq fun j=>tq (j+aq))).length≤1000000)) then (bif (decide ((0+(S.f0 (S.val np fun j=>tp (j+ap))).length≤(S.f0 (S.val np fun j=>tp (j+ap))).length∧(S.f0 (S.val np fun j=>tp (j+ap))).length≤1000000)∧0+(Prod.snd (Prod.snd (c550_e_0 n1 ap np tp n2 aq nq tq))).length≤(Prod.snd (Prod.snd (c550_e_0 n1 ap np tp n2 aq nq tq))).length∧(Prod.snd (Prod.snd (c550_e_0 n1 ap np tp n2 aq nq tq))).length≤1000000)) then (bif (decide ((0+(S.f0 (S.val nq fun j=>tq (j+aq))).length≤(S.f0 (S.val nq fun j=>tq (j+aq))).length∧(S.f0 (S.val nq fun j=>tq (j+aq))).length≤1000000)∧0+(Prod.snd (Prod.snd (c550_e_0 n1 ap np tp n2 aq nq tq))).length≤(Prod.snd (Prod.snd (c550_e_0 n1 ap np tp n2 aq nq tq))).length∧(Prod.snd (Prod.snd (c550_e_0 n1 ap np tp n2 aq nq tq))).length≤1000000)) then (some (.inr (Prod.fst (c550_e_1 n1 ap np tp n2 aq nq tq),Prod.fst (c550_e_2 n1 ap np tp n2 aq nq tq),Prod.snd (Prod.snd (Prod.snd (c550_e_1 n1 ap np tp n2 aq nq tq))),Prod.snd (Prod.snd (Prod.snd (c550_e_2 n1 ap np tp n2 aq nq tq)))))) else none) else none) else none) else none) else none) else (bif (decide ((ap+np≤mp∧np≤1000000)∧aq+nq≤mq∧nq≤1000000)) then (bif (decide ((ap+np≤mp∧np≤1000000)∧0+(c550_e_4 n1 ap np tp n2 aq nq tq).length≤((S.fg n1 np (fun j=>tp (j+ap)) n2 nq fun j=>tq (j+aq)).2.2).length∧((S.fg n1 np (fun j=>tp (j+ap)) n2 nq fun j=>tq (j+aq)).2.2).length≤1000000)) then (bif (decide ((aq+nq≤mq∧nq≤1000000)∧0+(c550_e_4 n1 ap np tp n2 aq nq tq).length≤((S.fg n1 np (fun j=>tp (j+ap)) n2 nq fun j=>tq (j+aq)).2.2).length∧((S.fg n1 np (fun j=>tp (j+ap)) n2 nq fun j=>tq (j+aq)).2.2).length≤1000000)) then (some (.inr (Prod.fst (S.fd n1 np (fun j=>tp (j+ap)) ((S.fg n1 np (fun j=>tp (j+ap)) n2 nq fun j=>tq (j+aq)).1) ((S.fg n1 np (fun j=>tp (j+ap)) n2 nq fun j=>tq (j+aq)).2.2).length fun j=>S.at' ((S.fg n1 np (fun j=>tp (j+ap)) n2 nq fun j=>tq (j+aq)).2.2) j),Prod.fst (S.fd n2 nq (fun j=>tq (j+aq)) ((S.fg n1 np (fun j=>tp (j+ap)) n2 nq fun j=>tq (j+aq)).1) ((S.fg n1 np (fun j=>tp (j+ap)) n2 nq fun j=>tq (j+aq)).2.2).length fun j=>S.at' ((S.fg n1 np (fun j=>tp (j+ap)) n2 nq fun j=>tq (j+aq)).2.2) j),Prod.snd (Prod.snd (Prod.snd (S.fd n1 np (fun j=>tp (j+ap)) ((S.fg n1 np (fun j=>tp (j+ap)) n2 nq fun j=>tq (j+aq)).1) ((S.fg n1 np (fun j=>tp (j+ap)) n2 nq fun j=>tq (j+aq)).2.2).length fun j=>S.at' ((S.fg n1 np (fun j=>tp (j+ap)) n2 nq fun j=>tq (j+aq)).2.2) j))),Prod.snd (Prod.snd (Prod.snd (S.fd n2 nq (fun j=>tq (j+aq)) ((S.fg n1 np (fun j=>tp (j+ap)) n2 nq fun j=>tq (j+aq)).1) ((S.fg n1 np (fun j=>tp (j+ap)) n2 nq fun j=>tq (j+aq)).2.2).length fun j=>S.at' ((S.fg n1 np (fun j=>tp (j+ap)) n2 nq fun j=>tq (j+aq)).2.2) j)))))) else none) else none) else none)
noncomputable abbrev u550_e_0:=S.fg n1 np (fun j=>tp (j+ap)) n2 nq fun j=>tq (j+aq)
def Te550:Prop:=fR n2 (fR (decide ((ap+np≤mp∧np≤1000000)∧(S.fX np (FS tp ap))=true)) (fR (decide ((aq+nq≤mq∧nq≤1000000)∧(S.fX nq (FS tq aq))=true)) (fR (decide ((0+(S.f0 (S.val np (FS tp ap))).length≤(S.f0 (S.val np (FS tp ap))).length∧(S.f0 (S.val np (FS tp ap))).length≤1000000)∧0+(S.f0 (S.val nq (FS tq aq))).length≤(S.f0 (S.val nq (FS tq aq))).length∧(S.f0 (S.val nq (FS tq aq))).length≤1000000)) (fR (decide ((0+(S.f0 (S.val np (FS tp ap))).length≤(S.f0 (S.val np (FS tp ap))).length∧(S.f0 (S.val np (FS tp ap))).length≤1000000)∧0+(c550_e_0 n1 ap np tp n2 aq nq tq).2.2.length≤(c550_e_0 n1 ap np tp n2 aq nq tq).2.2.length∧(c550_e_0 n1 ap np tp n2 aq nq tq).2.2.length≤1000000)) (fR (decide ((0+(S.f0 (S.val nq (FS tq aq))).length≤(S.f0 (S.val nq (FS tq aq))).length∧(S.f0 (S.val nq (FS tq aq))).length≤1000000)∧0+(c550_e_0 n1 ap np tp n2 aq nq tq).2.2.length≤(c550_e_0 n1 ap np tp n2 aq nq tq).2.2.length∧(c550_e_0 n1 ap np tp n2 aq nq tq).2.2.length≤1000000)) (fT (.agg [.bool (c550_e_1 n1 ap np tp n2 aq nq tq).1,.own 14 1 (c550_e_1 n1 ap np tp n2 aq nq tq).2.2.2.length,.bool (c550_e_2 n1 ap np tp n2 aq nq tq).1,.own 19 1 (c550_e_2 n1 ap np tp n2 aq nq tq).2.2.2.length]) ([[(1,false,CB mq tq),(0,false,CB mp tp),(19,true,.cols (c550_e_2 n1 ap np tp n2 aq nq tq).2.2.2.length [.int .i64 fun j=>S.at' (S.fd (S.fy (!n2) (S.val nq (FS tq aq))) (S.f0 (S.val nq (FS tq aq))).length (fun j=>S.at' (S.f0 (S.val nq (FS tq aq))) j) (c550_e_0 n1 ap np tp n2 aq nq tq).1 (c550_e_3 n1 ap np tp n2 aq nq tq).length fun j=>S.at' (c550_e_3 n1 ap np tp n2 aq nq tq) j).2.2.2 j]),(14,true,.cols (c550_e_1 n1 ap np tp n2 aq nq tq).2.2.2.length [.int .i64 fun j=>S.at' (S.fd (S.fy (!n1) (S.val np (FS tp ap))) (S.f0 (S.val np (FS tp ap))).length (fun j=>S.at' (S.f0 (S.val np (FS tp ap))) j) (c550_e_0 n1 ap np tp n2 aq nq tq).1 (c550_e_3 n1 ap np tp n2 aq nq tq).length fun j=>S.at' (c550_e_3 n1 ap np tp n2 aq nq tq) j).2.2.2 j])]]) 22) False) False) False) False) False) (fR (decide ((ap+np≤mp∧np≤1000000)∧aq+nq≤mq∧nq≤1000000)) (fR (decide ((ap+np≤mp∧np≤1000000)∧0+(c550_e_4 n1 ap np tp n2 aq nq tq).length≤(u550_e_0 n1 ap np tp n2 aq nq tq).2.2.length∧(u550_e_0 n1 ap np tp n2 aq nq tq).2.2.length≤1000000)) (fR (decide ((aq+nq≤mq∧nq≤1000000)∧0+(c550_e_4 n1 ap np tp n2 aq nq tq).length≤(u550_e_0 n1 ap np tp n2 aq nq tq).2.2.length∧(u550_e_0 n1 ap np tp n2 aq nq tq).2.2.length≤1000000)) (fT (.agg [.bool (S.fd n1 np (FS tp ap) (u550_e_0 n1 ap np tp n2 aq nq tq).1 (c550_e_4 n1 ap np tp n2 aq nq tq).length fun j=>S.at' (u550_e_0 n1 ap np tp n2 aq nq tq).2.2 j).1,.own 10 1 (S.fd n1 np (FS tp ap) (u550_e_0 n1 ap np tp n2 aq nq tq).1 (c550_e_4 n1 ap np tp n2 aq nq tq).length fun j=>S.at' (c550_e_4 n1 ap np tp n2 aq nq tq) j).2.2.2.length,.bool (S.fd n2 nq (FS tq aq) (u550_e_0 n1 ap np tp n2 aq nq tq).1 (c550_e_4 n1 ap np tp n2 aq nq tq).length fun j=>S.at' (u550_e_0 n1 ap np tp n2 aq nq tq).2.2 j).1,.own 15 1 (S.fd n2 nq (FS tq aq) (u550_e_0 n1 ap np tp n2 aq nq tq).1 (c550_e_4 n1 ap np tp n2 aq nq tq).length fun j=>S.at' (c550_e_4 n1 ap np tp n2 aq nq tq) j).2.2.2.length]) ([[(1,false,CB mq tq),(0,false,CB mp tp),(15,true,.cols (S.fd n2 nq (FS tq aq) (u550_e_0 n1 ap np tp n2 aq nq tq).1 (u550_e_0 n1 ap np tp n2 aq nq tq).2.2.length fun j=>S.at' (c550_e_4 n1 ap np tp n2 aq nq tq) j).2.2.2.length [.int .i64 fun j=>S.at' (S.fd n2 nq (FS tq aq) (u550_e_0 n1 ap np tp n2 aq nq tq).1 (u550_e_0 n1 ap np tp n2 aq nq tq).2.2.length fun j=>S.at' (u550_e_0 n1 ap np tp n2 aq nq tq).2.2 j).2.2.2 j]),(10,true,.cols (S.fd n1 np (FS tp ap) (u550_e_0 n1 ap np tp n2 aq nq tq).1 (u550_e_0 n1 ap np tp n2 aq nq tq).2.2.length fun j=>S.at' (c550_e_4 n1 ap np tp n2 aq nq tq) j).2.2.2.length [.int .i64 fun j=>S.at' (S.fd n1 np (FS tp ap) (u550_e_0 n1 ap np tp n2 aq nq tq).1 (u550_e_0 n1 ap np tp n2 aq nq tq).2.2.length fun j=>S.at' (u550_e_0 n1 ap np tp n2 aq nq tq).2.2 j).2.2.2 j])]]) 18) False) False) False)
theorem te550:run fR Tryz.env true (xR0 fR) true 400 ⟨50,[.cd (zU Tryz.f50).body],z8 0 [.agg [.bool n1,.loose ⟨0,1,ap,0⟩ np],.agg [.bool n2,.loose ⟨1,1,aq,0⟩ nq]],[[],[(0,(false,CB mp tp)),(1,(false,CB mq tq))]],2⟩ (zr 2 [] fS fT)=
 Te550 fR fT n1 ap np mp tp n2 aq nq mq tq:=by kernel_rfl
noncomputable abbrev J550:Rt550→zS:=fun r=> [yC (2+1) ((N550) r)++ [(0,(false,CB mp tp)),(1,(false,CB mq tq))]]
attribute [local irreducible] Int.subNatNat in
theorem a550 {r:Rt550} (h:zY ((q550 n1 ap np mp tp n2 aq nq mq tq)) ((p550 n1 ap np mp tp n2 aq nq mq tq)) r):zn Tryz.prog 50 [.agg [.bool n1,.loose ⟨0,1,ap,0⟩ np],.agg [.bool n2,.loose ⟨1,1,aq,0⟩ nq]] [[(0,(false,CB mp tp)),(1,(false,CB mq tq))]] 2 ((V550) r) ((J550 mp tp mq tq) r) 400∧HB Tryz.prog 50:=by
 refine zf Tryz.envOk Tryz.mixed kH ((I550)) ((V550)) (J550 mp tp mq tq) (fn:=zU Tryz.f50) (ts:= []) (n:=400) rfl (by decide) (by simp) (zW rfl) ?_ ?_ ?_ h
 · intro s; exact s.elim
 · intro fS fT x hS hR h
   refine Holds.eq (te550 cond fS fT n1 ap np mp tp n2 aq nq mq tq) ?_
   unfold Te550
   unfold p550 at h
   exact zA h (fun c0 h=>zA h (fun c1 h=>zA h (fun c2 h=>zA h (fun c3 h=>zA h (fun c4 h=>zA h (fun c5 h=>zV hR _ h (fun n=>bif Nat.beq n 3 then 14 else bif Nat.beq n 4 then 19 else n) rfl rfl rfl (zc ⟨(zj rfl),(zX (zD rfl) rfl rfl),(zj rfl),(zX (zD rfl) rfl rfl),trivial⟩) rfl (zL (zD rfl) rfl (Nat.le_of_eq rfl) (zN (fun _ _=>rfl) zM) (zL (zD rfl) rfl (Nat.le_of_eq rfl) (zN (fun _ _=>rfl) zM) (zB (zC rfl) rfl rfl (zB (zC rfl) rfl rfl zE))))) (fun c5 h=>zF h)) (fun c4 h=>zF h)) (fun c3 h=>zF h)) (fun c2 h=>zF h)) (fun c1 h=>zF h)) (fun c0 h=>zA h (fun c1 h=>zA h (fun c2 h=>zA h (fun c3 h=>zV hR _ h (fun n=>bif Nat.beq n 3 then 10 else bif Nat.beq n 4 then 15 else n) rfl rfl rfl (zc ⟨(zj rfl),(zX (zD rfl) rfl rfl),(zj rfl),(zX (zD rfl) rfl rfl),trivial⟩) rfl (zL (zD rfl) rfl (Nat.le_of_eq rfl) (zN (fun _ _=>rfl) zM) (zL (zD rfl) rfl (Nat.le_of_eq rfl) (zN (fun _ _=>rfl) zM) (zB (zC rfl) rfl rfl (zB (zC rfl) rfl rfl zE))))) (fun c3 h=>zF h)) (fun c2 h=>zF h)) (fun c1 h=>zF h))
 · intro fS fT x hS hR s h; exact s.elim
end
noncomputable def k550:Con:=⟨50,[.agg [.plain (.bool),.list [.int .i64]],.agg [.plain (.bool),.list [.int .i64]]],w48 (fun n1 ap np mp tp n2 aq nq mq tq=>decide (((ap+np≤mp∧np≤1000000)∧aq+nq≤mq∧nq≤1000000)∧S.fV n1 np (FS tp ap)=true∧S.fV n2 nq (FS tq aq)=true∧0<nq)),w48 (fun n1 ap np mp tp n2 aq nq mq tq=>(V550) (S.fw (S.sv n1 (S.val np (FS tp ap))) (S.sv n2 (S.val nq (FS tq aq))))),w48 (fun n1 ap np mp tp n2 aq nq mq tq=>(N550) (S.fw (S.sv n1 (S.val np (FS tp ap))) (S.sv n2 (S.val nq (FS tq aq))))),fun _ _=> .dead⟩
theorem s550 (n1:Bool) (ap np mp:Nat) (tp:Nat→Int) (n2:Bool) (aq nq mq:Nat) (tq:Nat→Int) (hp:((ap+np≤mp∧np≤1000000)∧aq+nq≤mq∧nq≤1000000)∧S.fV n1 np (fun j=>tp (j+ap))=true∧S.fV n2 nq (fun j=>tq (j+aq))=true∧0<nq):zY ((q550 n1 ap np mp tp n2 aq nq mq tq)) ((p550 n1 ap np mp tp n2 aq nq mq tq)) (((S.fw (S.sv n1 (S.val np (fun j=>tp (j+ap)))) (S.sv n2 (S.val nq (fun j=>tq (j+aq))))).1,(S.fw (S.sv n1 (S.val np (fun j=>tp (j+ap)))) (S.sv n2 (S.val nq (fun j=>tq (j+aq))))).2.1,(S.fw (S.sv n1 (S.val np (fun j=>tp (j+ap)))) (S.sv n2 (S.val nq (fun j=>tq (j+aq))))).2.2.1,(S.fw (S.sv n1 (S.val np (fun j=>tp (j+ap)))) (S.sv n2 (S.val nq (fun j=>tq (j+aq))))).2.2.2)):=by
 obtain ⟨⟨⟨hp1,hp2⟩,hp3,hp4⟩,g1,g2,hn⟩:=hp
 have k1:=zi (z9 g1).2
 have k2:=zi (z9 g2).2
 have v1:=yM k1
 have v2:=yV (z9 g2).2 hn
 have w1:=z5 k1 (z9 g1).1
 have w2:=z5 k2 (z9 g2).1
 have lg:=zw (tQ (n:=np) (t:=(fun j=>tp (j+ap))) g2 hn)
 cases n2
 · have hr:S.fg n1 np (fun j=>tp (j+ap)) false nq (fun j=>tq (j+aq))=(false,0,S.f0 (S.fh (S.val np (fun j=>tp (j+ap))) (S.val nq (fun j=>tq (j+aq))))):=by unfold S.fg; rw [if_pos ⟨g1,g2⟩]
   have e1:=rD g1 g2 hn
   have e2:=sr g1 g2 hn
   unfold p550
   with_reducible refine zb rfl ?_
   with_reducible refine zH (decide_eq_true ⟨⟨hp1,hp2⟩,hp3,hp4⟩) ?_
   simp only [-eq_self,c550_e_0,c550_e_1,c550_e_2,c550_e_3,c550_e_4,hr]
   with_reducible refine zH (decide_eq_true ⟨⟨hp1,hp2⟩,by omega,by omega⟩) ?_
   with_reducible refine zH (decide_eq_true ⟨⟨hp3,hp4⟩,by omega,by omega⟩) ?_
   rw [e1,e2]
   exact zG.mpr rfl
 · have o1:=nK (ng:= !n1) v1 w1
   have o2:=nK (ng:=false) (Int.le_of_lt v2) w2
   have l1:=zw w1
   have l2:=zw w2
   have hr:S.fg (S.fy (!n1) (S.val np (fun j=>tp (j+ap)))) (S.f0 (S.val np (fun j=>tp (j+ap)))).length (fun j=>S.at' (S.f0 (S.val np (fun j=>tp (j+ap)))) j) false (S.f0 (S.val nq (fun j=>tq (j+aq)))).length (fun j=>S.at' (S.f0 (S.val nq (fun j=>tq (j+aq)))) j)=(false,0,S.f0 (S.fh (S.val np (fun j=>tp (j+ap))) (S.val nq (fun j=>tq (j+aq))))):=by
    unfold S.fg
    rw [if_pos ⟨o1.1,o2.1⟩,zq v1,zq (Int.le_of_lt v2)]
   have hl:0<(S.f0 (S.val nq (fun j=>tq (j+aq)))).length:=yc v2
   have e1:=rD o1.1 o2.1 hl
   have e2:=sr o1.1 o2.1 hl
   have q2:S.sv (S.fy false (S.val nq (fun j=>tq (j+aq)))) (S.val nq (fun j=>tq (j+aq)))= -(S.sv true (S.val nq (fun j=>tq (j+aq)))):=(Int.neg_neg _).symm
   rw [zq v1,zq (Int.le_of_lt v2),kN v1,oQ,q2,gg (by show-(S.val nq (fun j=>tq (j+aq)))≠0; omega)] at e1
   rw [zq v1,zq (Int.le_of_lt v2),kN v1,oQ,q2,gP] at e2
   have sf:S.fy false (S.val nq (fun j=>tq (j+aq)))=false:=rfl
   rw [sf] at e1 e2
   unfold p550
   with_reducible refine zH rfl ?_
   with_reducible refine zH (decide_eq_true ⟨⟨hp1,hp2⟩,k1⟩) ?_
   with_reducible refine zH (decide_eq_true ⟨⟨hp3,hp4⟩,k2⟩) ?_
   simp only [-eq_self,c550_e_0,c550_e_1,c550_e_2,c550_e_3,c550_e_4,Bool.not_true,sf,hr]
   with_reducible refine zH (decide_eq_true ⟨⟨by omega,by omega⟩,by omega,by omega⟩) ?_
   with_reducible refine zH (decide_eq_true ⟨⟨by omega,by omega⟩,by omega,by omega⟩) ?_
   with_reducible refine zH (decide_eq_true ⟨⟨by omega,by omega⟩,by omega,by omega⟩) ?_
   rw [e1,e2]
   exact zG.mpr rfl
theorem k550_ok:k550.ok Tryz.prog:=by
 intro x hx
 obtain ⟨⟨n1,⟨ap,np,mp,tp,_⟩,_⟩,⟨n2,⟨aq,nq,mq,tq,_⟩,_⟩,_⟩:=x
 obtain ⟨h1,h2⟩:=a550 n1 ap np mp tp n2 aq nq mq tq (s550 n1 ap np mp tp n2 aq nq mq tq (zm hx rfl))
 exact ⟨⟨400,(by decide:2+1+2≤400),h1⟩,h2⟩
noncomputable def xV (fR:Bool→Prop→Prop→Prop):Ext:=y2 fR [k65,k65v,k61,k44,k73,k46,k18,k19,k32,k45]
theorem iH:yT Tryz.prog (xV cond):=yH ⟨k65_ok,k65v_ok,k61_ok,k44_ok,k73_ok,k46_ok,k18_ok,k19_ok,k32_ok,k45_ok,trivial⟩
theorem ro {x:Int}: ∀ {L:List Int},S.eD (L++ [x])=S.eD L+S.pw L.length*x
  | []=>by simp only [List.nil_append,S.eD,List.length_nil,S.pw]; omega
  |y::L=>by
   simp only [List.cons_append,S.eD,List.length_cons,S.pw]
   rw [ro,Int.mul_add,Int.mul_assoc]
   omega
theorem tdm {m:Int}:((Int.tmod m 1000000<0∧ -Int.tmod m 1000000=(m.natAbs:Int) % 1000000)∨(0≤Int.tmod m 1000000∧Int.tmod m 1000000=(m.natAbs:Int) % 1000000))∧((Int.tdiv m 1000000).natAbs:Int)=(m.natAbs:Int) / 1000000∧(0≤m→0≤Int.tdiv m 1000000)∧(m≤0→Int.tdiv m 1000000≤0):=by
 by_cases h:0≤m
 · rw [tmB h,tdB h,Int.natAbs_of_nonneg h]
   refine ⟨.inr ⟨by omega,rfl⟩,?_,fun _=>by omega,fun _=>by omega⟩
   rw [Int.natAbs_of_nonneg (by omega)]
 · have e1:Int.tmod m 1000000= -((-m) % 1000000):=by
    rw [← tmB (x:= -m) (by omega),Int.neg_tmod,Int.neg_neg]
   have e2:Int.tdiv m 1000000= -((-m) / 1000000):=by
    rw [← tdB (x:= -m) (by omega),Int.neg_tdiv,Int.neg_neg]
   rw [e1,e2]
   have e3:(m.natAbs:Int)= -m:=by omega
   rw [e3]
   refine ⟨?_,by omega,fun _=>by omega,fun _=>by omega⟩
   by_cases h0:(-m) % 1000000=0
   · right; omega
   · left; omega
section
variable (fR:TT) (fS:KS) (fT:KR) (v:Int)
abbrev St14:=Empty
abbrev Rt14:=Bool×List Int
noncomputable def V14 (r:Rt14):PV:= .agg [.bool r.1,.own 1 1 r.2.length]
noncomputable def N14 (r:Rt14):List Blk:= [CI r.2]
noncomputable def I14:St14→Hd:=fun s=>s.elim
noncomputable def q14 (v:Int):St14→Option (St14⊕Rt14):=fun s=>s.elim
noncomputable def p14 (v:Int):Option (St14⊕Rt14):=bif (decide (v<0)) then (bif (decide ((0:Int)≤IntKind.wrap .u64 (-IntKind.wrap .u64 v)∧IntKind.wrap .u64 (-IntKind.wrap .u64 v)≤9223372036854775808)) then (bif ((↑((S.f0 (IntKind.wrap .u64 (-IntKind.wrap .u64 v))).length):Int)==0) then (some (.inr (false,[]))) else (some (.inr (true,S.f0 (IntKind.wrap .u64 (-IntKind.wrap .u64 v)))))) else none) else (bif (decide ((0:Int)≤IntKind.wrap .u64 v∧IntKind.wrap .u64 v≤9223372036854775808)) then (bif ((↑((S.f0 (IntKind.wrap .u64 v)).length):Int)==0) then (some (.inr (false,[]))) else (some (.inr (false,S.f0 (IntKind.wrap .u64 v))))) else none)
noncomputable abbrev u14_e_0:=S.f0 (IntKind.wrap IntKind.u64 (-IntKind.wrap IntKind.u64 v))
noncomputable abbrev u14_e_1:=(S.f0 (IntKind.wrap IntKind.u64 v)).length
noncomputable abbrev u14_e_2:=decide ((0:Int)≤IntKind.wrap IntKind.u64 (-IntKind.wrap IntKind.u64 v)∧IntKind.wrap IntKind.u64 (-IntKind.wrap IntKind.u64 v)≤(9223372036854775808:Int))
def Te14:Prop:=fR (decide (v<0)) (fR (decide (v<0)) (fR (u14_e_2 v) (fR ((↑((u14_e_0 v).length):Int)==0) (fT (.agg [.tf false,.nils]) ([[]]) 4) (fT (.agg [.tf true,.own 2 1 (u14_e_0 v).length]) ([[(2,true,CI (u14_e_0 v))]]) 4)) False) (fR (u14_e_2 v) (fR ((↑((u14_e_0 v).length):Int)==0) (fT (.agg [.tf false,.nils]) ([[]]) 4) (fT (.agg [.tf false,.own 2 1 (u14_e_0 v).length]) ([[(2,true,CI (u14_e_0 v))]]) 4)) False)) (fR (decide (v<0)) (fR (decide ((0:Int)≤IntKind.wrap .u64 v∧IntKind.wrap .u64 v≤9223372036854775808)) (fR ((↑(u14_e_1 v):Int)==0) (fT (.agg [.tf false,.nils]) ([[]]) 4) (fT (.agg [.tf true,.own 2 1 (u14_e_1 v)]) ([[(2,true,.cols (u14_e_1 v) [.int .i64 fun j=>S.at' (S.f0 (IntKind.wrap .u64 v)) j])]]) 4)) False) (fR (decide ((0:Int)≤IntKind.wrap .u64 v∧IntKind.wrap .u64 v≤9223372036854775808)) (fR ((↑(u14_e_1 v):Int)==0) (fT (.agg [.tf false,.nils]) ([[]]) 4) (fT (.agg [.tf false,.own 2 1 (u14_e_1 v)]) ([[(2,true,.cols (u14_e_1 v) [.int .i64 fun j=>S.at' (S.f0 (IntKind.wrap .u64 v)) j])]]) 4)) False))
theorem te14:run fR Tryz.env true (xV fR) true 400 ⟨49,[.cd (zU Tryz.f49).body],z8 0 [.int .i64 v],[[],[]],0⟩ (zr 0 [] fS fT)=
 Te14 fR fT v:=by kernel_rfl
attribute [local irreducible] Int.subNatNat in
theorem a14 {r:Rt14} (h:zY ((q14 v)) ((p14 v)) r):zn Tryz.prog 49 [.int .i64 v] [[]] 0 ((V14) r) ((fun r=> [yC (0+1) ((N14) r)++ []]) r) 400∧HB Tryz.prog 49:=by
 refine zf Tryz.envOk Tryz.mixed iH ((I14)) ((V14)) (fun r=> [yC (0+1) ((N14) r)++ []]) (fn:=zU Tryz.f49) (ts:= []) (n:=400) rfl (by decide) (by simp) (zW rfl) ?_ ?_ ?_ h
 · intro s; exact s.elim
 · intro fS fT x hS hR h
   refine Holds.eq (te14 cond fS fT v) ?_
   unfold Te14
   unfold p14 at h
   refine zA h (fun c0 h=>zJ c0 (zA h (fun c1 h=>zA h (fun c2 h=> ?_) (fun c2 h=> ?_)) (fun c1 h=> ?_))) (fun c0 h=>zd c0 (zA h (fun c1 h=>zA h (fun c2 h=> ?_) (fun c2 h=> ?_)) (fun c1 h=> ?_)))
   all_goals first
     |exact zV hR _ h (fun n=>bif Nat.beq n 1 then 399 else n) rfl rfl rfl (zc ⟨(zR rfl),(zO rfl),trivial⟩) rfl (zT (zD rfl) (za rfl) zE)
     |exact zV hR _ h (fun n=>bif Nat.beq n 1 then 2 else n) rfl rfl rfl (zc ⟨(zR rfl),(zX (zD rfl) rfl rfl),trivial⟩) rfl (zL (zD rfl) rfl (Nat.le_of_eq rfl) (zN (fun _ _=>rfl) zM) zE)
     |exact zF h
 · intro fS fT x hS hR s h; exact s.elim
end
noncomputable def k14:Con:=⟨49,[.one (.plain (.int .i64))],w44 (fun v=>decide (-9223372036854775808≤v∧v≤9223372036854775807)),w44 (fun v=>(V14) (S.fi v)),w44 (fun v=>(N14) (S.fi v)),fun _ _=> .dead⟩
theorem s14 (v:Int) (hp: -9223372036854775808≤v∧v≤9223372036854775807):zY ((q14 v)) ((p14 v)) (((S.fi v).1,(S.fi v).2)):=by
 unfold S.fi
 by_cases h:v<0
 · have w:IntKind.u64.wrap (-IntKind.u64.wrap v)= -v:=by rw [IntKind.wrap_u64,IntKind.wrap_u64]; omega
   have e:((v.natAbs:Nat):Int)= -v:=by omega
   have l: ¬ (((S.f0 (-v)).length:Int)==0)=true:=by
    have:=yc (v:= -v) (by omega)
    rw [beq_iff_eq]; omega
   unfold p14
   simp only [w,e,decide_eq_true h,cond_true,Bool.eq_false_iff.mpr l,cond_false]
   repeat' (first|with_reducible refine zP (fun h=> ?_) (fun h=> ?_)<;>(try simp only [SH] at h)|exact zK.mpr (by omega))
   all_goals first|(exfalso; omega)|exact zG.mpr rfl
 · have w:IntKind.u64.wrap v=v:=by rw [IntKind.wrap_u64]; omega
   have e:((v.natAbs:Nat):Int)=v:=by omega
   unfold p14
   simp only [w,e,decide_eq_false h,cond_false]
   have hz:= @yq v
   by_cases h0:v=0
   · subst h0
     simp only [yQ,List.length_nil]
     repeat' (first|with_reducible refine zP (fun h=> ?_) (fun h=> ?_)<;>(try simp only [SH] at h)|exact zK.mpr (by omega))
     all_goals first|(exfalso; omega)|exact zG.mpr rfl
   · have l: ¬ (((S.f0 v).length:Int)==0)=true:=by
      have:=yc (v:=v) (by omega)
      rw [beq_iff_eq]; omega
     simp only [Bool.eq_false_iff.mpr l,cond_false]
     repeat' (first|with_reducible refine zP (fun h=> ?_) (fun h=> ?_)<;>(try simp only [SH] at h)|exact zK.mpr (by omega))
     all_goals first|(exfalso; omega)|exact zG.mpr rfl
theorem k14_ok:k14.ok Tryz.prog:=by
 intro x hx
 obtain ⟨v,_⟩:=x
 obtain ⟨h1,h2⟩:=a14 v (s14 v (zm hx rfl))
 exact ⟨⟨400,(by decide:0+1+1≤400),h1⟩,h2⟩
section
variable (fR:TT) (fS:KS) (fT:KR) (v:Int)
inductive St21 where
 |h0 (x0:Int) (x1:List Int)
abbrev Rt21:=Bool×List Int
noncomputable def V21 (r:Rt21):PV:= .agg [.bool r.1,.own 1 1 r.2.length]
noncomputable def N21 (r:Rt21):List Blk:= [CI r.2]
noncomputable def I21:St21→Hd
  | .h0 x0 x1=>⟨hd Tryz.f43 0,[.int .i64 v,.ptr ⟨0,0,0,0⟩,
 .own 1 1 x1.length,.int .i64 x0],[[(0,(true,.cells [.tf false,.nils])),(1,(true,CI x1))],[]],2⟩
noncomputable def q21 (v:Int):St21→Option (St21⊕Rt21)| .h0 x0 x1=>bif (x0 != 0) then (bif (decide (Int.tmod x0 (1000000:Int)<0)) then (bif (lim .i64 (-Int.tmod x0 (1000000:Int))) then (bif (decide (x1.length+1≤1000000)) then (bif (decide (x1.length≤x1.length)) then (bif (lim .i64 (Int.tdiv x0 (1000000:Int))) then (some (.inl (.h0 (Int.tdiv x0 (1000000:Int)) (S.fZ x1 (-Int.tmod x0 (1000000:Int)))))) else none) else none) else none) else none) else (bif (decide (x1.length+1≤1000000)) then (bif (decide (x1.length≤x1.length)) then (bif (lim .i64 (Int.tdiv x0 (1000000:Int))) then (some (.inl (.h0 (Int.tdiv x0 (1000000:Int)) (S.fZ x1 (Int.tmod x0 (1000000:Int)))))) else none) else none) else none)) else (bif (decide (v<0)) then (bif (decide (0+x1.length≤x1.length∧x1.length≤1000000∧(S.fX x1.length fun j=>S.at' x1 j)=true)) then (some (.inr (S.fy true (S.val x1.length fun j=>S.at' x1 j),S.f0 (S.val x1.length fun j=>S.at' x1 j)))) else none) else (bif (decide (0+x1.length≤x1.length∧x1.length≤1000000∧(S.fX x1.length fun j=>S.at' x1 j)=true)) then (some (.inr (S.fy false (S.val x1.length fun j=>S.at' x1 j),S.f0 (S.val x1.length fun j=>S.at' x1 j)))) else none))
noncomputable def p21 (v:Int):Option (St21⊕Rt21):=some (.inl (.h0 v []))
def Te21:Prop:=fS (hd Tryz.f43 0) ([.int .i64 v,.ptr ⟨0,0,0,0⟩,.nils,.int .i64 v]) ([[(0,true,.cells [.tf false,.nils])]]) 1
theorem te21:run fR Tryz.env true (xV fR) true 400 ⟨43,[.cd (zU Tryz.f43).body],z8 0 [.int .i64 v],[[],[]],0⟩ (zr 0 [0,2,3,4] fS fT)=
 Te21 fS v:=by kernel_rfl
noncomputable abbrev u21_0_0 (x1:List Int):=S.val x1.length fun j=>S.at' x1 j
def T21_0 (x0:Int) (x1:List Int):Prop:=fR (x0 != 0) (fR false False (fR (decide (Int.tmod x0 (1000000:Int)<0)) (fR (lim .i64 (-Int.tmod x0 (1000000:Int))) (fR (decide (x1.length+1≤1000000)) (fR (decide (x1.length≤x1.length)) (fR true (fR false False (fR (lim .i64 (Int.tdiv x0 (1000000:Int))) (fS (hd Tryz.f43 0) ([.int .i64 v,.ptr ⟨0,0,0,0⟩,.own 3 1 (x1.length+1),.int .i64 (Int.tdiv x0 (1000000:Int))]) ([[(3,true,.cols (x1.length+1) [.int .i64 fun j=>bif Nat.blt j x1.length then S.at' x1 j else-Int.tmod x0 (1000000:Int)]),(0,true,.cells [.tf false,.nils])]]) 4) False)) False) False) False) False) (fR (decide (x1.length+1≤1000000)) (fR (decide (x1.length≤x1.length)) (fR true (fR false False (fR (lim .i64 (Int.tdiv x0 (1000000:Int))) (fS (hd Tryz.f43 0) ([.int .i64 v,.ptr ⟨0,0,0,0⟩,.own 3 1 (x1.length+1),.int .i64 (Int.tdiv x0 (1000000:Int))]) ([[(3,true,.cols (x1.length+1) [.int .i64 fun j=>bif Nat.blt j x1.length then S.at' x1 j else Int.tmod x0 (1000000:Int)]),(0,true,.cells [.tf false,.nils])]]) 4) False)) False) False) False))) (fR (decide (v<0)) (fR (decide (0+x1.length≤x1.length∧x1.length≤1000000∧(S.fX x1.length fun j=>S.at' x1 j)=true)) (fT (.agg [.bool (S.fy true (u21_0_0 x1)),.own 3 1 (S.f0 (u21_0_0 x1)).length]) ([[(3,true,CI (S.f0 (u21_0_0 x1)))]]) 4) False) (fR (decide (0+x1.length≤x1.length∧x1.length≤1000000∧(S.fX x1.length fun j=>S.at' x1 j)=true)) (fT (.agg [.bool (S.fy false (u21_0_0 x1)),.own 3 1 (S.f0 (u21_0_0 x1)).length]) ([[(3,true,CI (S.f0 (u21_0_0 x1)))]]) 4) False))
theorem t21_0 (x0:Int) (x1:List Int):run fR Tryz.env true (xV fR) true 400 ⟨43,hd Tryz.f43 0,yd [0,2,3,4] [.int .i64 v,.ptr ⟨0,0,0,0⟩,
 .own 1 1 x1.length,.int .i64 x0],[[(0,(true,.cells [.tf false,.nils])),(1,(true,CI x1))],[]],2⟩ (zr 0 [0,2,3,4] fS fT)=
  T21_0 fR fS fT v x0 x1:=by kernel_rfl
noncomputable abbrev J21:Rt21→zS:=fun r=> [yC (0+1) ((N21) r)++ []]
attribute [local irreducible] Int.subNatNat in
theorem a21 {r:Rt21} (h:zY ((q21 v)) ((p21 v)) r):zn Tryz.prog 43 [.int .i64 v] [[]] 0 ((V21) r) ((J21) r) 400∧HB Tryz.prog 43:=by
 refine zf Tryz.envOk Tryz.mixed iH ((I21 v)) ((V21)) (J21) (fn:=zU Tryz.f43) (ts:= [0,2,3,4]) (n:=400) rfl (by decide) (by simp) (zW rfl) ?_ ?_ ?_ h
 · intro s; cases s<;>exact ⟨yo _ _,by simp [I21],zW rfl,Nat.le_of_ble_eq_true rfl⟩
 · intro fS fT x hS hR h
   refine Holds.eq (te21 cond fS fT v) ?_
   unfold Te21
   exact ze hS _ h (fun n=>bif Nat.beq n 0 then 0 else bif Nat.beq n 1 then 399 else n) rfl rfl rfl ⟨(zI rfl),⟨(xJ (zD rfl) rfl rfl),⟨(zO rfl),⟨(zI rfl),trivial⟩⟩⟩⟩ rfl (xX (zD rfl) rfl (by simp) (yb ⟨(yw rfl),xy,trivial⟩) (zT (zD rfl) (za rfl) zE))
 · intro fS fT x hS hR s h
   cases s with
   | h0 x0 x1=>
    refine Holds.eq (t21_0 cond fS fT v x0 x1) ?_
    unfold T21_0
    rw [q21] at h
    refine zA h (fun c0 h=>zd rfl (zA h (fun c1 h=>zA h (fun c2 h=>zA h (fun c3 h=>zA h (fun c4 h=>zJ rfl (zd rfl (zA h (fun c5 h=> ?_) (fun c5 h=> ?_)))) (fun c4 h=> ?_)) (fun c3 h=> ?_)) (fun c2 h=> ?_)) (fun c1 h=>zA h (fun c2 h=>zA h (fun c3 h=>zJ rfl (zd rfl (zA h (fun c4 h=> ?_) (fun c4 h=> ?_)))) (fun c3 h=> ?_)) (fun c2 h=> ?_)))) (fun c0 h=>zA h (fun c1 h=>zA h (fun c2 h=> ?_) (fun c2 h=> ?_)) (fun c1 h=>zA h (fun c2 h=> ?_) (fun c2 h=> ?_)))
    all_goals first
      |exact zF h
      |exact ze hS _ h (fun n=>bif Nat.beq n 0 then 0 else bif Nat.beq n 1 then 3 else n) rfl rfl rfl ⟨(zI rfl),⟨(xJ (zD rfl) rfl rfl),⟨(zX (zD rfl) rfl (z7 rfl)),⟨(zI rfl),trivial⟩⟩⟩⟩ rfl (xX (zD rfl) rfl (by simp) (yb ⟨(yw rfl),xy,trivial⟩) (zL (zD rfl) rfl (Nat.le_of_eq (z7 rfl)) (zN (ym (fun (t:Int)=>t) rfl (fun _ _=>rfl)) zM) zE))
      |exact zV hR _ h (fun n=>bif Nat.beq n 1 then 3 else n) rfl rfl rfl (zc ⟨(zj rfl),(zX (zD rfl) rfl rfl),trivial⟩) rfl (zL (zD rfl) rfl (Nat.le_of_eq rfl) (zN (fun _ _=>rfl) zM) zE)
end
noncomputable def k21:Con:=⟨43,[.one (.plain (.int .i64))],w44 (fun v=>decide (-9223372036854775808≤v∧v≤9223372036854775807)),w44 (fun v=>(V21) (S.fi v)),w44 (fun v=>(N21) (S.fi v)),fun _ _=> .dead⟩
theorem s21' (v:Int) (hp: -9223372036854775808≤v∧v≤9223372036854775807): ∀ (k:Nat) (m:Int) (L:List Int),(m.natAbs:Int)<S.pw k→L.length+k≤1000→(∀ x ∈ L,0≤x∧x<1000000)→S.eD L+S.pw L.length*(m.natAbs:Int)=(v.natAbs:Int)→((v<0∧m≤0)∨(0≤v∧0≤m))→(-9223372036854775808≤m∧m≤9223372036854775807)→Comes (q21 v) (.h0 m L) ((S.fi v).1,(S.fi v).2):=by
 have fin: ∀ (L:List Int),L.length≤1000→(∀ x ∈ L,0≤x∧x<1000000)→S.eD L=(v.natAbs:Int)→Comes (q21 v) (.h0 0 L) ((S.fi v).1,(S.fi v).2):=fun L hl hd hv=>by
  have hvL:(S.val L.length fun j=>S.at' L j)=(v.natAbs:Int):=by have:=vN (L:=L); exact this.trans hv
  have c1:0+L.length≤L.length∧L.length≤1000000∧(S.fX L.length fun j=>S.at' L j)=true:=⟨by omega,by omega,yL.mpr fun j hj=>hd _ (by rw [tX hj]; exact List.getElem_mem _)⟩
  unfold S.fi
  apply Comes.of
  show zY _ _ _
  rw [q21]
  refine zb rfl ?_
  by_cases h:v<0
  · have hs:S.fy true (v.natAbs:Int)=true:=by unfold S.fy; rw [decide_eq_true (by omega)]; rfl
    simp only [decide_eq_true h,cond_true,decide_eq_true c1,hvL,hs]
    exact zG.mpr rfl
  · have hs:S.fy false (v.natAbs:Int)=false:=rfl
    simp only [decide_eq_false h,cond_false,decide_eq_true c1,cond_true,hvL,hs]
    exact zG.mpr rfl
 intro k
 induction k with
 |zero=>
  intro m L h1 hl hd hv hs hm
  have h1:(m.natAbs:Int)<1:=h1
  obtain rfl:m=0:=by omega
  exact fin L (by omega) hd (by rw [← hv]; simp)
 | succ k ih=>
  intro m L h1 hl hd hv hs hm
  have h1:(m.natAbs:Int)<1000000*S.pw k:=h1
  by_cases h0:m=0
  · subst h0
    exact fin L (by omega) hd (by rw [← hv]; simp)
  · obtain ⟨t1,t2,t3,t4⟩:=tdm (m:=m)
    have hn:(m.natAbs:Int)=(m.natAbs:Int) % 1000000+1000000*((m.natAbs:Int) / 1000000):=by omega
    have hd0:0≤(m.natAbs:Int) % 1000000∧(m.natAbs:Int) % 1000000<1000000:=by omega
    have hv':S.eD L+S.pw L.length*((m.natAbs:Int) % 1000000)+S.pw (L.length+1)*((m.natAbs:Int) / 1000000)=(v.natAbs:Int):=by
     rw [← hv]
     have:S.pw (L.length+1)=1000000*S.pw L.length:=rfl
     rw [this]
     generalize S.pw L.length=P at*
     generalize (m.natAbs:Int) % 1000000=r at*
     generalize (m.natAbs:Int) / 1000000=d at*
     rw [hn,Int.mul_add,Int.mul_left_comm P 1000000 d,Int.mul_assoc]
     omega
    have ih:=ih (Int.tdiv m 1000000) (S.fZ L ((m.natAbs:Int) % 1000000)) (by rw [t2]; omega) (by rw [yG]; omega)
      (by
       intro x hx
       rw [wC] at hx
       rcases List.mem_append.mp hx with hx|hx
       · exact hd x hx
       · rw [List.mem_singleton] at hx; subst hx; exact hd0)
      (by rw [wC,ro,t2,List.length_append]; exact hv')
      (by omega) (by omega)
    have hm0:(m != 0)=true:=by simpa using h0
    apply Comes.of
    show zY _ _ _
    rw [q21]
    simp only [hm0,cond_true]
    clear hv hv' hn
    rcases t1 with ⟨t1,t5⟩|⟨t1,t5⟩
    · simp only [decide_eq_true t1,cond_true,t5]
      generalize (m.natAbs:Int) % 1000000=r at*
      repeat' (first|with_reducible refine zP (fun h=> ?_) (fun h=> ?_)<;>(try simp only [SH] at h)|exact zK.mpr (by omega))
      all_goals first|(exfalso; omega)|exact ih
    · simp only [decide_eq_false (show ¬ Int.tmod m 1000000<0 by omega),cond_false,t5]
      generalize (m.natAbs:Int) % 1000000=r at*
      repeat' (first|with_reducible refine zP (fun h=> ?_) (fun h=> ?_)<;>(try simp only [SH] at h)|exact zK.mpr (by omega))
      all_goals first|(exfalso; omega)|exact ih
theorem s21 (v:Int) (hp: -9223372036854775808≤v∧v≤9223372036854775807):zY ((q21 v)) ((p21 v)) (((S.fi v).1,(S.fi v).2)):=by
 exact s21' v hp 4 v [] (by have:S.pw 4=1000000000000000000000000:=rfl; omega) (by decide) (fun x hx=>by cases hx) (by show (0:Int)+1*_=_; omega) (by omega) hp
theorem k21_ok:k21.ok Tryz.prog:=by
 intro x hx
 obtain ⟨v,_⟩:=x
 obtain ⟨h1,h2⟩:=a21 v (s21 v (zm hx rfl))
 exact ⟨⟨400,(by decide:0+1+1≤400),h1⟩,h2⟩
noncomputable def xR2 (fR:Bool→Prop→Prop→Prop):Ext:=y2 fR [k18,k19,k34,k35,k14,k21,k541,k556]
theorem kj:yT Tryz.prog (xR2 cond):=yH ⟨k18_ok,k19_ok,k34_ok,k35_ok,k14_ok,k21_ok,k541_ok,k556_ok,trivial⟩
theorem kA:(1:Int)<S.pw 80:=by
 have:=uj (k:=1) (m:=80) (by decide)
 have e:S.pw 1=1000000:=rfl
 omega
theorem qz {G:Int} (h0:0≤G) (h:(S.f0 G).length=1):S.at' (S.f0 G) 0=G:=by
 have hv:=uV h0
 match hL:S.f0 G,h with
 | [x],_=>
  rw [hL] at hv
  simp only [S.eD] at hv
  show x=G
  omega
theorem nB {a c:Int}:decide (Int.gcd a c=1)=decide (S.fh a c=1):=by
 unfold S.fh
 rw [Bool.eq_iff_iff,decide_eq_true_eq,decide_eq_true_eq]
 omega
theorem lJ {v w:Int} (h0:0≤v) (h1:0≤w) (l0:v<S.pw 80) (l1:w<S.pw 80):S.fu false (S.f0 v).length (fun j=>S.at' (S.f0 v) j) false (S.f0 w).length (fun j=>S.at' (S.f0 w) j)=S.fv v w:=by
 have o1:=pL h0 l0
 have o2:=pL h1 l1
 unfold S.fu
 rw [if_pos ⟨o1.1,o2.1⟩,o1.2,o2.2]
theorem mz {a:Int}:S.fh a 1=1:=by
 unfold S.fh
 rw [Int.gcd_one]; rfl
section
variable (fR:TT) (fS:KS) (fT:KR) (n1:Bool) (ap np mp:Nat) (tp:NI) (n2:Bool) (aq nq mq:Nat) (tq:NI)
noncomputable abbrev c522_e_0:=([[(1,false,Blk.cols mq [Col.int .i64 tq]),(0,false,Blk.cols mp [Col.int .i64 tp])]])
abbrev St522:=Empty
abbrev Rt522:=Bool
noncomputable def V522 (r:Rt522):PV:= .bool r
noncomputable def N522 (r:Rt522):List Blk:= []
noncomputable def I522:St522→Hd:=fun s=>s.elim
noncomputable def q522 (n1:Bool) (ap np mp:Nat) (tp:NI) (n2:Bool) (aq nq mq:Nat) (tq:NI):St522→Option (St522⊕Rt522):=fun s=>s.elim
noncomputable def p522 (n1:Bool) (ap np mp:Nat) (tp:NI) (n2:Bool) (aq nq mq:Nat) (tq:NI):Option (St522⊕Rt522):=bif (decide (ap+np≤mp∧np≤1000000)) then (bif (S.fV n1 np fun j=>tp (j+ap)) then (bif (decide (aq+nq≤mq∧nq≤1000000)) then (bif (S.fV n2 nq fun j=>tq (j+aq)) then (bif n2 then (some (.inr false)) else (bif ((nq:Int)==0) then (some (.inr false)) else (bif ((nq:Int)==1) then (bif (decide ((0:Int)≤0∧(0:Int)<(nq:Int))) then (bif (decide (0+aq<mq)) then (bif (tq (0+aq)==1) then (some (.inr true)) else (bif (decide ((ap+np≤mp∧np≤1000000)∧aq+nq≤mq∧nq≤1000000)) then (bif ((S.fg n1 np (fun j=>tp (j+ap)) n2 nq fun j=>tq (j+aq)).2.1==0) then (bif ((↑(((S.fg n1 np (fun j=>tp (j+ap)) n2 nq fun j=>tq (j+aq)).2.2).length):Int)==1) then (bif (decide ((0:Int)≤0∧(0:Int)<(↑((Prod.snd ((S.fg n1 np (fun j=>tp (j+ap)) n2 nq fun j=>tq (j+aq)).2)).length):Int))) then (bif (decide (0<((S.fg n1 np (fun j=>tp (j+ap)) n2 nq fun j=>tq (j+aq)).2.2).length)) then (bif (S.at' ((S.fg n1 np (fun j=>tp (j+ap)) n2 nq fun j=>tq (j+aq)).2.2) 0==1) then (some (.inr true)) else (some (.inr false))) else none) else none) else (some (.inr false))) else (some (.inr false))) else none)) else none) else none) else (bif (decide ((ap+np≤mp∧np≤1000000)∧aq+nq≤mq∧nq≤1000000)) then (bif ((S.fg n1 np (fun j=>tp (j+ap)) n2 nq fun j=>tq (j+aq)).2.1==0) then (bif ((↑(((S.fg n1 np (fun j=>tp (j+ap)) n2 nq fun j=>tq (j+aq)).2.2).length):Int)==1) then (bif (decide ((0:Int)≤0∧(0:Int)<(↑((Prod.snd ((S.fg n1 np (fun j=>tp (j+ap)) n2 nq fun j=>tq (j+aq)).2)).length):Int))) then (bif (decide (0<((S.fg n1 np (fun j=>tp (j+ap)) n2 nq fun j=>tq (j+aq)).2.2).length)) then (bif (S.at' ((S.fg n1 np (fun j=>tp (j+ap)) n2 nq fun j=>tq (j+aq)).2.2) 0==1) then (some (.inr true)) else (some (.inr false))) else none) else none) else (some (.inr false))) else (some (.inr false))) else none)))) else (some (.inr false))) else none) else (some (.inr false))) else none
noncomputable abbrev u522_e_0:=S.fg n1 np (fun j=>tp (j+ap)) n2 nq fun j=>tq (j+aq)
def Te522:Prop:=fR (decide (ap+np≤mp∧np≤1000000)) (fR (S.fV n1 np (FS tp ap)) (fR (decide (aq+nq≤mq∧nq≤1000000)) (fR (S.fV n2 nq (FS tq aq)) (fR n2 (fT (.tf false) (c522_e_0 mp tp mq tq) 5) (fR ((nq:Int)==0) (fT (.tf false) (c522_e_0 mp tp mq tq) 6) (fR ((nq:Int)==1) (fR (decide ((0:Int)≤0∧(0:Int)<(nq:Int))) (fR (decide (0+aq<mq)) (fR (tq (0+aq)==1) (fR n2 (fR (decide ((ap+np≤mp∧np≤1000000)∧aq+nq≤mq∧nq≤1000000)) (fR ((u522_e_0 n1 ap np tp n2 aq nq tq).2.1==0) (fR ((↑((u522_e_0 n1 ap np tp n2 aq nq tq).2.2.length):Int)==1) (fR (decide ((0:Int)≤0∧(0:Int)<(↑((u522_e_0 n1 ap np tp n2 aq nq tq).2.2.length):Int))) (fR (decide (0<(u522_e_0 n1 ap np tp n2 aq nq tq).2.2.length)) (fR (S.at' (u522_e_0 n1 ap np tp n2 aq nq tq).2.2 0==1) (fT (.tf true) (c522_e_0 mp tp mq tq) 13) (fT (.tf false) (c522_e_0 mp tp mq tq) 13)) False) False) (fT (.tf false) (c522_e_0 mp tp mq tq) 13)) (fT (.tf false) (c522_e_0 mp tp mq tq) 12)) False) (fT (.tf true) (c522_e_0 mp tp mq tq) 7)) (fR (decide ((ap+np≤mp∧np≤1000000)∧aq+nq≤mq∧nq≤1000000)) (fR ((u522_e_0 n1 ap np tp n2 aq nq tq).2.1==0) (fR ((↑((u522_e_0 n1 ap np tp n2 aq nq tq).2.2.length):Int)==1) (fR (decide ((0:Int)≤0∧(0:Int)<(↑((u522_e_0 n1 ap np tp n2 aq nq tq).2.2.length):Int))) (fR (decide (0<(u522_e_0 n1 ap np tp n2 aq nq tq).2.2.length)) (fR (S.at' (u522_e_0 n1 ap np tp n2 aq nq tq).2.2 0==1) (fT (.tf true) (c522_e_0 mp tp mq tq) 13) (fT (.tf false) (c522_e_0 mp tp mq tq) 13)) False) False) (fT (.tf false) (c522_e_0 mp tp mq tq) 13)) (fT (.tf false) (c522_e_0 mp tp mq tq) 12)) False)) False) False) (fR (decide ((ap+np≤mp∧np≤1000000)∧aq+nq≤mq∧nq≤1000000)) (fR ((u522_e_0 n1 ap np tp n2 aq nq tq).2.1==0) (fR ((↑((u522_e_0 n1 ap np tp n2 aq nq tq).2.2.length):Int)==1) (fR (decide ((0:Int)≤0∧(0:Int)<(↑((u522_e_0 n1 ap np tp n2 aq nq tq).2.2.length):Int))) (fR (decide (0<(u522_e_0 n1 ap np tp n2 aq nq tq).2.2.length)) (fR (S.at' (u522_e_0 n1 ap np tp n2 aq nq tq).2.2 0==1) (fT (.tf true) (c522_e_0 mp tp mq tq) 13) (fT (.tf false) (c522_e_0 mp tp mq tq) 13)) False) False) (fT (.tf false) (c522_e_0 mp tp mq tq) 13)) (fT (.tf false) (c522_e_0 mp tp mq tq) 12)) False)))) (fT (.tf false) (c522_e_0 mp tp mq tq) 5)) False) (fT (.tf false) (c522_e_0 mp tp mq tq) 4)) False
theorem te522:run fR Tryz.env true (xR2 fR) true 400 ⟨22,[.cd (zU Tryz.f22).body],z8 0 [.agg [.bool n1,.loose ⟨0,1,ap,0⟩ np,.bool n2,.loose ⟨1,1,aq,0⟩ nq]],[[],[(0,(false,CB mp tp)),(1,(false,CB mq tq))]],2⟩ (zr 2 [] fS fT)=
 Te522 fR fT n1 ap np mp tp n2 aq nq mq tq:=by kernel_rfl
noncomputable abbrev J522:Rt522→zS:=fun r=> [yC (2+1) ((N522) r)++ [(0,(false,CB mp tp)),(1,(false,CB mq tq))]]
attribute [local irreducible] Int.subNatNat in
theorem a522 {r:Rt522} (h:zY ((q522 n1 ap np mp tp n2 aq nq mq tq)) ((p522 n1 ap np mp tp n2 aq nq mq tq)) r):zn Tryz.prog 22 [.agg [.bool n1,.loose ⟨0,1,ap,0⟩ np,.bool n2,.loose ⟨1,1,aq,0⟩ nq]] [[(0,(false,CB mp tp)),(1,(false,CB mq tq))]] 2 ((V522) r) ((J522 mp tp mq tq) r) 400∧HB Tryz.prog 22:=by
 refine zf Tryz.envOk Tryz.mixed kj ((I522)) ((V522)) (J522 mp tp mq tq) (fn:=zU Tryz.f22) (ts:= []) (n:=400) rfl (by decide) (by simp) (zW rfl) ?_ ?_ ?_ h
 · intro s; exact s.elim
 · intro fS fT x hS hR h
   refine Holds.eq (te522 cond fS fT n1 ap np mp tp n2 aq nq mq tq) ?_
   unfold Te522
   unfold p522 at h
   refine zA h (fun c0 h=>zA h (fun c1 h=>zA h (fun c2 h=>zA h (fun c3 h=>zA h (fun c4 h=> ?_) (fun c4 h=>zA h (fun c5 h=> ?_) (fun c5 h=>zA h (fun c6 h=>zA h (fun c7 h=>zA h (fun c8 h=>zA h (fun c9 h=>zd c4 (zV hR _ h (fun n=>n) rfl rfl rfl (zR rfl) rfl (zB (zC rfl) rfl rfl (zB (zC rfl) rfl rfl zE)))) (fun c9 h=>zA h (fun c10 h=>zA h (fun c11 h=>zA h (fun c12 h=>zA h (fun c13 h=>zA h (fun c14 h=>zA h (fun c15 h=> ?_) (fun c15 h=> ?_)) (fun c14 h=> ?_)) (fun c13 h=> ?_)) (fun c12 h=> ?_)) (fun c11 h=> ?_)) (fun c10 h=> ?_))) (fun c8 h=> ?_)) (fun c7 h=> ?_)) (fun c6 h=>zA h (fun c7 h=>zA h (fun c8 h=>zA h (fun c9 h=>zA h (fun c10 h=>zA h (fun c11 h=>zA h (fun c12 h=> ?_) (fun c12 h=> ?_)) (fun c11 h=> ?_)) (fun c10 h=> ?_)) (fun c9 h=> ?_)) (fun c8 h=> ?_)) (fun c7 h=> ?_))))) (fun c3 h=> ?_)) (fun c2 h=> ?_)) (fun c1 h=> ?_)) (fun c0 h=> ?_)
   all_goals first
     |exact zV hR _ h (fun n=>n) rfl rfl rfl (zR rfl) rfl (zB (zC rfl) rfl rfl (zB (zC rfl) rfl rfl zE))
     |exact zF h
 · intro fS fT x hS hR s h; exact s.elim
end
noncomputable abbrev w522 {α:Type} (g:Bool→Nat→Nat→Nat→(Nat→Int)→Bool→Nat→Nat→Nat→(Nat→Int)→α) (x:(Bool×(Nat×Nat×Nat×(Nat→Int)×Unit)×Bool×(Nat×Nat×Nat×(Nat→Int)×Unit)×Unit)×Unit):α:=g x.1.1 x.1.2.1.1 x.1.2.1.2.1 x.1.2.1.2.2.1 x.1.2.1.2.2.2.1 x.1.2.2.1 x.1.2.2.2.1.1 x.1.2.2.2.1.2.1 x.1.2.2.2.1.2.2.1 x.1.2.2.2.1.2.2.2.1
noncomputable def k522:Con:=⟨22,[.agg [.plain (.bool),.list [.int .i64],.plain (.bool),.list [.int .i64]]],w522 (fun n1 ap np mp tp n2 aq nq mq tq=>decide ((ap+np≤mp∧np≤1000000)∧aq+nq≤mq∧nq≤1000000)),w522 (fun n1 ap np mp tp n2 aq nq mq tq=>(V522) (S.fY n1 np (FS tp ap) n2 nq (FS tq aq))),w522 (fun n1 ap np mp tp n2 aq nq mq tq=>(N522) (S.fY n1 np (FS tp ap) n2 nq (FS tq aq))),fun _ _=> .dead⟩
theorem s522 (n1:Bool) (ap np mp:Nat) (tp:Nat→Int) (n2:Bool) (aq nq mq:Nat) (tq:Nat→Int) (hp:(ap+np≤mp∧np≤1000000)∧aq+nq≤mq∧nq≤1000000):zY ((q522 n1 ap np mp tp n2 aq nq mq tq)) ((p522 n1 ap np mp tp n2 aq nq mq tq)) (S.fY n1 np (fun j=>tp (j+ap)) n2 nq (fun j=>tq (j+aq))):=by
 obtain ⟨⟨hp1,hp2⟩,hp3,hp4⟩:=hp
 unfold S.fY p522
 rw [nB]
 with_reducible refine zH (decide_eq_true ⟨hp1,hp2⟩) ?_
 cases g1:S.fV n1 np (fun j=>tp (j+ap))
 · with_reducible refine zb rfl ?_
   exact zG.mpr rfl
 with_reducible refine zH rfl ?_
 with_reducible refine zH (decide_eq_true ⟨hp3,hp4⟩) ?_
 cases g2:S.fV n2 nq (fun j=>tq (j+aq))
 · with_reducible refine zb rfl ?_
   exact zG.mpr rfl
 with_reducible refine zH rfl ?_
 cases n2
 rotate_left
 · with_reducible refine zH rfl ?_
   exact zG.mpr rfl
 with_reducible refine zb rfl ?_
 by_cases h0:nq=0
 · with_reducible refine zH (beq_iff_eq.mpr (by omega)) ?_
   rw [decide_eq_false (p:=0<nq) (by omega)]
   exact zG.mpr rfl
 with_reducible refine zb (beq_eq_false_iff_ne.mpr (by omega)) ?_
 have hr:S.fg n1 np (fun j=>tp (j+ap)) false nq (fun j=>tq (j+aq))=(false,0,S.f0 (S.fh (S.val np (fun j=>tp (j+ap))) (S.val nq (fun j=>tq (j+aq))))):=by unfold S.fg; rw [if_pos ⟨g1,g2⟩]
 have lg:=zw (tQ (n:=np) (t:=(fun j=>tp (j+ap))) g2 (by omega))
 have gp:=qk (n:=np) (t:=(fun j=>tp (j+ap))) g2 (by omega)
 have gl:=tQ (n:=np) (t:=(fun j=>tp (j+ap))) g2 (by omega)
 rw [decide_eq_true (p:=0<nq) (by omega)]
 by_cases h1:nq=1
 · with_reducible refine zH (beq_iff_eq.mpr (by omega)) ?_
   with_reducible refine zH (decide_eq_true ⟨Int.le_refl _,by omega⟩) ?_
   with_reducible refine zH (decide_eq_true (by omega)) ?_
   by_cases ht:tq (0+aq)=1
   · have hv:S.val nq (fun j=>tq (j+aq))=1:=by
      rw [h1]
      show tq (0+aq)+1000000*0=1
      omega
     with_reducible refine zH (beq_iff_eq.mpr ht) ?_
     rw [hv,mz]
     exact zG.mpr rfl
   · with_reducible refine zb (beq_eq_false_iff_ne.mpr ht) ?_
     with_reducible refine zH (decide_eq_true ⟨⟨hp1,hp2⟩,hp3,hp4⟩) ?_
     simp only [-eq_self,c522_e_0,hr]
     with_reducible refine zH (beq_self_eq_true _) ?_
     by_cases hG:(S.fh (S.val np (fun j=>tp (j+ap))) (S.val nq (fun j=>tq (j+aq))))=1
     · have eG:S.f0 (S.fh (S.val np (fun j=>tp (j+ap))) (S.val nq (fun j=>tq (j+aq))))= [1]:=by rw [hG]; exact ud
       rw [decide_eq_true hG,eG]
       with_reducible refine zH rfl ?_
       with_reducible refine zH (decide_eq_true ⟨Int.le_refl _,by decide⟩) ?_
       with_reducible refine zH (decide_eq_true (by decide)) ?_
       with_reducible refine zH rfl ?_
       exact zG.mpr rfl
     · rw [decide_eq_false hG]
       by_cases hl:(S.f0 (S.fh (S.val np (fun j=>tp (j+ap))) (S.val nq (fun j=>tq (j+aq))))).length=1
       · have ha:=qz (Int.le_of_lt gp) hl
         with_reducible refine zH (beq_iff_eq.mpr (by omega)) ?_
         with_reducible refine zH (decide_eq_true ⟨Int.le_refl _,by omega⟩) ?_
         with_reducible refine zH (decide_eq_true (by omega)) ?_
         with_reducible refine zb (beq_eq_false_iff_ne.mpr (by rw [ha]; exact hG)) ?_
         exact zG.mpr rfl
       · with_reducible refine zb (beq_eq_false_iff_ne.mpr (by omega)) ?_
         exact zG.mpr rfl
 · with_reducible refine zb (beq_eq_false_iff_ne.mpr (by omega)) ?_
   with_reducible refine zH (decide_eq_true ⟨⟨hp1,hp2⟩,hp3,hp4⟩) ?_
   simp only [-eq_self,c522_e_0,hr]
   with_reducible refine zH (beq_self_eq_true _) ?_
   by_cases hG:(S.fh (S.val np (fun j=>tp (j+ap))) (S.val nq (fun j=>tq (j+aq))))=1
   · have eG:S.f0 (S.fh (S.val np (fun j=>tp (j+ap))) (S.val nq (fun j=>tq (j+aq))))= [1]:=by rw [hG]; exact ud
     rw [decide_eq_true hG,eG]
     with_reducible refine zH rfl ?_
     with_reducible refine zH (decide_eq_true ⟨Int.le_refl _,by decide⟩) ?_
     with_reducible refine zH (decide_eq_true (by decide)) ?_
     with_reducible refine zH rfl ?_
     exact zG.mpr rfl
   · rw [decide_eq_false hG]
     by_cases hl:(S.f0 (S.fh (S.val np (fun j=>tp (j+ap))) (S.val nq (fun j=>tq (j+aq))))).length=1
     · have ha:=qz (Int.le_of_lt gp) hl
       with_reducible refine zH (beq_iff_eq.mpr (by omega)) ?_
       with_reducible refine zH (decide_eq_true ⟨Int.le_refl _,by omega⟩) ?_
       with_reducible refine zH (decide_eq_true (by omega)) ?_
       with_reducible refine zb (beq_eq_false_iff_ne.mpr (by rw [ha]; exact hG)) ?_
       exact zG.mpr rfl
     · with_reducible refine zb (beq_eq_false_iff_ne.mpr (by omega)) ?_
       exact zG.mpr rfl
theorem k522_ok:k522.ok Tryz.prog:=by
 intro x hx
 obtain ⟨⟨n1,⟨ap,np,mp,tp,_⟩,n2,⟨aq,nq,mq,tq,_⟩,_⟩,_⟩:=x
 obtain ⟨h1,h2⟩:=a522 n1 ap np mp tp n2 aq nq mq tq (s522 n1 ap np mp tp n2 aq nq mq tq (zm hx rfl))
 exact ⟨⟨400,(by decide:2+1+0≤400),h1⟩,h2⟩
section
variable (fR:TT) (fS:KS) (fT:KR) (n1:Bool) (ap np mp:Nat) (tp:NI) (n2:Bool) (aq nq mq:Nat) (tq:NI)
abbrev St523:=Empty
abbrev Rt523:=Bool
noncomputable def V523 (r:Rt523):PV:= .bool r
noncomputable def N523 (r:Rt523):List Blk:= []
noncomputable def I523:St523→Hd:=fun s=>s.elim
noncomputable def q523 (n1:Bool) (ap np mp:Nat) (tp:NI) (n2:Bool) (aq nq mq:Nat) (tq:NI):St523→Option (St523⊕Rt523):=fun s=>s.elim
noncomputable def p523 (n1:Bool) (ap np mp:Nat) (tp:NI) (n2:Bool) (aq nq mq:Nat) (tq:NI):Option (St523⊕Rt523):=bif (decide (ap+np≤mp∧np≤1000000)) then (bif (S.fV n1 np fun j=>tp (j+ap)) then (bif (decide (aq+nq≤mq∧nq≤1000000)) then (bif (S.fV n2 nq fun j=>tq (j+aq)) then (bif n2 then (some (.inr false)) else (bif ((nq:Int)==0) then (some (.inr false)) else (bif (decide ((ap+np≤mp∧np≤1000000)∧aq+nq≤mq∧nq≤1000000)) then (bif (decide ((0+(Prod.snd ((S.fg n1 np (fun j=>tp (j+ap)) n2 nq fun j=>tq (j+aq)).2)).length≤((S.fg n1 np (fun j=>tp (j+ap)) n2 nq fun j=>tq (j+aq)).2.2).length∧((S.fg n1 np (fun j=>tp (j+ap)) n2 nq fun j=>tq (j+aq)).2.2).length≤1000000)∧0+(Prod.snd ((S.fi (((1:Int),()).1)).1,(S.fi (((1:Int),()).1)).2)).length≤(Prod.snd ((S.fi (((1:Int),()).1)).1,(S.fi (((1:Int),()).1)).2)).length∧(Prod.snd ((S.fi (((1:Int),()).1)).1,(S.fi (((1:Int),()).1)).2)).length≤1000000∧(S.fV ((S.fg n1 np (fun j=>tp (j+ap)) n2 nq fun j=>tq (j+aq)).1) (Prod.snd ((S.fg n1 np (fun j=>tp (j+ap)) n2 nq fun j=>tq (j+aq)).2)).length fun j=>S.at' (Prod.snd ((S.fg n1 np (fun j=>tp (j+ap)) n2 nq fun j=>tq (j+aq)).2)) j)=true∧(S.fV false (Prod.snd ((S.fi (((1:Int),()).1)).1,(S.fi (((1:Int),()).1)).2)).length fun j=>S.at' ((Classical.indefiniteDescription (fun (x:Int→List Int)=>x=S.grpI) S.grp_ex).1 (↑(Int.natAbs (((1:Int),()).1)):Int)) j)=true)) then (bif (decide ((S.fu ((S.fg n1 np (fun j=>tp (j+ap)) n2 nq fun j=>tq (j+aq)).1) ((S.fg n1 np (fun j=>tp (j+ap)) n2 nq fun j=>tq (j+aq)).2.2).length (fun j=>S.at' ((S.fg n1 np (fun j=>tp (j+ap)) n2 nq fun j=>tq (j+aq)).2.2) j) false (Prod.snd ((S.fi (((1:Int),()).1)).1,(S.fi (((1:Int),()).1)).2)).length fun j=>S.at' ((Classical.indefiniteDescription (fun (x:Int→List Int)=>x=S.grpI) S.grp_ex).1 (↑(Int.natAbs (((1:Int),()).1)):Int)) j)=0)) then (some (.inr true)) else (some (.inr false))) else none) else none))) else (some (.inr false))) else none) else (some (.inr false))) else none
noncomputable abbrev u523_e_0:=([[(1,false,Blk.cols mq [Col.int IntKind.i64 tq]),(0,false,Blk.cols mp [Col.int IntKind.i64 tp])]])
noncomputable abbrev u523_e_1:=((S.fi ((1:Int),()).1).1,(S.fi ((1:Int),()).1).2)
def Te523:Prop:=fR (decide (ap+np≤mp∧np≤1000000)) (fR (S.fV n1 np (FS tp ap)) (fR (decide (aq+nq≤mq∧nq≤1000000)) (fR (S.fV n2 nq (FS tq aq)) (fR n2 (fT (.tf false) (u523_e_0 mp tp mq tq) 5) (fR ((nq:Int)==0) (fT (.tf false) (u523_e_0 mp tp mq tq) 6) (fR (decide ((ap+np≤mp∧np≤1000000)∧aq+nq≤mq∧nq≤1000000)) (fR true (fR (decide ((0+(S.fg n1 np (FS tp ap) n2 nq (FS tq aq)).2.2.length≤(S.fg n1 np (FS tp ap) n2 nq (FS tq aq)).2.2.length∧(S.fg n1 np (FS tp ap) n2 nq (FS tq aq)).2.2.length≤1000000)∧0+(u523_e_1).2.length≤(u523_e_1).2.length∧(u523_e_1).2.length≤1000000∧(S.fV (S.fg n1 np (FS tp ap) n2 nq (FS tq aq)).1 (S.fg n1 np (FS tp ap) n2 nq (FS tq aq)).2.2.length fun j=>S.at' (S.fg n1 np (FS tp ap) n2 nq (FS tq aq)).2.2 j)=true∧(S.fV false (u523_e_1).2.length fun j=>S.at' ((Classical.indefiniteDescription (fun (x:Int→List Int)=>x=S.grpI) S.grp_ex).1 (↑(Int.natAbs ((1:Int),()).1):Int)) j)=true)) (fR (decide ((S.fu (S.fg n1 np (FS tp ap) n2 nq (FS tq aq)).1 (S.fg n1 np (FS tp ap) n2 nq (FS tq aq)).2.2.length (fun j=>S.at' (S.fg n1 np (FS tp ap) n2 nq (FS tq aq)).2.2 j) false (u523_e_1).2.length fun j=>S.at' ((Classical.indefiniteDescription (fun (x:Int→List Int)=>x=S.grpI) S.grp_ex).1 (↑(Int.natAbs ((1:Int),()).1):Int)) j)=0)) (fT (.tf true) (u523_e_0 mp tp mq tq) 12) (fT (.tf false) (u523_e_0 mp tp mq tq) 12)) False) False) False))) (fT (.tf false) (u523_e_0 mp tp mq tq) 5)) False) (fT (.tf false) (u523_e_0 mp tp mq tq) 4)) False
theorem te523:run fR Tryz.env true (xR2 fR) true 400 ⟨23,[.cd (zU Tryz.f23).body],z8 0 [.agg [.bool n1,.loose ⟨0,1,ap,0⟩ np,.bool n2,.loose ⟨1,1,aq,0⟩ nq]],[[],[(0,(false,CB mp tp)),(1,(false,CB mq tq))]],2⟩ (zr 2 [] fS fT)=
 Te523 fR fT n1 ap np mp tp n2 aq nq mq tq:=by kernel_rfl
noncomputable abbrev J523:Rt523→zS:=fun r=> [yC (2+1) ((N523) r)++ [(0,(false,CB mp tp)),(1,(false,CB mq tq))]]
attribute [local irreducible] Int.subNatNat in
theorem a523 {r:Rt523} (h:zY ((q523 n1 ap np mp tp n2 aq nq mq tq)) ((p523 n1 ap np mp tp n2 aq nq mq tq)) r):zn Tryz.prog 23 [.agg [.bool n1,.loose ⟨0,1,ap,0⟩ np,.bool n2,.loose ⟨1,1,aq,0⟩ nq]] [[(0,(false,CB mp tp)),(1,(false,CB mq tq))]] 2 ((V523) r) ((J523 mp tp mq tq) r) 400∧HB Tryz.prog 23:=by
 refine zf Tryz.envOk Tryz.mixed kj ((I523)) ((V523)) (J523 mp tp mq tq) (fn:=zU Tryz.f23) (ts:= []) (n:=400) rfl (by decide) (by simp) (zW rfl) ?_ ?_ ?_ h
 · intro s; exact s.elim
 · intro fS fT x hS hR h
   refine Holds.eq (te523 cond fS fT n1 ap np mp tp n2 aq nq mq tq) ?_
   unfold Te523
   unfold p523 at h
   refine zA h (fun c0 h=>zA h (fun c1 h=>zA h (fun c2 h=>zA h (fun c3 h=>zA h (fun c4 h=> ?_) (fun c4 h=>zA h (fun c5 h=> ?_) (fun c5 h=>zA h (fun c6 h=>zJ rfl (zA h (fun c7 h=>zA h (fun c8 h=> ?_) (fun c8 h=> ?_)) (fun c7 h=> ?_))) (fun c6 h=> ?_)))) (fun c3 h=> ?_)) (fun c2 h=> ?_)) (fun c1 h=> ?_)) (fun c0 h=> ?_)
   all_goals first
     |exact zV hR _ h (fun n=>n) rfl rfl rfl (zR rfl) rfl (zB (zC rfl) rfl rfl (zB (zC rfl) rfl rfl zE))
     |exact zF h
 · intro fS fT x hS hR s h; exact s.elim
end
noncomputable def k523:Con:=⟨23,[.agg [.plain (.bool),.list [.int .i64],.plain (.bool),.list [.int .i64]]],w522 (fun n1 ap np mp tp n2 aq nq mq tq=>decide ((ap+np≤mp∧np≤1000000)∧aq+nq≤mq∧nq≤1000000)),w522 (fun n1 ap np mp tp n2 aq nq mq tq=>(V523) (S.fY n1 np (FS tp ap) n2 nq (FS tq aq))),w522 (fun n1 ap np mp tp n2 aq nq mq tq=>(N523) (S.fY n1 np (FS tp ap) n2 nq (FS tq aq))),fun _ _=> .dead⟩
theorem s523 (n1:Bool) (ap np mp:Nat) (tp:Nat→Int) (n2:Bool) (aq nq mq:Nat) (tq:Nat→Int) (hp:(ap+np≤mp∧np≤1000000)∧aq+nq≤mq∧nq≤1000000):zY ((q523 n1 ap np mp tp n2 aq nq mq tq)) ((p523 n1 ap np mp tp n2 aq nq mq tq)) (S.fY n1 np (fun j=>tp (j+ap)) n2 nq (fun j=>tq (j+aq))):=by
 obtain ⟨⟨hp1,hp2⟩,hp3,hp4⟩:=hp
 unfold S.fY p523
 rw [nB]
 with_reducible refine zH (decide_eq_true ⟨hp1,hp2⟩) ?_
 cases g1:S.fV n1 np (fun j=>tp (j+ap))
 · with_reducible refine zb rfl ?_
   exact zG.mpr rfl
 with_reducible refine zH rfl ?_
 with_reducible refine zH (decide_eq_true ⟨hp3,hp4⟩) ?_
 cases g2:S.fV n2 nq (fun j=>tq (j+aq))
 · with_reducible refine zb rfl ?_
   exact zG.mpr rfl
 with_reducible refine zH rfl ?_
 cases n2
 rotate_left
 · with_reducible refine zH rfl ?_
   exact zG.mpr rfl
 with_reducible refine zb rfl ?_
 by_cases h0:nq=0
 · with_reducible refine zH (beq_iff_eq.mpr (by omega)) ?_
   rw [decide_eq_false (p:=0<nq) (by omega)]
   exact zG.mpr rfl
 with_reducible refine zb (beq_eq_false_iff_ne.mpr (by omega)) ?_
 have hr:S.fg n1 np (fun j=>tp (j+ap)) false nq (fun j=>tq (j+aq))=(false,0,S.f0 (S.fh (S.val np (fun j=>tp (j+ap))) (S.val nq (fun j=>tq (j+aq))))):=by unfold S.fg; rw [if_pos ⟨g1,g2⟩]
 have lg:=zw (tQ (n:=np) (t:=(fun j=>tp (j+ap))) g2 (by omega))
 have gp:=qk (n:=np) (t:=(fun j=>tp (j+ap))) g2 (by omega)
 have gl:=tQ (n:=np) (t:=(fun j=>tp (j+ap))) g2 (by omega)
 rw [decide_eq_true (p:=0<nq) (by omega)]
 have o1:=pL (r:=1) (by decide) (kA)
 have oG:=pL (Int.le_of_lt gp) gl
 have hc:S.fu false (S.f0 (S.fh (S.val np (fun j=>tp (j+ap))) (S.val nq (fun j=>tq (j+aq))))).length (fun j=>S.at' (S.f0 (S.fh (S.val np (fun j=>tp (j+ap))) (S.val nq (fun j=>tq (j+aq))))) j) false (S.f0 1).length (fun j=>S.at' (S.f0 1) j)=S.fv (S.fh (S.val np (fun j=>tp (j+ap))) (S.val nq (fun j=>tq (j+aq)))) 1:=lJ (Int.le_of_lt gp) (by decide) gl kA
 have l1:(S.f0 1).length=1:=by rw [ud]; rfl
 with_reducible refine zH (decide_eq_true ⟨⟨hp1,hp2⟩,hp3,hp4⟩) ?_
 simp only [-eq_self,hr]
 refine zH (decide_eq_true ⟨⟨by omega,by omega⟩,?_,?_,oG.1,o1.1⟩) ?_
 · show 0+(S.f0 1).length≤(S.f0 1).length
   omega
 · show (S.f0 1).length≤1000000
   omega
 by_cases hG:(S.fh (S.val np (fun j=>tp (j+ap))) (S.val nq (fun j=>tq (j+aq))))=1
 · rw [decide_eq_true hG]
   refine zH (decide_eq_true (hc.trans (by rw [hG]; rfl))) ?_
   exact zG.mpr rfl
 · rw [decide_eq_false hG]
   refine zb (decide_eq_false fun x=>hG ?_) ?_
   · have y:=hc.symm.trans x
     unfold S.fv at y
     (repeat' split at y)<;>omega
   exact zG.mpr rfl
theorem k523_ok:k523.ok Tryz.prog:=by
 intro x hx
 obtain ⟨⟨n1,⟨ap,np,mp,tp,_⟩,n2,⟨aq,nq,mq,tq,_⟩,_⟩,_⟩:=x
 obtain ⟨h1,h2⟩:=a523 n1 ap np mp tp n2 aq nq mq tq (s523 n1 ap np mp tp n2 aq nq mq tq (zm hx rfl))
 exact ⟨⟨400,(by decide:2+1+0≤400),h1⟩,h2⟩
noncomputable def xR3 (fR:Bool→Prop→Prop→Prop):Ext:=y2 fR [k18,k19,k14,k21,k553,k550,k556,k522,k523]
theorem gM:yT Tryz.prog (xR3 cond):=yH ⟨k18_ok,k19_ok,k14_ok,k21_ok,k553_ok,k550_ok,k556_ok,k522_ok,k523_ok,trivial⟩
namespace S
noncomputable def fx (a c:Int):Bool×Bool×Int×List Int×List Int:=(decide (rn a c<0),false,0,f0 ((rn a c).natAbs:Int),f0 (rd a c))
def ft (n1:Bool) (n:Nat) (t:Nat→Int) (n2:Bool) (m:Nat) (u:Nat→Int) (n3:Bool) (n':Nat) (t':Nat→Int) (n4:Bool) (m':Nat) (u':Nat→Int):Bool:=fo n1 n t n3 n' t'&&fo n2 m u n4 m' u'
end S
section
variable (fR:TT) (fS:KS) (fT:KR) (n1:Bool) (ap np mp:Nat) (tp:NI) (n2:Bool) (aq nq mq:Nat) (tq:NI) (n3:Bool) (au nu mu:Nat) (tu:NI) (n4:Bool) (aw nw mw:Nat) (tw:NI)
abbrev St518:=Empty
abbrev Rt518:=Bool
noncomputable def V518 (r:Rt518):PV:= .bool r
noncomputable def N518 (r:Rt518):List Blk:= []
noncomputable def I518:St518→Hd:=fun s=>s.elim
noncomputable def q518 (n1:Bool) (ap np mp:Nat) (tp:NI) (n2:Bool) (aq nq mq:Nat) (tq:NI) (n3:Bool) (au nu mu:Nat) (tu:NI) (n4:Bool) (aw nw mw:Nat) (tw:NI):St518→Option (St518⊕Rt518):=fun s=>s.elim
noncomputable def p518 (n1:Bool) (ap np mp:Nat) (tp:NI) (n2:Bool) (aq nq mq:Nat) (tq:NI) (n3:Bool) (au nu mu:Nat) (tu:NI) (n4:Bool) (aw nw mw:Nat) (tw:NI):Option (St518⊕Rt518):=bif (decide ((ap+np≤mp∧np≤1000000)∧au+nu≤mu∧nu≤1000000)) then (bif (S.fo n1 np (fun j=>tp (j+ap)) n3 nu fun j=>tu (j+au)) then (bif (decide ((aq+nq≤mq∧nq≤1000000)∧aw+nw≤mw∧nw≤1000000)) then (bif (S.fo n2 nq (fun j=>tq (j+aq)) n4 nw fun j=>tw (j+aw)) then (some (.inr true)) else (some (.inr false))) else none) else (some (.inr false))) else none
noncomputable abbrev u518_e_0:=([[(3,false,Blk.cols mw [Col.int IntKind.i64 tw]),(2,false,Blk.cols mu [Col.int IntKind.i64 tu]),(1,false,Blk.cols mq [Col.int IntKind.i64 tq]),(0,false,Blk.cols mp [Col.int IntKind.i64 tp])]])
def Te518:Prop:=fR (decide ((ap+np≤mp∧np≤1000000)∧au+nu≤mu∧nu≤1000000)) (fR (S.fo n1 np (FS tp ap) n3 nu (FS tu au)) (fR (decide ((aq+nq≤mq∧nq≤1000000)∧aw+nw≤mw∧nw≤1000000)) (fR (S.fo n2 nq (FS tq aq) n4 nw (FS tw aw)) (fT (.tf true) (u518_e_0 mp tp mq tq mu tu mw tw) 8) (fT (.tf false) (u518_e_0 mp tp mq tq mu tu mw tw) 8)) False) (fT (.tf false) (u518_e_0 mp tp mq tq mu tu mw tw) 7)) False
theorem te518:run fR Tryz.env true (xR3 fR) true 400 ⟨18,[.cd (zU Tryz.f18).body],z8 0 [.agg [.bool n1,.loose ⟨0,1,ap,0⟩ np,.bool n2,.loose ⟨1,1,aq,0⟩ nq],.agg [.bool n3,.loose ⟨2,1,au,0⟩ nu,.bool n4,.loose ⟨3,1,aw,0⟩ nw]],[[],[(0,(false,CB mp tp)),(1,(false,CB mq tq)),(2,(false,CB mu tu)),(3,(false,CB mw tw))]],4⟩ (zr 4 [] fS fT)=
 Te518 fR fT n1 ap np mp tp n2 aq nq mq tq n3 au nu mu tu n4 aw nw mw tw:=by kernel_rfl
noncomputable abbrev J518:Rt518→zS:=fun r=> [yC (4+1) ((N518) r)++ [(0,(false,CB mp tp)),(1,(false,CB mq tq)),(2,(false,CB mu tu)),(3,(false,CB mw tw))]]
attribute [local irreducible] Int.subNatNat in
theorem a518 {r:Rt518} (h:zY ((q518 n1 ap np mp tp n2 aq nq mq tq n3 au nu mu tu n4 aw nw mw tw)) ((p518 n1 ap np mp tp n2 aq nq mq tq n3 au nu mu tu n4 aw nw mw tw)) r):zn Tryz.prog 18 [.agg [.bool n1,.loose ⟨0,1,ap,0⟩ np,.bool n2,.loose ⟨1,1,aq,0⟩ nq],.agg [.bool n3,.loose ⟨2,1,au,0⟩ nu,.bool n4,.loose ⟨3,1,aw,0⟩ nw]] [[(0,(false,CB mp tp)),(1,(false,CB mq tq)),(2,(false,CB mu tu)),(3,(false,CB mw tw))]] 4 ((V518) r) ((J518 mp tp mq tq mu tu mw tw) r) 400∧HB Tryz.prog 18:=by
 refine zf Tryz.envOk Tryz.mixed gM ((I518)) ((V518)) (J518 mp tp mq tq mu tu mw tw) (fn:=zU Tryz.f18) (ts:= []) (n:=400) rfl (by decide) (by simp) (zW rfl) ?_ ?_ ?_ h
 · intro s; exact s.elim
 · intro fS fT x hS hR h
   refine Holds.eq (te518 cond fS fT n1 ap np mp tp n2 aq nq mq tq n3 au nu mu tu n4 aw nw mw tw) ?_
   unfold Te518
   unfold p518 at h
   refine zA h (fun c0 h=>zA h (fun c1 h=>zA h (fun c2 h=>zA h (fun c3 h=> ?_) (fun c3 h=> ?_)) (fun c2 h=> ?_)) (fun c1 h=> ?_)) (fun c0 h=> ?_)
   all_goals first
     |exact zV hR _ h (fun n=>n) rfl rfl rfl (zR rfl) rfl (zB (zC rfl) rfl rfl (zB (zC rfl) rfl rfl (zB (zC rfl) rfl rfl (zB (zC rfl) rfl rfl zE))))
     |exact zF h
 · intro fS fT x hS hR s h; exact s.elim
end
noncomputable abbrev w518 {α:Type} (g:Bool→Nat→Nat→Nat→(Nat→Int)→Bool→Nat→Nat→Nat→(Nat→Int)→Bool→Nat→Nat→Nat→(Nat→Int)→Bool→Nat→Nat→Nat→(Nat→Int)→α) (x:(Bool×(Nat×Nat×Nat×(Nat→Int)×Unit)×Bool×(Nat×Nat×Nat×(Nat→Int)×Unit)×Unit)×(Bool×(Nat×Nat×Nat×(Nat→Int)×Unit)×Bool×(Nat×Nat×Nat×(Nat→Int)×Unit)×Unit)×Unit):α:=g x.1.1 x.1.2.1.1 x.1.2.1.2.1 x.1.2.1.2.2.1 x.1.2.1.2.2.2.1 x.1.2.2.1 x.1.2.2.2.1.1 x.1.2.2.2.1.2.1 x.1.2.2.2.1.2.2.1 x.1.2.2.2.1.2.2.2.1 x.2.1.1 x.2.1.2.1.1 x.2.1.2.1.2.1 x.2.1.2.1.2.2.1 x.2.1.2.1.2.2.2.1 x.2.1.2.2.1 x.2.1.2.2.2.1.1 x.2.1.2.2.2.1.2.1 x.2.1.2.2.2.1.2.2.1 x.2.1.2.2.2.1.2.2.2.1
noncomputable def k518:Con:=⟨18,[.agg [.plain (.bool),.list [.int .i64],.plain (.bool),.list [.int .i64]],.agg [.plain (.bool),.list [.int .i64],.plain (.bool),.list [.int .i64]]],w518 (fun n1 ap np mp tp n2 aq nq mq tq n3 au nu mu tu n4 aw nw mw tw=>decide (((ap+np≤mp∧np≤1000000)∧aq+nq≤mq∧nq≤1000000)∧(au+nu≤mu∧nu≤1000000)∧aw+nw≤mw∧nw≤1000000)),w518 (fun n1 ap np mp tp n2 aq nq mq tq n3 au nu mu tu n4 aw nw mw tw=>(V518) (S.ft n1 np (FS tp ap) n2 nq (FS tq aq) n3 nu (FS tu au) n4 nw (FS tw aw))),w518 (fun n1 ap np mp tp n2 aq nq mq tq n3 au nu mu tu n4 aw nw mw tw=>(N518) (S.ft n1 np (FS tp ap) n2 nq (FS tq aq) n3 nu (FS tu au) n4 nw (FS tw aw))),fun _ _=> .dead⟩
theorem s518 (n1:Bool) (ap np mp:Nat) (tp:Nat→Int) (n2:Bool) (aq nq mq:Nat) (tq:Nat→Int) (n3:Bool) (au nu mu:Nat) (tu:Nat→Int) (n4:Bool) (aw nw mw:Nat) (tw:Nat→Int) (hp:((ap+np≤mp∧np≤1000000)∧aq+nq≤mq∧nq≤1000000)∧(au+nu≤mu∧nu≤1000000)∧aw+nw≤mw∧nw≤1000000):zY ((q518 n1 ap np mp tp n2 aq nq mq tq n3 au nu mu tu n4 aw nw mw tw)) ((p518 n1 ap np mp tp n2 aq nq mq tq n3 au nu mu tu n4 aw nw mw tw)) (S.ft n1 np (fun j=>tp (j+ap)) n2 nq (fun j=>tq (j+aq)) n3 nu (fun j=>tu (j+au)) n4 nw (fun j=>tw (j+aw))):=by
 obtain ⟨⟨⟨hp1,hp2⟩,hp3,hp4⟩,⟨hp5,hp6⟩,hp7,hp8⟩:=hp
 unfold S.ft p518
 with_reducible refine zH (decide_eq_true ⟨⟨hp1,hp2⟩,hp5,hp6⟩) ?_
 cases g1:S.fo n1 np (fun j=>tp (j+ap)) n3 nu (fun j=>tu (j+au))
 · with_reducible refine zb rfl ?_
   exact zG.mpr rfl
 with_reducible refine zH rfl ?_
 with_reducible refine zH (decide_eq_true ⟨⟨hp3,hp4⟩,hp7,hp8⟩) ?_
 cases g2:S.fo n2 nq (fun j=>tq (j+aq)) n4 nw (fun j=>tw (j+aw))
 · with_reducible refine zb rfl ?_
   exact zG.mpr rfl
 with_reducible refine zH rfl ?_
 exact zG.mpr rfl
theorem k518_ok:k518.ok Tryz.prog:=by
 intro x hx
 obtain ⟨⟨n1,⟨ap,np,mp,tp,_⟩,n2,⟨aq,nq,mq,tq,_⟩,_⟩,⟨n3,⟨au,nu,mu,tu,_⟩,n4,⟨aw,nw,mw,tw,_⟩,_⟩,_⟩:=x
 obtain ⟨h1,h2⟩:=a518 n1 ap np mp tp n2 aq nq mq tq n3 au nu mu tu n4 aw nw mw tw (s518 n1 ap np mp tp n2 aq nq mq tq n3 au nu mu tu n4 aw nw mw tw (zm hx rfl))
 exact ⟨⟨400,(by decide:4+1+0≤400),h1⟩,h2⟩
noncomputable def ifX (fR:Bool→Prop→Prop→Prop) (c1 c2:Con) (sel:SsJ c1.ss→Bool):Ext:=fun f args H fr K no=>match Nat.beq f c1.f with
 |false=>no
 |true=>match mN H fr c1.ss args with
  |none=>no
  |some (x,_)=>fR (sel x) (kh fR c1 f args H fr K no) (kh fR c2 f args H fr K no)
theorem qn {P:Program} {c1 c2:Con} {sel:SsJ c1.ss→Bool} (h1:c1.ok P) (h2:c2.ok P):yT P (ifX cond c1 c2 sel):=by
 intro f args H fr K no hne hN h
 unfold ifX at h
 split at h
 · exact .inr h
 · split at h
   · exact .inr h
   · rename_i x ns hx
     cases hs:sel x with
     |true=>rw [hs] at h; exact qY h1 f args H fr K no hne hN h
     |false=>rw [hs] at h; exact qY h2 f args H fr K no hne hN h
namespace S
noncomputable def fl (v:Int):Bool:=decide ((f0 (v.natAbs:Int)).length≤80)
noncomputable def fj (n1:Bool) (n:Nat) (t:Nat→Int) (n2:Bool) (m:Nat) (u:Nat→Int):Bool:=fl (sv n1 (val n t)*sv n2 (val m u))
noncomputable def ngM (n1:Bool) (n:Nat) (t:Nat→Int) (n2:Bool) (m:Nat) (u:Nat→Int):Bool:=decide (sv n1 (val n t)*sv n2 (val m u)<0)
noncomputable def grM (n1:Bool) (n:Nat) (t:Nat→Int) (n2:Bool) (m:Nat) (u:Nat→Int):List Int:=f0 ((sv n1 (val n t)*sv n2 (val m u)).natAbs:Int)
noncomputable def fk (n1:Bool) (n:Nat) (t:Nat→Int) (n2:Bool) (m:Nat) (u:Nat→Int):Bool:=fl (sv n1 (val n t)+sv n2 (val m u))
noncomputable def ngA (n1:Bool) (n:Nat) (t:Nat→Int) (n2:Bool) (m:Nat) (u:Nat→Int):Bool:=decide (sv n1 (val n t)+sv n2 (val m u)<0)
noncomputable def grA (n1:Bool) (n:Nat) (t:Nat→Int) (n2:Bool) (m:Nat) (u:Nat→Int):List Int:=f0 ((sv n1 (val n t)+sv n2 (val m u)).natAbs:Int)
end S
theorem lD {v:Int} (h:S.fl v=true):S.eO v=(decide (v<0),0,S.f0 (v.natAbs:Int)):=by
 have:=of_decide_eq_true h
 unfold S.eO
 rw [if_neg (by omega)]
theorem lM {v:Int} (h:S.fl v=false):S.eO v=(false,3,[]):=by
 have:=of_decide_eq_false h
 unfold S.eO
 rw [if_pos (by omega)]
section
variable {n1 n2:Bool} {n m:Nat} {t u:Nat→Int}
theorem ku (g1:S.fV n1 n t=true) (g2:S.fV n2 m u=true) (h:S.fj n1 n t n2 m u=true):S.fe n1 n t n2 m u=(S.ngM n1 n t n2 m u,0,S.grM n1 n t n2 m u):=by
 unfold S.fe
 rw [if_pos ⟨g1,g2⟩,lD h]; rfl
theorem kI (g1:S.fV n1 n t=true) (g2:S.fV n2 m u=true) (h:S.fj n1 n t n2 m u=false):S.fe n1 n t n2 m u=(false,3,[]):=by
 unfold S.fe
 rw [if_pos ⟨g1,g2⟩,lM h]
theorem gS (g1:S.fV n1 n t=true) (g2:S.fV n2 m u=true) (h:S.fk n1 n t n2 m u=true):S.ff n1 n t n2 m u=(S.ngA n1 n t n2 m u,0,S.grA n1 n t n2 m u):=by
 unfold S.ff
 rw [if_pos ⟨g1,g2⟩,lD h]; rfl
theorem gx (g1:S.fV n1 n t=true) (g2:S.fV n2 m u=true) (h:S.fk n1 n t n2 m u=false):S.ff n1 n t n2 m u=(false,3,[]):=by
 unfold S.ff
 rw [if_pos ⟨g1,g2⟩,lM h]
end
noncomputable def k26f:Con:=⟨80,[.agg [.plain (.bool),.list [.int .i64]],.agg [.plain (.bool),.list [.int .i64]]],fun (x:(Bool×(Nat×Nat×Nat×(Nat→Int)×Unit)×Unit)×(Bool×(Nat×Nat×Nat×(Nat→Int)×Unit)×Unit)×Unit)=>(fun (n1:Bool) (ap np mp:Nat) (tp:Nat→Int) (n2:Bool) (aq nq mq:Nat) (tq:Nat→Int)=>decide (((ap+np≤mp∧np≤1000000)∧aq+nq≤mq∧nq≤1000000)∧S.fV n1 np (fun j=>tp (j+ap))=true∧S.fV n2 nq (fun j=>tq (j+aq))=true∧S.fj n1 np (fun j=>tp (j+ap)) n2 nq (fun j=>tq (j+aq))=true)) x.1.1 x.1.2.1.1 x.1.2.1.2.1 x.1.2.1.2.2.1 x.1.2.1.2.2.2.1 x.2.1.1 x.2.1.2.1.1 x.2.1.2.1.2.1 x.2.1.2.1.2.2.1 x.2.1.2.1.2.2.2.1,fun (x:(Bool×(Nat×Nat×Nat×(Nat→Int)×Unit)×Unit)×(Bool×(Nat×Nat×Nat×(Nat→Int)×Unit)×Unit)×Unit)=>(fun (n1:Bool) (ap np mp:Nat) (tp:Nat→Int) (n2:Bool) (aq nq mq:Nat) (tq:Nat→Int)=>(V26) (S.ngM n1 np (fun j=>tp (j+ap)) n2 nq (fun j=>tq (j+aq)),0,S.grM n1 np (fun j=>tp (j+ap)) n2 nq (fun j=>tq (j+aq)))) x.1.1 x.1.2.1.1 x.1.2.1.2.1 x.1.2.1.2.2.1 x.1.2.1.2.2.2.1 x.2.1.1 x.2.1.2.1.1 x.2.1.2.1.2.1 x.2.1.2.1.2.2.1 x.2.1.2.1.2.2.2.1,fun (x:(Bool×(Nat×Nat×Nat×(Nat→Int)×Unit)×Unit)×(Bool×(Nat×Nat×Nat×(Nat→Int)×Unit)×Unit)×Unit)=>(fun (n1:Bool) (ap np mp:Nat) (tp:Nat→Int) (n2:Bool) (aq nq mq:Nat) (tq:Nat→Int)=>(N26) (S.ngM n1 np (fun j=>tp (j+ap)) n2 nq (fun j=>tq (j+aq)),0,S.grM n1 np (fun j=>tp (j+ap)) n2 nq (fun j=>tq (j+aq)))) x.1.1 x.1.2.1.1 x.1.2.1.2.1 x.1.2.1.2.2.1 x.1.2.1.2.2.2.1 x.2.1.1 x.2.1.2.1.1 x.2.1.2.1.2.1 x.2.1.2.1.2.2.1 x.2.1.2.1.2.2.2.1,fun _ _=> .dead⟩
theorem s26f (n1:Bool) (ap np mp:Nat) (tp:Nat→Int) (n2:Bool) (aq nq mq:Nat) (tq:Nat→Int) (hp:((ap+np≤mp∧np≤1000000)∧aq+nq≤mq∧nq≤1000000)∧S.fV n1 np (fun j=>tp (j+ap))=true∧S.fV n2 nq (fun j=>tq (j+aq))=true∧S.fj n1 np (fun j=>tp (j+ap)) n2 nq (fun j=>tq (j+aq))=true):zY ((q26 n1 ap np mp tp n2 aq nq mq tq)) ((p26 n1 ap np mp tp n2 aq nq mq tq)) ((S.ngM n1 np (fun j=>tp (j+ap)) n2 nq (fun j=>tq (j+aq)),0,S.grM n1 np (fun j=>tp (j+ap)) n2 nq (fun j=>tq (j+aq)))):=by
 obtain ⟨hp0,g1,g2,g3⟩:=hp
 have hm:=s26 n1 ap np mp tp n2 aq nq mq tq hp0
 rw [ku g1 g2 g3] at hm
 exact hm
theorem k26f_ok:k26f.ok Tryz.prog:=by
 intro x hx
 obtain ⟨⟨n1,⟨ap,np,mp,tp,_⟩,_⟩,⟨n2,⟨aq,nq,mq,tq,_⟩,_⟩,_⟩:=x
 obtain ⟨h1,h2⟩:=a26 n1 ap np mp tp n2 aq nq mq tq (s26f n1 ap np mp tp n2 aq nq mq tq (zm hx rfl))
 exact ⟨⟨400,(by decide:2+1+1≤400),h1⟩,h2⟩
noncomputable def k26g:Con:=⟨80,[.agg [.plain (.bool),.list [.int .i64]],.agg [.plain (.bool),.list [.int .i64]]],fun (x:(Bool×(Nat×Nat×Nat×(Nat→Int)×Unit)×Unit)×(Bool×(Nat×Nat×Nat×(Nat→Int)×Unit)×Unit)×Unit)=>(fun (n1:Bool) (ap np mp:Nat) (tp:Nat→Int) (n2:Bool) (aq nq mq:Nat) (tq:Nat→Int)=>decide (((ap+np≤mp∧np≤1000000)∧aq+nq≤mq∧nq≤1000000)∧S.fV n1 np (fun j=>tp (j+ap))=true∧S.fV n2 nq (fun j=>tq (j+aq))=true∧S.fj n1 np (fun j=>tp (j+ap)) n2 nq (fun j=>tq (j+aq))=false)) x.1.1 x.1.2.1.1 x.1.2.1.2.1 x.1.2.1.2.2.1 x.1.2.1.2.2.2.1 x.2.1.1 x.2.1.2.1.1 x.2.1.2.1.2.1 x.2.1.2.1.2.2.1 x.2.1.2.1.2.2.2.1,fun (x:(Bool×(Nat×Nat×Nat×(Nat→Int)×Unit)×Unit)×(Bool×(Nat×Nat×Nat×(Nat→Int)×Unit)×Unit)×Unit)=>(fun (n1:Bool) (ap np mp:Nat) (tp:Nat→Int) (n2:Bool) (aq nq mq:Nat) (tq:Nat→Int)=>(V26) (false,3,[])) x.1.1 x.1.2.1.1 x.1.2.1.2.1 x.1.2.1.2.2.1 x.1.2.1.2.2.2.1 x.2.1.1 x.2.1.2.1.1 x.2.1.2.1.2.1 x.2.1.2.1.2.2.1 x.2.1.2.1.2.2.2.1,fun (x:(Bool×(Nat×Nat×Nat×(Nat→Int)×Unit)×Unit)×(Bool×(Nat×Nat×Nat×(Nat→Int)×Unit)×Unit)×Unit)=>(fun (n1:Bool) (ap np mp:Nat) (tp:Nat→Int) (n2:Bool) (aq nq mq:Nat) (tq:Nat→Int)=>(N26) (false,3,[])) x.1.1 x.1.2.1.1 x.1.2.1.2.1 x.1.2.1.2.2.1 x.1.2.1.2.2.2.1 x.2.1.1 x.2.1.2.1.1 x.2.1.2.1.2.1 x.2.1.2.1.2.2.1 x.2.1.2.1.2.2.2.1,fun _ _=> .dead⟩
theorem s26g (n1:Bool) (ap np mp:Nat) (tp:Nat→Int) (n2:Bool) (aq nq mq:Nat) (tq:Nat→Int) (hp:((ap+np≤mp∧np≤1000000)∧aq+nq≤mq∧nq≤1000000)∧S.fV n1 np (fun j=>tp (j+ap))=true∧S.fV n2 nq (fun j=>tq (j+aq))=true∧S.fj n1 np (fun j=>tp (j+ap)) n2 nq (fun j=>tq (j+aq))=false):zY ((q26 n1 ap np mp tp n2 aq nq mq tq)) ((p26 n1 ap np mp tp n2 aq nq mq tq)) ((false,3,[])):=by
 obtain ⟨hp0,g1,g2,g3⟩:=hp
 have hm:=s26 n1 ap np mp tp n2 aq nq mq tq hp0
 rw [kI g1 g2 g3] at hm
 exact hm
theorem k26g_ok:k26g.ok Tryz.prog:=by
 intro x hx
 obtain ⟨⟨n1,⟨ap,np,mp,tp,_⟩,_⟩,⟨n2,⟨aq,nq,mq,tq,_⟩,_⟩,_⟩:=x
 obtain ⟨h1,h2⟩:=a26 n1 ap np mp tp n2 aq nq mq tq (s26g n1 ap np mp tp n2 aq nq mq tq (zm hx rfl))
 exact ⟨⟨400,(by decide:2+1+1≤400),h1⟩,h2⟩
noncomputable def e26i:SsJ k26f.ss→Bool:=fun (x:(Bool×(Nat×Nat×Nat×(Nat→Int)×Unit)×Unit)×(Bool×(Nat×Nat×Nat×(Nat→Int)×Unit)×Unit)×Unit)=>(fun (n1:Bool) (ap np mp:Nat) (tp:Nat→Int) (n2:Bool) (aq nq mq:Nat) (tq:Nat→Int)=>S.fj n1 np (fun j=>tp (j+ap)) n2 nq (fun j=>tq (j+aq))) x.1.1 x.1.2.1.1 x.1.2.1.2.1 x.1.2.1.2.2.1 x.1.2.1.2.2.2.1 x.2.1.1 x.2.1.2.1.1 x.2.1.2.1.2.1 x.2.1.2.1.2.2.1 x.2.1.2.1.2.2.2.1
noncomputable def k27f:Con:=⟨74,[.agg [.plain (.bool),.list [.int .i64]],.agg [.plain (.bool),.list [.int .i64]]],fun (x:(Bool×(Nat×Nat×Nat×(Nat→Int)×Unit)×Unit)×(Bool×(Nat×Nat×Nat×(Nat→Int)×Unit)×Unit)×Unit)=>(fun (n1:Bool) (ap np mp:Nat) (tp:Nat→Int) (n2:Bool) (aq nq mq:Nat) (tq:Nat→Int)=>decide (((ap+np≤mp∧np≤1000000)∧aq+nq≤mq∧nq≤1000000)∧S.fV n1 np (fun j=>tp (j+ap))=true∧S.fV n2 nq (fun j=>tq (j+aq))=true∧S.fj n1 np (fun j=>tp (j+ap)) n2 nq (fun j=>tq (j+aq))=true)) x.1.1 x.1.2.1.1 x.1.2.1.2.1 x.1.2.1.2.2.1 x.1.2.1.2.2.2.1 x.2.1.1 x.2.1.2.1.1 x.2.1.2.1.2.1 x.2.1.2.1.2.2.1 x.2.1.2.1.2.2.2.1,fun (x:(Bool×(Nat×Nat×Nat×(Nat→Int)×Unit)×Unit)×(Bool×(Nat×Nat×Nat×(Nat→Int)×Unit)×Unit)×Unit)=>(fun (n1:Bool) (ap np mp:Nat) (tp:Nat→Int) (n2:Bool) (aq nq mq:Nat) (tq:Nat→Int)=>(V27) (S.ngM n1 np (fun j=>tp (j+ap)) n2 nq (fun j=>tq (j+aq)),0,S.grM n1 np (fun j=>tp (j+ap)) n2 nq (fun j=>tq (j+aq)))) x.1.1 x.1.2.1.1 x.1.2.1.2.1 x.1.2.1.2.2.1 x.1.2.1.2.2.2.1 x.2.1.1 x.2.1.2.1.1 x.2.1.2.1.2.1 x.2.1.2.1.2.2.1 x.2.1.2.1.2.2.2.1,fun (x:(Bool×(Nat×Nat×Nat×(Nat→Int)×Unit)×Unit)×(Bool×(Nat×Nat×Nat×(Nat→Int)×Unit)×Unit)×Unit)=>(fun (n1:Bool) (ap np mp:Nat) (tp:Nat→Int) (n2:Bool) (aq nq mq:Nat) (tq:Nat→Int)=>(N27) (S.ngM n1 np (fun j=>tp (j+ap)) n2 nq (fun j=>tq (j+aq)),0,S.grM n1 np (fun j=>tp (j+ap)) n2 nq (fun j=>tq (j+aq)))) x.1.1 x.1.2.1.1 x.1.2.1.2.1 x.1.2.1.2.2.1 x.1.2.1.2.2.2.1 x.2.1.1 x.2.1.2.1.1 x.2.1.2.1.2.1 x.2.1.2.1.2.2.1 x.2.1.2.1.2.2.2.1,fun _ _=> .dead⟩
theorem s27f (n1:Bool) (ap np mp:Nat) (tp:Nat→Int) (n2:Bool) (aq nq mq:Nat) (tq:Nat→Int) (hp:((ap+np≤mp∧np≤1000000)∧aq+nq≤mq∧nq≤1000000)∧S.fV n1 np (fun j=>tp (j+ap))=true∧S.fV n2 nq (fun j=>tq (j+aq))=true∧S.fj n1 np (fun j=>tp (j+ap)) n2 nq (fun j=>tq (j+aq))=true):zY ((q27 n1 ap np mp tp n2 aq nq mq tq)) ((p27 n1 ap np mp tp n2 aq nq mq tq)) ((S.ngM n1 np (fun j=>tp (j+ap)) n2 nq (fun j=>tq (j+aq)),0,S.grM n1 np (fun j=>tp (j+ap)) n2 nq (fun j=>tq (j+aq)))):=by
 obtain ⟨hp0,g1,g2,g3⟩:=hp
 have hm:=s27 n1 ap np mp tp n2 aq nq mq tq hp0
 rw [ku g1 g2 g3] at hm
 exact hm
theorem k27f_ok:k27f.ok Tryz.prog:=by
 intro x hx
 obtain ⟨⟨n1,⟨ap,np,mp,tp,_⟩,_⟩,⟨n2,⟨aq,nq,mq,tq,_⟩,_⟩,_⟩:=x
 obtain ⟨h1,h2⟩:=a27 n1 ap np mp tp n2 aq nq mq tq (s27f n1 ap np mp tp n2 aq nq mq tq (zm hx rfl))
 exact ⟨⟨400,(by decide:2+1+1≤400),h1⟩,h2⟩
noncomputable def k27g:Con:=⟨74,[.agg [.plain (.bool),.list [.int .i64]],.agg [.plain (.bool),.list [.int .i64]]],fun (x:(Bool×(Nat×Nat×Nat×(Nat→Int)×Unit)×Unit)×(Bool×(Nat×Nat×Nat×(Nat→Int)×Unit)×Unit)×Unit)=>(fun (n1:Bool) (ap np mp:Nat) (tp:Nat→Int) (n2:Bool) (aq nq mq:Nat) (tq:Nat→Int)=>decide (((ap+np≤mp∧np≤1000000)∧aq+nq≤mq∧nq≤1000000)∧S.fV n1 np (fun j=>tp (j+ap))=true∧S.fV n2 nq (fun j=>tq (j+aq))=true∧S.fj n1 np (fun j=>tp (j+ap)) n2 nq (fun j=>tq (j+aq))=false)) x.1.1 x.1.2.1.1 x.1.2.1.2.1 x.1.2.1.2.2.1 x.1.2.1.2.2.2.1 x.2.1.1 x.2.1.2.1.1 x.2.1.2.1.2.1 x.2.1.2.1.2.2.1 x.2.1.2.1.2.2.2.1,fun (x:(Bool×(Nat×Nat×Nat×(Nat→Int)×Unit)×Unit)×(Bool×(Nat×Nat×Nat×(Nat→Int)×Unit)×Unit)×Unit)=>(fun (n1:Bool) (ap np mp:Nat) (tp:Nat→Int) (n2:Bool) (aq nq mq:Nat) (tq:Nat→Int)=>(V27) (false,3,[])) x.1.1 x.1.2.1.1 x.1.2.1.2.1 x.1.2.1.2.2.1 x.1.2.1.2.2.2.1 x.2.1.1 x.2.1.2.1.1 x.2.1.2.1.2.1 x.2.1.2.1.2.2.1 x.2.1.2.1.2.2.2.1,fun (x:(Bool×(Nat×Nat×Nat×(Nat→Int)×Unit)×Unit)×(Bool×(Nat×Nat×Nat×(Nat→Int)×Unit)×Unit)×Unit)=>(fun (n1:Bool) (ap np mp:Nat) (tp:Nat→Int) (n2:Bool) (aq nq mq:Nat) (tq:Nat→Int)=>(N27) (false,3,[])) x.1.1 x.1.2.1.1 x.1.2.1.2.1 x.1.2.1.2.2.1 x.1.2.1.2.2.2.1 x.2.1.1 x.2.1.2.1.1 x.2.1.2.1.2.1 x.2.1.2.1.2.2.1 x.2.1.2.1.2.2.2.1,fun _ _=> .dead⟩
theorem s27g (n1:Bool) (ap np mp:Nat) (tp:Nat→Int) (n2:Bool) (aq nq mq:Nat) (tq:Nat→Int) (hp:((ap+np≤mp∧np≤1000000)∧aq+nq≤mq∧nq≤1000000)∧S.fV n1 np (fun j=>tp (j+ap))=true∧S.fV n2 nq (fun j=>tq (j+aq))=true∧S.fj n1 np (fun j=>tp (j+ap)) n2 nq (fun j=>tq (j+aq))=false):zY ((q27 n1 ap np mp tp n2 aq nq mq tq)) ((p27 n1 ap np mp tp n2 aq nq mq tq)) ((false,3,[])):=by
 obtain ⟨hp0,g1,g2,g3⟩:=hp
 have hm:=s27 n1 ap np mp tp n2 aq nq mq tq hp0
 rw [kI g1 g2 g3] at hm
 exact hm
theorem k27g_ok:k27g.ok Tryz.prog:=by
 intro x hx
 obtain ⟨⟨n1,⟨ap,np,mp,tp,_⟩,_⟩,⟨n2,⟨aq,nq,mq,tq,_⟩,_⟩,_⟩:=x
 obtain ⟨h1,h2⟩:=a27 n1 ap np mp tp n2 aq nq mq tq (s27g n1 ap np mp tp n2 aq nq mq tq (zm hx rfl))
 exact ⟨⟨400,(by decide:2+1+1≤400),h1⟩,h2⟩
noncomputable def e27i:SsJ k27f.ss→Bool:=fun (x:(Bool×(Nat×Nat×Nat×(Nat→Int)×Unit)×Unit)×(Bool×(Nat×Nat×Nat×(Nat→Int)×Unit)×Unit)×Unit)=>(fun (n1:Bool) (ap np mp:Nat) (tp:Nat→Int) (n2:Bool) (aq nq mq:Nat) (tq:Nat→Int)=>S.fj n1 np (fun j=>tp (j+ap)) n2 nq (fun j=>tq (j+aq))) x.1.1 x.1.2.1.1 x.1.2.1.2.1 x.1.2.1.2.2.1 x.1.2.1.2.2.2.1 x.2.1.1 x.2.1.2.1.1 x.2.1.2.1.2.1 x.2.1.2.1.2.2.1 x.2.1.2.1.2.2.2.1
noncomputable def k22f:Con:=⟨137,[.agg [.plain (.bool),.list [.int .i64]],.agg [.plain (.bool),.list [.int .i64]]],fun (x:(Bool×(Nat×Nat×Nat×(Nat→Int)×Unit)×Unit)×(Bool×(Nat×Nat×Nat×(Nat→Int)×Unit)×Unit)×Unit)=>(fun (n1:Bool) (ap np mp:Nat) (tp:Nat→Int) (n2:Bool) (aq nq mq:Nat) (tq:Nat→Int)=>decide (((ap+np≤mp∧np≤1000000)∧aq+nq≤mq∧nq≤1000000)∧S.fV n1 np (fun j=>tp (j+ap))=true∧S.fV n2 nq (fun j=>tq (j+aq))=true∧S.fk n1 np (fun j=>tp (j+ap)) n2 nq (fun j=>tq (j+aq))=true)) x.1.1 x.1.2.1.1 x.1.2.1.2.1 x.1.2.1.2.2.1 x.1.2.1.2.2.2.1 x.2.1.1 x.2.1.2.1.1 x.2.1.2.1.2.1 x.2.1.2.1.2.2.1 x.2.1.2.1.2.2.2.1,fun (x:(Bool×(Nat×Nat×Nat×(Nat→Int)×Unit)×Unit)×(Bool×(Nat×Nat×Nat×(Nat→Int)×Unit)×Unit)×Unit)=>(fun (n1:Bool) (ap np mp:Nat) (tp:Nat→Int) (n2:Bool) (aq nq mq:Nat) (tq:Nat→Int)=>(V22) (S.ngA n1 np (fun j=>tp (j+ap)) n2 nq (fun j=>tq (j+aq)),0,S.grA n1 np (fun j=>tp (j+ap)) n2 nq (fun j=>tq (j+aq)))) x.1.1 x.1.2.1.1 x.1.2.1.2.1 x.1.2.1.2.2.1 x.1.2.1.2.2.2.1 x.2.1.1 x.2.1.2.1.1 x.2.1.2.1.2.1 x.2.1.2.1.2.2.1 x.2.1.2.1.2.2.2.1,fun (x:(Bool×(Nat×Nat×Nat×(Nat→Int)×Unit)×Unit)×(Bool×(Nat×Nat×Nat×(Nat→Int)×Unit)×Unit)×Unit)=>(fun (n1:Bool) (ap np mp:Nat) (tp:Nat→Int) (n2:Bool) (aq nq mq:Nat) (tq:Nat→Int)=>(N22) (S.ngA n1 np (fun j=>tp (j+ap)) n2 nq (fun j=>tq (j+aq)),0,S.grA n1 np (fun j=>tp (j+ap)) n2 nq (fun j=>tq (j+aq)))) x.1.1 x.1.2.1.1 x.1.2.1.2.1 x.1.2.1.2.2.1 x.1.2.1.2.2.2.1 x.2.1.1 x.2.1.2.1.1 x.2.1.2.1.2.1 x.2.1.2.1.2.2.1 x.2.1.2.1.2.2.2.1,fun _ _=> .dead⟩
theorem s22f (n1:Bool) (ap np mp:Nat) (tp:Nat→Int) (n2:Bool) (aq nq mq:Nat) (tq:Nat→Int) (hp:((ap+np≤mp∧np≤1000000)∧aq+nq≤mq∧nq≤1000000)∧S.fV n1 np (fun j=>tp (j+ap))=true∧S.fV n2 nq (fun j=>tq (j+aq))=true∧S.fk n1 np (fun j=>tp (j+ap)) n2 nq (fun j=>tq (j+aq))=true):zY ((q22 n1 ap np mp tp n2 aq nq mq tq)) ((p22 n1 ap np mp tp n2 aq nq mq tq)) ((S.ngA n1 np (fun j=>tp (j+ap)) n2 nq (fun j=>tq (j+aq)),0,S.grA n1 np (fun j=>tp (j+ap)) n2 nq (fun j=>tq (j+aq)))):=by
 obtain ⟨hp0,g1,g2,g3⟩:=hp
 have hm:=s22 n1 ap np mp tp n2 aq nq mq tq hp0
 rw [gS g1 g2 g3] at hm
 exact hm
theorem k22f_ok:k22f.ok Tryz.prog:=by
 intro x hx
 obtain ⟨⟨n1,⟨ap,np,mp,tp,_⟩,_⟩,⟨n2,⟨aq,nq,mq,tq,_⟩,_⟩,_⟩:=x
 obtain ⟨h1,h2⟩:=a22 n1 ap np mp tp n2 aq nq mq tq (s22f n1 ap np mp tp n2 aq nq mq tq (zm hx rfl))
 exact ⟨⟨400,(by decide:2+1+1≤400),h1⟩,h2⟩
noncomputable def k22g:Con:=⟨137,[.agg [.plain (.bool),.list [.int .i64]],.agg [.plain (.bool),.list [.int .i64]]],fun (x:(Bool×(Nat×Nat×Nat×(Nat→Int)×Unit)×Unit)×(Bool×(Nat×Nat×Nat×(Nat→Int)×Unit)×Unit)×Unit)=>(fun (n1:Bool) (ap np mp:Nat) (tp:Nat→Int) (n2:Bool) (aq nq mq:Nat) (tq:Nat→Int)=>decide (((ap+np≤mp∧np≤1000000)∧aq+nq≤mq∧nq≤1000000)∧S.fV n1 np (fun j=>tp (j+ap))=true∧S.fV n2 nq (fun j=>tq (j+aq))=true∧S.fk n1 np (fun j=>tp (j+ap)) n2 nq (fun j=>tq (j+aq))=false)) x.1.1 x.1.2.1.1 x.1.2.1.2.1 x.1.2.1.2.2.1 x.1.2.1.2.2.2.1 x.2.1.1 x.2.1.2.1.1 x.2.1.2.1.2.1 x.2.1.2.1.2.2.1 x.2.1.2.1.2.2.2.1,fun (x:(Bool×(Nat×Nat×Nat×(Nat→Int)×Unit)×Unit)×(Bool×(Nat×Nat×Nat×(Nat→Int)×Unit)×Unit)×Unit)=>(fun (n1:Bool) (ap np mp:Nat) (tp:Nat→Int) (n2:Bool) (aq nq mq:Nat) (tq:Nat→Int)=>(V22) (false,3,[])) x.1.1 x.1.2.1.1 x.1.2.1.2.1 x.1.2.1.2.2.1 x.1.2.1.2.2.2.1 x.2.1.1 x.2.1.2.1.1 x.2.1.2.1.2.1 x.2.1.2.1.2.2.1 x.2.1.2.1.2.2.2.1,fun (x:(Bool×(Nat×Nat×Nat×(Nat→Int)×Unit)×Unit)×(Bool×(Nat×Nat×Nat×(Nat→Int)×Unit)×Unit)×Unit)=>(fun (n1:Bool) (ap np mp:Nat) (tp:Nat→Int) (n2:Bool) (aq nq mq:Nat) (tq:Nat→Int)=>(N22) (false,3,[])) x.1.1 x.1.2.1.1 x.1.2.1.2.1 x.1.2.1.2.2.1 x.1.2.1.2.2.2.1 x.2.1.1 x.2.1.2.1.1 x.2.1.2.1.2.1 x.2.1.2.1.2.2.1 x.2.1.2.1.2.2.2.1,fun _ _=> .dead⟩
theorem s22g (n1:Bool) (ap np mp:Nat) (tp:Nat→Int) (n2:Bool) (aq nq mq:Nat) (tq:Nat→Int) (hp:((ap+np≤mp∧np≤1000000)∧aq+nq≤mq∧nq≤1000000)∧S.fV n1 np (fun j=>tp (j+ap))=true∧S.fV n2 nq (fun j=>tq (j+aq))=true∧S.fk n1 np (fun j=>tp (j+ap)) n2 nq (fun j=>tq (j+aq))=false):zY ((q22 n1 ap np mp tp n2 aq nq mq tq)) ((p22 n1 ap np mp tp n2 aq nq mq tq)) ((false,3,[])):=by
 obtain ⟨hp0,g1,g2,g3⟩:=hp
 have hm:=s22 n1 ap np mp tp n2 aq nq mq tq hp0
 rw [gx g1 g2 g3] at hm
 exact hm
theorem k22g_ok:k22g.ok Tryz.prog:=by
 intro x hx
 obtain ⟨⟨n1,⟨ap,np,mp,tp,_⟩,_⟩,⟨n2,⟨aq,nq,mq,tq,_⟩,_⟩,_⟩:=x
 obtain ⟨h1,h2⟩:=a22 n1 ap np mp tp n2 aq nq mq tq (s22g n1 ap np mp tp n2 aq nq mq tq (zm hx rfl))
 exact ⟨⟨400,(by decide:2+1+1≤400),h1⟩,h2⟩
noncomputable def e22i:SsJ k22f.ss→Bool:=fun (x:(Bool×(Nat×Nat×Nat×(Nat→Int)×Unit)×Unit)×(Bool×(Nat×Nat×Nat×(Nat→Int)×Unit)×Unit)×Unit)=>(fun (n1:Bool) (ap np mp:Nat) (tp:Nat→Int) (n2:Bool) (aq nq mq:Nat) (tq:Nat→Int)=>S.fk n1 np (fun j=>tp (j+ap)) n2 nq (fun j=>tq (j+aq))) x.1.1 x.1.2.1.1 x.1.2.1.2.1 x.1.2.1.2.2.1 x.1.2.1.2.2.2.1 x.2.1.1 x.2.1.2.1.1 x.2.1.2.1.2.1 x.2.1.2.1.2.2.1 x.2.1.2.1.2.2.2.1
noncomputable def k23f:Con:=⟨42,[.agg [.plain (.bool),.list [.int .i64]],.agg [.plain (.bool),.list [.int .i64]]],fun (x:(Bool×(Nat×Nat×Nat×(Nat→Int)×Unit)×Unit)×(Bool×(Nat×Nat×Nat×(Nat→Int)×Unit)×Unit)×Unit)=>(fun (n1:Bool) (ap np mp:Nat) (tp:Nat→Int) (n2:Bool) (aq nq mq:Nat) (tq:Nat→Int)=>decide (((ap+np≤mp∧np≤1000000)∧aq+nq≤mq∧nq≤1000000)∧S.fV n1 np (fun j=>tp (j+ap))=true∧S.fV n2 nq (fun j=>tq (j+aq))=true∧S.fk n1 np (fun j=>tp (j+ap)) n2 nq (fun j=>tq (j+aq))=true)) x.1.1 x.1.2.1.1 x.1.2.1.2.1 x.1.2.1.2.2.1 x.1.2.1.2.2.2.1 x.2.1.1 x.2.1.2.1.1 x.2.1.2.1.2.1 x.2.1.2.1.2.2.1 x.2.1.2.1.2.2.2.1,fun (x:(Bool×(Nat×Nat×Nat×(Nat→Int)×Unit)×Unit)×(Bool×(Nat×Nat×Nat×(Nat→Int)×Unit)×Unit)×Unit)=>(fun (n1:Bool) (ap np mp:Nat) (tp:Nat→Int) (n2:Bool) (aq nq mq:Nat) (tq:Nat→Int)=>(V23) (S.ngA n1 np (fun j=>tp (j+ap)) n2 nq (fun j=>tq (j+aq)),0,S.grA n1 np (fun j=>tp (j+ap)) n2 nq (fun j=>tq (j+aq)))) x.1.1 x.1.2.1.1 x.1.2.1.2.1 x.1.2.1.2.2.1 x.1.2.1.2.2.2.1 x.2.1.1 x.2.1.2.1.1 x.2.1.2.1.2.1 x.2.1.2.1.2.2.1 x.2.1.2.1.2.2.2.1,fun (x:(Bool×(Nat×Nat×Nat×(Nat→Int)×Unit)×Unit)×(Bool×(Nat×Nat×Nat×(Nat→Int)×Unit)×Unit)×Unit)=>(fun (n1:Bool) (ap np mp:Nat) (tp:Nat→Int) (n2:Bool) (aq nq mq:Nat) (tq:Nat→Int)=>(N23) (S.ngA n1 np (fun j=>tp (j+ap)) n2 nq (fun j=>tq (j+aq)),0,S.grA n1 np (fun j=>tp (j+ap)) n2 nq (fun j=>tq (j+aq)))) x.1.1 x.1.2.1.1 x.1.2.1.2.1 x.1.2.1.2.2.1 x.1.2.1.2.2.2.1 x.2.1.1 x.2.1.2.1.1 x.2.1.2.1.2.1 x.2.1.2.1.2.2.1 x.2.1.2.1.2.2.2.1,fun _ _=> .dead⟩
theorem s23f (n1:Bool) (ap np mp:Nat) (tp:Nat→Int) (n2:Bool) (aq nq mq:Nat) (tq:Nat→Int) (hp:((ap+np≤mp∧np≤1000000)∧aq+nq≤mq∧nq≤1000000)∧S.fV n1 np (fun j=>tp (j+ap))=true∧S.fV n2 nq (fun j=>tq (j+aq))=true∧S.fk n1 np (fun j=>tp (j+ap)) n2 nq (fun j=>tq (j+aq))=true):zY ((q23 n1 ap np mp tp n2 aq nq mq tq)) ((p23 n1 ap np mp tp n2 aq nq mq tq)) ((S.ngA n1 np (fun j=>tp (j+ap)) n2 nq (fun j=>tq (j+aq)),0,S.grA n1 np (fun j=>tp (j+ap)) n2 nq (fun j=>tq (j+aq)))):=s22f n1 ap np mp tp n2 aq nq mq tq hp
theorem k23f_ok:k23f.ok Tryz.prog:=by
 intro x hx
 obtain ⟨⟨n1,⟨ap,np,mp,tp,_⟩,_⟩,⟨n2,⟨aq,nq,mq,tq,_⟩,_⟩,_⟩:=x
 obtain ⟨h1,h2⟩:=a23 n1 ap np mp tp n2 aq nq mq tq (s23f n1 ap np mp tp n2 aq nq mq tq (zm hx rfl))
 exact ⟨⟨400,(by decide:2+1+1≤400),h1⟩,h2⟩
noncomputable def k23g:Con:=⟨42,[.agg [.plain (.bool),.list [.int .i64]],.agg [.plain (.bool),.list [.int .i64]]],fun (x:(Bool×(Nat×Nat×Nat×(Nat→Int)×Unit)×Unit)×(Bool×(Nat×Nat×Nat×(Nat→Int)×Unit)×Unit)×Unit)=>(fun (n1:Bool) (ap np mp:Nat) (tp:Nat→Int) (n2:Bool) (aq nq mq:Nat) (tq:Nat→Int)=>decide (((ap+np≤mp∧np≤1000000)∧aq+nq≤mq∧nq≤1000000)∧S.fV n1 np (fun j=>tp (j+ap))=true∧S.fV n2 nq (fun j=>tq (j+aq))=true∧S.fk n1 np (fun j=>tp (j+ap)) n2 nq (fun j=>tq (j+aq))=false)) x.1.1 x.1.2.1.1 x.1.2.1.2.1 x.1.2.1.2.2.1 x.1.2.1.2.2.2.1 x.2.1.1 x.2.1.2.1.1 x.2.1.2.1.2.1 x.2.1.2.1.2.2.1 x.2.1.2.1.2.2.2.1,fun (x:(Bool×(Nat×Nat×Nat×(Nat→Int)×Unit)×Unit)×(Bool×(Nat×Nat×Nat×(Nat→Int)×Unit)×Unit)×Unit)=>(fun (n1:Bool) (ap np mp:Nat) (tp:Nat→Int) (n2:Bool) (aq nq mq:Nat) (tq:Nat→Int)=>(V23) (false,3,[])) x.1.1 x.1.2.1.1 x.1.2.1.2.1 x.1.2.1.2.2.1 x.1.2.1.2.2.2.1 x.2.1.1 x.2.1.2.1.1 x.2.1.2.1.2.1 x.2.1.2.1.2.2.1 x.2.1.2.1.2.2.2.1,fun (x:(Bool×(Nat×Nat×Nat×(Nat→Int)×Unit)×Unit)×(Bool×(Nat×Nat×Nat×(Nat→Int)×Unit)×Unit)×Unit)=>(fun (n1:Bool) (ap np mp:Nat) (tp:Nat→Int) (n2:Bool) (aq nq mq:Nat) (tq:Nat→Int)=>(N23) (false,3,[])) x.1.1 x.1.2.1.1 x.1.2.1.2.1 x.1.2.1.2.2.1 x.1.2.1.2.2.2.1 x.2.1.1 x.2.1.2.1.1 x.2.1.2.1.2.1 x.2.1.2.1.2.2.1 x.2.1.2.1.2.2.2.1,fun _ _=> .dead⟩
theorem s23g (n1:Bool) (ap np mp:Nat) (tp:Nat→Int) (n2:Bool) (aq nq mq:Nat) (tq:Nat→Int) (hp:((ap+np≤mp∧np≤1000000)∧aq+nq≤mq∧nq≤1000000)∧S.fV n1 np (fun j=>tp (j+ap))=true∧S.fV n2 nq (fun j=>tq (j+aq))=true∧S.fk n1 np (fun j=>tp (j+ap)) n2 nq (fun j=>tq (j+aq))=false):zY ((q23 n1 ap np mp tp n2 aq nq mq tq)) ((p23 n1 ap np mp tp n2 aq nq mq tq)) ((false,3,[])):=s22g n1 ap np mp tp n2 aq nq mq tq hp
theorem k23g_ok:k23g.ok Tryz.prog:=by
 intro x hx
 obtain ⟨⟨n1,⟨ap,np,mp,tp,_⟩,_⟩,⟨n2,⟨aq,nq,mq,tq,_⟩,_⟩,_⟩:=x
 obtain ⟨h1,h2⟩:=a23 n1 ap np mp tp n2 aq nq mq tq (s23g n1 ap np mp tp n2 aq nq mq tq (zm hx rfl))
 exact ⟨⟨400,(by decide:2+1+1≤400),h1⟩,h2⟩
noncomputable def e23i:SsJ k23f.ss→Bool:=fun (x:(Bool×(Nat×Nat×Nat×(Nat→Int)×Unit)×Unit)×(Bool×(Nat×Nat×Nat×(Nat→Int)×Unit)×Unit)×Unit)=>(fun (n1:Bool) (ap np mp:Nat) (tp:Nat→Int) (n2:Bool) (aq nq mq:Nat) (tq:Nat→Int)=>S.fk n1 np (fun j=>tp (j+ap)) n2 nq (fun j=>tq (j+aq))) x.1.1 x.1.2.1.1 x.1.2.1.2.1 x.1.2.1.2.2.1 x.1.2.1.2.2.2.1 x.2.1.1 x.2.1.2.1.1 x.2.1.2.1.2.1 x.2.1.2.1.2.2.1 x.2.1.2.1.2.2.2.1
noncomputable def xR8 (fR:Bool→Prop→Prop→Prop):Ext:=mZ (ifX fR k26f k26g e26i) (mZ (ifX fR k27f k27g e27i) (mZ (ifX fR k22f k22g e22i) (mZ (ifX fR k23f k23g e23i) (y2 fR [k522,k523,k553,k550,k51]))))
theorem tC:yT Tryz.prog (xR8 cond):=ur (qn k26f_ok k26g_ok) (ur (qn k27f_ok k27g_ok) (ur (qn k22f_ok k22g_ok) (ur (qn k23f_ok k23g_ok) (yH ⟨k522_ok,k523_ok,k553_ok,k550_ok,k51_ok,trivial⟩))))
section
variable {P:Program} {E:Env} (ok:xf P E) (hm:P.follows .mixedOrders=true) {X:Ext} (hX:yT P X)
include ok hm hX
theorem wP {lo hi:Nat} {R:Type} {q:Empty→Option (Empty⊕R)} {p:Option (Empty⊕R)} {r:R} (I:Empty→Hd) (V:R→PV) (H1:R→zS) {f:FuncId} {fn:FnI} {args:List PV} {H:zS} {n:Nat} (hf:xF E.fs f=some fn) (hl:lo≤hi) (hne:H≠ []) (hN:Names H lo)
    (entry: ∀ fS fT x,HS lo hi I fS x→HR lo hi V H1 fT x→p=some x→Holds (run cond E true X false n ⟨f,[.cd fn.body],z8 0 args,[]::H,lo⟩ (zr lo [] fS fT)))
    (h:zY q p r):zn P f args H lo (V r) (H1 r) hi∧ ∃ F,P.funcs[f]? =some F∧F.body.isSome=true∧(F.name== "runtime.NumGoroutine")=false:=by
  cases hp:p with
  |none=>rw [hp] at h; exact h.elim
  | some x=>
   rw [hp] at h
   cases x with
   |inl s=>exact s.elim
   |inr r'=>
    cases h
    exact se ok hm hX hf hl hne hN (entry (fun _ _ _ _=>False) _ (.inr _) (fun s=>s.elim) (fun r hr v' H' fr' h=>by cases hr; exact h) hp)
end
namespace S
noncomputable def eE (N1 D1 N2 D2:Int):Bool×Bool×Int×List Int×List Int:=if fl (N1*D2)=true∧fl (N2*D1)=true∧fl (N1*D2+N2*D1)=true∧fl (D1*D2)=true then fx (N1*D2+N2*D1) (D1*D2) else (false,false,3,[],[])
noncomputable def eF (N1 D1 N2 D2:Int):Bool×Bool×Int×List Int×List Int:=if fl (N1*N2)=true∧fl (D1*D2)=true then fx (N1*N2) (D1*D2) else (false,false,3,[],[])
noncomputable def eI (N1 D1 N2 D2:Int):Bool×Bool×Int×List Int×List Int:=if N2=0 then (false,false,13,[],[]) else eF N1 D1 D2 N2
noncomputable def opR (g:Int→Int→Int→Int→Bool×Bool×Int×List Int×List Int) (n1:Bool) (n:Nat) (t:Nat→Int) (n2:Bool) (m:Nat) (u:Nat→Int) (n3:Bool) (n':Nat) (t':Nat→Int) (n4:Bool) (m':Nat) (u':Nat→Int):Bool×Bool×Int×List Int×List Int:=if fY n1 n t n2 m u=true∧fY n3 n' t' n4 m' u'=true then g (sv n1 (val n t)) (sv n2 (val m u)) (sv n3 (val n' t')) (sv n4 (val m' u')) else (false,false,1,[],[])
noncomputable def eJ (n1:Bool) (n:Nat) (t:Nat→Int) (n2:Bool) (m:Nat) (u:Nat→Int) (n3:Bool) (n':Nat) (t':Nat→Int) (n4:Bool) (m':Nat) (u':Nat→Int):Bool×Bool×Int×List Int×List Int:=opR eE n1 n t n2 m u n3 n' t' n4 m' u'
noncomputable def eK (n1:Bool) (n:Nat) (t:Nat→Int) (n2:Bool) (m:Nat) (u:Nat→Int) (n3:Bool) (n':Nat) (t':Nat→Int) (n4:Bool) (m':Nat) (u':Nat→Int):Bool×Bool×Int×List Int×List Int:=opR (fun a c a' c'=>eE a c (-a') c') n1 n t n2 m u n3 n' t' n4 m' u'
noncomputable def eM (n1:Bool) (n:Nat) (t:Nat→Int) (n2:Bool) (m:Nat) (u:Nat→Int) (n3:Bool) (n':Nat) (t':Nat→Int) (n4:Bool) (m':Nat) (u':Nat→Int):Bool×Bool×Int×List Int×List Int:=opR eF n1 n t n2 m u n3 n' t' n4 m' u'
noncomputable def eN (n1:Bool) (n:Nat) (t:Nat→Int) (n2:Bool) (m:Nat) (u:Nat→Int) (n3:Bool) (n':Nat) (t':Nat→Int) (n4:Bool) (m':Nat) (u':Nat→Int):Bool×Bool×Int×List Int×List Int:=opR eI n1 n t n2 m u n3 n' t' n4 m' u'
end S
theorem p5 {v:Int} (h:S.fl v=true):(v.natAbs:Int)<S.pw 80:=by
 have h1:=of_decide_eq_true h
 have h2:=z5 (zi (yE (v:=(v.natAbs:Int)))) h1
 rw [show S.val _ (S.at' _)=(v.natAbs:Int) from zq (by omega)] at h2
 exact h2
theorem xP {v:Int} (h:S.fl v=true):S.fV (decide (v<0)) (S.f0 (v.natAbs:Int)).length (fun j=>S.at' (S.f0 (v.natAbs:Int)) j)=true∧S.sv (decide (v<0)) (S.val (S.f0 (v.natAbs:Int)).length fun j=>S.at' (S.f0 (v.natAbs:Int)) j)=v:=ic (p5 h)
theorem xI {ng:Bool} {n:Nat} {t:Nat→Int} (h:S.fV ng n t=true) (h1:ng=false) (hn:0<n):0<S.sv ng (S.val n t):=by
 subst h1
 exact yV (z9 h).2 hn
section
variable (fR:TT) (fS:KS) (fT:KR) (n1:Bool) (ap np mp:Nat) (tp:NI) (n2:Bool) (aq nq mq:Nat) (tq:NI) (n3:Bool) (au nu mu:Nat) (tu:NI) (n4:Bool) (aw nw mw:Nat) (tw:NI)
noncomputable abbrev c527_e_0:=S.fw (S.sv (S.ngA (S.ngM n1 np (fun j=>tp (j+ap)) n4 nw fun j=>tw (j+aw)) (S.grM n1 np (fun j=>tp (j+ap)) n4 nw fun j=>tw (j+aw)).length (fun j=>S.at' (S.grM n1 np (fun j=>tp (j+ap)) n4 nw fun j=>tw (j+aw)) j) (S.ngM n3 nu (fun j=>tu (j+au)) n2 nq fun j=>tq (j+aq)) (S.grM n3 nu (fun j=>tu (j+au)) n2 nq fun j=>tq (j+aq)).length fun j=>S.at' (S.grM n3 nu (fun j=>tu (j+au)) n2 nq fun j=>tq (j+aq)) j) (S.val (S.grA (S.ngM n1 np (fun j=>tp (j+ap)) n4 nw fun j=>tw (j+aw)) (S.grM n1 np (fun j=>tp (j+ap)) n4 nw fun j=>tw (j+aw)).length (fun j=>S.at' (S.grM n1 np (fun j=>tp (j+ap)) n4 nw fun j=>tw (j+aw)) j) (S.ngM n3 nu (fun j=>tu (j+au)) n2 nq fun j=>tq (j+aq)) (S.grM n3 nu (fun j=>tu (j+au)) n2 nq fun j=>tq (j+aq)).length fun j=>S.at' (S.grM n3 nu (fun j=>tu (j+au)) n2 nq fun j=>tq (j+aq)) j).length fun j=>S.at' (S.grA (S.ngM n1 np (fun j=>tp (j+ap)) n4 nw fun j=>tw (j+aw)) (S.grM n1 np (fun j=>tp (j+ap)) n4 nw fun j=>tw (j+aw)).length (fun j=>S.at' (S.grM n1 np (fun j=>tp (j+ap)) n4 nw fun j=>tw (j+aw)) j) (S.ngM n3 nu (fun j=>tu (j+au)) n2 nq fun j=>tq (j+aq)) (S.grM n3 nu (fun j=>tu (j+au)) n2 nq fun j=>tq (j+aq)).length fun j=>S.at' (S.grM n3 nu (fun j=>tu (j+au)) n2 nq fun j=>tq (j+aq)) j) j)) (S.sv (S.ngM n2 nq (fun j=>tq (j+aq)) n4 nw fun j=>tw (j+aw)) (S.val (S.grM n2 nq (fun j=>tq (j+aq)) n4 nw fun j=>tw (j+aw)).length fun j=>S.at' (S.grM n2 nq (fun j=>tq (j+aq)) n4 nw fun j=>tw (j+aw)) j))
noncomputable abbrev c527_e_1:=decide (((0+(S.grA (S.ngM n1 np (fun j=>tp (j+ap)) n4 nw fun j=>tw (j+aw)) (S.grM n1 np (fun j=>tp (j+ap)) n4 nw fun j=>tw (j+aw)).length (fun j=>S.at' (S.grM n1 np (fun j=>tp (j+ap)) n4 nw fun j=>tw (j+aw)) j) (S.ngM n3 nu (fun j=>tu (j+au)) n2 nq fun j=>tq (j+aq)) (S.grM n3 nu (fun j=>tu (j+au)) n2 nq fun j=>tq (j+aq)).length fun j=>S.at' (S.grM n3 nu (fun j=>tu (j+au)) n2 nq fun j=>tq (j+aq)) j).length≤(S.grA (S.ngM n1 np (fun j=>tp (j+ap)) n4 nw fun j=>tw (j+aw)) (S.grM n1 np (fun j=>tp (j+ap)) n4 nw fun j=>tw (j+aw)).length (fun j=>S.at' (S.grM n1 np (fun j=>tp (j+ap)) n4 nw fun j=>tw (j+aw)) j) (S.ngM n3 nu (fun j=>tu (j+au)) n2 nq fun j=>tq (j+aq)) (S.grM n3 nu (fun j=>tu (j+au)) n2 nq fun j=>tq (j+aq)).length fun j=>S.at' (S.grM n3 nu (fun j=>tu (j+au)) n2 nq fun j=>tq (j+aq)) j).length∧(S.grA (S.ngM n1 np (fun j=>tp (j+ap)) n4 nw fun j=>tw (j+aw)) (S.grM n1 np (fun j=>tp (j+ap)) n4 nw fun j=>tw (j+aw)).length (fun j=>S.at' (S.grM n1 np (fun j=>tp (j+ap)) n4 nw fun j=>tw (j+aw)) j) (S.ngM n3 nu (fun j=>tu (j+au)) n2 nq fun j=>tq (j+aq)) (S.grM n3 nu (fun j=>tu (j+au)) n2 nq fun j=>tq (j+aq)).length fun j=>S.at' (S.grM n3 nu (fun j=>tu (j+au)) n2 nq fun j=>tq (j+aq)) j).length≤1000000)∧0+(S.grM n2 nq (fun j=>tq (j+aq)) n4 nw fun j=>tw (j+aw)).length≤(S.grM n2 nq (fun j=>tq (j+aq)) n4 nw fun j=>tw (j+aw)).length∧(S.grM n2 nq (fun j=>tq (j+aq)) n4 nw fun j=>tw (j+aw)).length≤1000000)∧(S.fV (S.ngA (S.ngM n1 np (fun j=>tp (j+ap)) n4 nw fun j=>tw (j+aw)) (S.grM n1 np (fun j=>tp (j+ap)) n4 nw fun j=>tw (j+aw)).length (fun j=>S.at' (S.grM n1 np (fun j=>tp (j+ap)) n4 nw fun j=>tw (j+aw)) j) (S.ngM n3 nu (fun j=>tu (j+au)) n2 nq fun j=>tq (j+aq)) (S.grM n3 nu (fun j=>tu (j+au)) n2 nq fun j=>tq (j+aq)).length fun j=>S.at' (S.grM n3 nu (fun j=>tu (j+au)) n2 nq fun j=>tq (j+aq)) j) (S.grA (S.ngM n1 np (fun j=>tp (j+ap)) n4 nw fun j=>tw (j+aw)) (S.grM n1 np (fun j=>tp (j+ap)) n4 nw fun j=>tw (j+aw)).length (fun j=>S.at' (S.grM n1 np (fun j=>tp (j+ap)) n4 nw fun j=>tw (j+aw)) j) (S.ngM n3 nu (fun j=>tu (j+au)) n2 nq fun j=>tq (j+aq)) (S.grM n3 nu (fun j=>tu (j+au)) n2 nq fun j=>tq (j+aq)).length fun j=>S.at' (S.grM n3 nu (fun j=>tu (j+au)) n2 nq fun j=>tq (j+aq)) j).length fun j=>S.at' (S.grA (S.ngM n1 np (fun j=>tp (j+ap)) n4 nw fun j=>tw (j+aw)) (S.grM n1 np (fun j=>tp (j+ap)) n4 nw fun j=>tw (j+aw)).length (fun j=>S.at' (S.grM n1 np (fun j=>tp (j+ap)) n4 nw fun j=>tw (j+aw)) j) (S.ngM n3 nu (fun j=>tu (j+au)) n2 nq fun j=>tq (j+aq)) (S.grM n3 nu (fun j=>tu (j+au)) n2 nq fun j=>tq (j+aq)).length fun j=>S.at' (S.grM n3 nu (fun j=>tu (j+au)) n2 nq fun j=>tq (j+aq)) j) j)=true∧(S.fV (S.ngM n2 nq (fun j=>tq (j+aq)) n4 nw fun j=>tw (j+aw)) (S.grM n2 nq (fun j=>tq (j+aq)) n4 nw fun j=>tw (j+aw)).length fun j=>S.at' (S.grM n2 nq (fun j=>tq (j+aq)) n4 nw fun j=>tw (j+aw)) j)=true∧0<(S.grM n2 nq (fun j=>tq (j+aq)) n4 nw fun j=>tw (j+aw)).length)
noncomputable abbrev c527_e_2:=decide (((0+(S.grM n1 np (fun j=>tp (j+ap)) n4 nw fun j=>tw (j+aw)).length≤(S.grM n1 np (fun j=>tp (j+ap)) n4 nw fun j=>tw (j+aw)).length∧(S.grM n1 np (fun j=>tp (j+ap)) n4 nw fun j=>tw (j+aw)).length≤1000000)∧0+(S.grM n3 nu (fun j=>tu (j+au)) n2 nq fun j=>tq (j+aq)).length≤(S.grM n3 nu (fun j=>tu (j+au)) n2 nq fun j=>tq (j+aq)).length∧(S.grM n3 nu (fun j=>tu (j+au)) n2 nq fun j=>tq (j+aq)).length≤1000000)∧(S.fV (S.ngM n1 np (fun j=>tp (j+ap)) n4 nw fun j=>tw (j+aw)) (S.grM n1 np (fun j=>tp (j+ap)) n4 nw fun j=>tw (j+aw)).length fun j=>S.at' (S.grM n1 np (fun j=>tp (j+ap)) n4 nw fun j=>tw (j+aw)) j)=true∧(S.fV (S.ngM n3 nu (fun j=>tu (j+au)) n2 nq fun j=>tq (j+aq)) (S.grM n3 nu (fun j=>tu (j+au)) n2 nq fun j=>tq (j+aq)).length fun j=>S.at' (S.grM n3 nu (fun j=>tu (j+au)) n2 nq fun j=>tq (j+aq)) j)=true∧(S.fk (S.ngM n1 np (fun j=>tp (j+ap)) n4 nw fun j=>tw (j+aw)) (S.grM n1 np (fun j=>tp (j+ap)) n4 nw fun j=>tw (j+aw)).length (fun j=>S.at' (S.grM n1 np (fun j=>tp (j+ap)) n4 nw fun j=>tw (j+aw)) j) (S.ngM n3 nu (fun j=>tu (j+au)) n2 nq fun j=>tq (j+aq)) (S.grM n3 nu (fun j=>tu (j+au)) n2 nq fun j=>tq (j+aq)).length fun j=>S.at' (S.grM n3 nu (fun j=>tu (j+au)) n2 nq fun j=>tq (j+aq)) j)=false)
noncomputable abbrev c527_e_3:=decide (((0+(S.grM n1 np (fun j=>tp (j+ap)) n4 nw fun j=>tw (j+aw)).length≤(S.grM n1 np (fun j=>tp (j+ap)) n4 nw fun j=>tw (j+aw)).length∧(S.grM n1 np (fun j=>tp (j+ap)) n4 nw fun j=>tw (j+aw)).length≤1000000)∧0+(S.grM n3 nu (fun j=>tu (j+au)) n2 nq fun j=>tq (j+aq)).length≤(S.grM n3 nu (fun j=>tu (j+au)) n2 nq fun j=>tq (j+aq)).length∧(S.grM n3 nu (fun j=>tu (j+au)) n2 nq fun j=>tq (j+aq)).length≤1000000)∧(S.fV (S.ngM n1 np (fun j=>tp (j+ap)) n4 nw fun j=>tw (j+aw)) (S.grM n1 np (fun j=>tp (j+ap)) n4 nw fun j=>tw (j+aw)).length fun j=>S.at' (S.grM n1 np (fun j=>tp (j+ap)) n4 nw fun j=>tw (j+aw)) j)=true∧(S.fV (S.ngM n3 nu (fun j=>tu (j+au)) n2 nq fun j=>tq (j+aq)) (S.grM n3 nu (fun j=>tu (j+au)) n2 nq fun j=>tq (j+aq)).length fun j=>S.at' (S.grM n3 nu (fun j=>tu (j+au)) n2 nq fun j=>tq (j+aq)) j)=true∧(S.fk (S.ngM n1 np (fun j=>tp (j+ap)) n4 nw fun j=>tw (j+aw)) (S.grM n1 np (fun j=>tp (j+ap)) n4 nw fun j=>tw (j+aw)).length (fun j=>S.at' (S.grM n1 np (fun j=>tp (j+ap)) n4 nw fun j=>tw (j+aw)) j) (S.ngM n3 nu (fun j=>tu (j+au)) n2 nq fun j=>tq (j+aq)) (S.grM n3 nu (fun j=>tu (j+au)) n2 nq fun j=>tq (j+aq)).length fun j=>S.at' (S.grM n3 nu (fun j=>tu (j+au)) n2 nq fun j=>tq (j+aq)) j)=true)
noncomputable abbrev c527_e_4:=S.fk (S.ngM n1 np (fun j=>tp (j+ap)) n4 nw fun j=>tw (j+aw)) (S.grM n1 np (fun j=>tp (j+ap)) n4 nw fun j=>tw (j+aw)).length (fun j=>S.at' (S.grM n1 np (fun j=>tp (j+ap)) n4 nw fun j=>tw (j+aw)) j) (S.ngM n3 nu (fun j=>tu (j+au)) n2 nq fun j=>tq (j+aq)) (S.grM n3 nu (fun j=>tu (j+au)) n2 nq fun j=>tq (j+aq)).length fun j=>S.at' (S.grM n3 nu (fun j=>tu (j+au)) n2 nq fun j=>tq (j+aq)) j
noncomputable abbrev c527_e_5:= [[(3,false,Blk.cols mw [Col.int .i64 tw]),(2,false,Blk.cols mu [Col.int .i64 tu]),(1,false,Blk.cols mq [Col.int .i64 tq]),(0,false,Blk.cols mp [Col.int .i64 tp])]]
noncomputable abbrev c527_e_6:=PV.tup [PV.agg [PV.tf false,PV.nils,PV.tf false,PV.nils],PV.int .i64 (3:Int)]
abbrev St527:=Empty
abbrev Rt527:=Bool×Bool×Int×List Int×List Int
noncomputable def V527 (r:Rt527):PV:= .tup [.agg [.bool r.1,.own 5 1 r.2.2.2.1.length,.bool r.2.1,.own 6 1 r.2.2.2.2.length],.int .i64 r.2.2.1]
noncomputable def N527 (r:Rt527):List Blk:= [CI r.2.2.2.1,CI r.2.2.2.2]
noncomputable def I527:St527→Hd:=fun s=>s.elim
noncomputable def q527 (n1:Bool) (ap np mp:Nat) (tp:NI) (n2:Bool) (aq nq mq:Nat) (tq:NI) (n3:Bool) (au nu mu:Nat) (tu:NI) (n4:Bool) (aw nw mw:Nat) (tw:NI):St527→Option (St527⊕Rt527):=fun s=>s.elim
noncomputable def p527 (n1:Bool) (ap np mp:Nat) (tp:NI) (n2:Bool) (aq nq mq:Nat) (tq:NI) (n3:Bool) (au nu mu:Nat) (tu:NI) (n4:Bool) (aw nw mw:Nat) (tw:NI):Option (St527⊕Rt527):=bif (decide ((ap+np≤mp∧np≤1000000)∧aq+nq≤mq∧nq≤1000000)) then (bif (S.fY n1 np (fun j=>tp (j+ap)) n2 nq fun j=>tq (j+aq)) then (bif (decide ((au+nu≤mu∧nu≤1000000)∧aw+nw≤mw∧nw≤1000000)) then (bif (S.fY n3 nu (fun j=>tu (j+au)) n4 nw fun j=>tw (j+aw)) then (bif (S.fj n1 np (fun j=>tp (j+ap)) n4 nw fun j=>tw (j+aw)) then (bif (decide (((ap+np≤mp∧np≤1000000)∧aw+nw≤mw∧nw≤1000000)∧(S.fV n1 np fun j=>tp (j+ap))=true∧(S.fV n4 nw fun j=>tw (j+aw))=true∧(S.fj n1 np (fun j=>tp (j+ap)) n4 nw fun j=>tw (j+aw))=true)) then (bif (S.fj n3 nu (fun j=>tu (j+au)) n2 nq fun j=>tq (j+aq)) then (bif (decide (((au+nu≤mu∧nu≤1000000)∧aq+nq≤mq∧nq≤1000000)∧(S.fV n3 nu fun j=>tu (j+au))=true∧(S.fV n2 nq fun j=>tq (j+aq))=true∧(S.fj n3 nu (fun j=>tu (j+au)) n2 nq fun j=>tq (j+aq))=true)) then (bif (c527_e_4 n1 ap np tp n2 aq nq tq n3 au nu tu n4 aw nw tw) then (bif (c527_e_3 n1 ap np tp n2 aq nq tq n3 au nu tu n4 aw nw tw) then (bif (S.fj n2 nq (fun j=>tq (j+aq)) n4 nw fun j=>tw (j+aw)) then (bif (decide (((aq+nq≤mq∧nq≤1000000)∧aw+nw≤mw∧nw≤1000000)∧(S.fV n2 nq fun j=>tq (j+aq))=true∧(S.fV n4 nw fun j=>tw (j+aw))=true∧(S.fj n2 nq (fun j=>tq (j+aq)) n4 nw fun j=>tw (j+aw))=true)) then (bif (c527_e_1 n1 ap np tp n2 aq nq tq n3 au nu tu n4 aw nw tw) then (some (.inr ((c527_e_0 n1 ap np tp n2 aq nq tq n3 au nu tu n4 aw nw tw).1,(c527_e_0 n1 ap np tp n2 aq nq tq n3 au nu tu n4 aw nw tw).2.1,(0:Int),(c527_e_0 n1 ap np tp n2 aq nq tq n3 au nu tu n4 aw nw tw).2.2.1,(c527_e_0 n1 ap np tp n2 aq nq tq n3 au nu tu n4 aw nw tw).2.2.2))) else none) else none) else (bif (decide (((aq+nq≤mq∧nq≤1000000)∧aw+nw≤mw∧nw≤1000000)∧(S.fV n2 nq fun j=>tq (j+aq))=true∧(S.fV n4 nw fun j=>tw (j+aw))=true∧(S.fj n2 nq (fun j=>tq (j+aq)) n4 nw fun j=>tw (j+aw))=false)) then (some (.inr (false,false,(3:Int),[],[]))) else none)) else none) else (bif (c527_e_2 n1 ap np tp n2 aq nq tq n3 au nu tu n4 aw nw tw) then (some (.inr (false,false,(3:Int),[],[]))) else none)) else none) else (bif (decide (((au+nu≤mu∧nu≤1000000)∧aq+nq≤mq∧nq≤1000000)∧(S.fV n3 nu fun j=>tu (j+au))=true∧(S.fV n2 nq fun j=>tq (j+aq))=true∧(S.fj n3 nu (fun j=>tu (j+au)) n2 nq fun j=>tq (j+aq))=false)) then (some (.inr (false,false,(3:Int),[],[]))) else none)) else none) else (bif (decide (((ap+np≤mp∧np≤1000000)∧aw+nw≤mw∧nw≤1000000)∧(S.fV n1 np fun j=>tp (j+ap))=true∧(S.fV n4 nw fun j=>tw (j+aw))=true∧(S.fj n1 np (fun j=>tp (j+ap)) n4 nw fun j=>tw (j+aw))=false)) then (some (.inr (false,false,(3:Int),[],[]))) else none)) else (some (.inr (false,false,(1:Int),[],[])))) else none) else (some (.inr (false,false,(1:Int),[],[])))) else none
def Te527:Prop:=fR (decide ((ap+np≤mp∧np≤1000000)∧aq+nq≤mq∧nq≤1000000)) (fR (S.fY n1 np (FS tp ap) n2 nq (FS tq aq)) (fR (decide ((au+nu≤mu∧nu≤1000000)∧aw+nw≤mw∧nw≤1000000)) (fR (S.fY n3 nu (FS tu au) n4 nw (FS tw aw)) (fR (S.fj n1 np (FS tp ap) n4 nw (FS tw aw)) (fR (decide (((ap+np≤mp∧np≤1000000)∧aw+nw≤mw∧nw≤1000000)∧(S.fV n1 np (FS tp ap))=true∧(S.fV n4 nw (FS tw aw))=true∧(S.fj n1 np (FS tp ap) n4 nw (FS tw aw))=true)) (fR (S.fj n3 nu (FS tu au) n2 nq (FS tq aq)) (fR (decide (((au+nu≤mu∧nu≤1000000)∧aq+nq≤mq∧nq≤1000000)∧(S.fV n3 nu (FS tu au))=true∧(S.fV n2 nq (FS tq aq))=true∧(S.fj n3 nu (FS tu au) n2 nq (FS tq aq))=true)) (fR (c527_e_4 n1 ap np tp n2 aq nq tq n3 au nu tu n4 aw nw tw) (fR (c527_e_3 n1 ap np tp n2 aq nq tq n3 au nu tu n4 aw nw tw) (fR (S.fj n2 nq (FS tq aq) n4 nw (FS tw aw)) (fR (decide (((aq+nq≤mq∧nq≤1000000)∧aw+nw≤mw∧nw≤1000000)∧(S.fV n2 nq (FS tq aq))=true∧(S.fV n4 nw (FS tw aw))=true∧(S.fj n2 nq (FS tq aq) n4 nw (FS tw aw))=true)) (fR (c527_e_1 n1 ap np tp n2 aq nq tq n3 au nu tu n4 aw nw tw) (fT (.tup [.agg [.bool (c527_e_0 n1 ap np tp n2 aq nq tq n3 au nu tu n4 aw nw tw).1,.own 22 1 (c527_e_0 n1 ap np tp n2 aq nq tq n3 au nu tu n4 aw nw tw).2.2.1.length,.bool (c527_e_0 n1 ap np tp n2 aq nq tq n3 au nu tu n4 aw nw tw).2.1,.own 23 1 (c527_e_0 n1 ap np tp n2 aq nq tq n3 au nu tu n4 aw nw tw).2.2.2.length],.int .i64 0]) ([[(3,false,CB mw tw),(2,false,CB mu tu),(1,false,CB mq tq),(0,false,CB mp tp),(23,true,CI (c527_e_0 n1 ap np tp n2 aq nq tq n3 au nu tu n4 aw nw tw).2.2.2),(22,true,CI (c527_e_0 n1 ap np tp n2 aq nq tq n3 au nu tu n4 aw nw tw).2.2.1)]]) 24) False) False) (fR (decide (((aq+nq≤mq∧nq≤1000000)∧aw+nw≤mw∧nw≤1000000)∧(S.fV n2 nq (FS tq aq))=true∧(S.fV n4 nw (FS tw aw))=true∧(S.fj n2 nq (FS tq aq) n4 nw (FS tw aw))=false)) (fT c527_e_6 (c527_e_5 mp tp mq tq mu tu mw tw) 21) False)) False) (fR (c527_e_2 n1 ap np tp n2 aq nq tq n3 au nu tu n4 aw nw tw) (fT c527_e_6 (c527_e_5 mp tp mq tq mu tu mw tw) 18) False)) False) (fR (decide (((au+nu≤mu∧nu≤1000000)∧aq+nq≤mq∧nq≤1000000)∧(S.fV n3 nu (FS tu au))=true∧(S.fV n2 nq (FS tq aq))=true∧(S.fj n3 nu (FS tu au) n2 nq (FS tq aq))=false)) (fT c527_e_6 (c527_e_5 mp tp mq tq mu tu mw tw) 15) False)) False) (fR (decide (((ap+np≤mp∧np≤1000000)∧aw+nw≤mw∧nw≤1000000)∧(S.fV n1 np (FS tp ap))=true∧(S.fV n4 nw (FS tw aw))=true∧(S.fj n1 np (FS tp ap) n4 nw (FS tw aw))=false)) (fT c527_e_6 (c527_e_5 mp tp mq tq mu tu mw tw) 12) False)) (fT (.tup [.agg [.tf false,.nils,.tf false,.nils],.int .i64 1]) (c527_e_5 mp tp mq tq mu tu mw tw) 9)) False) (fT (.tup [.agg [.tf false,.nils,.tf false,.nils],.int .i64 1]) (c527_e_5 mp tp mq tq mu tu mw tw) 8)) False
theorem te527:run cond Tryz.env true (xR8 cond) false 400 ⟨27,[.cd (zU Tryz.f27).body],z8 0 [.agg [.bool n1,.loose ⟨0,1,ap,0⟩ np,.bool n2,.loose ⟨1,1,aq,0⟩ nq],.agg [.bool n3,.loose ⟨2,1,au,0⟩ nu,.bool n4,.loose ⟨3,1,aw,0⟩ nw]],[[],[(0,(false,CB mp tp)),(1,(false,CB mq tq)),(2,(false,CB mu tu)),(3,(false,CB mw tw))]],4⟩ (zr 4 [] fS fT)=
 Te527 cond fT n1 ap np mp tp n2 aq nq mq tq n3 au nu mu tu n4 aw nw mw tw:=by kernel_rfl
noncomputable abbrev J527:Rt527→zS:=fun r=> [yC (4+1) ((N527) r)++ [(0,(false,CB mp tp)),(1,(false,CB mq tq)),(2,(false,CB mu tu)),(3,(false,CB mw tw))]]
attribute [local irreducible] Int.subNatNat in
theorem a527 {r:Rt527} (h:zY ((q527 n1 ap np mp tp n2 aq nq mq tq n3 au nu mu tu n4 aw nw mw tw)) ((p527 n1 ap np mp tp n2 aq nq mq tq n3 au nu mu tu n4 aw nw mw tw)) r):zn Tryz.prog 27 [.agg [.bool n1,.loose ⟨0,1,ap,0⟩ np,.bool n2,.loose ⟨1,1,aq,0⟩ nq],.agg [.bool n3,.loose ⟨2,1,au,0⟩ nu,.bool n4,.loose ⟨3,1,aw,0⟩ nw]] [[(0,(false,CB mp tp)),(1,(false,CB mq tq)),(2,(false,CB mu tu)),(3,(false,CB mw tw))]] 4 ((V527) r) ((J527 mp tp mq tq mu tu mw tw) r) 400∧HB Tryz.prog 27:=by
 refine wP Tryz.envOk Tryz.mixed tC ((I527)) ((V527)) (J527 mp tp mq tq mu tu mw tw) (fn:=zU Tryz.f27) (n:=400) rfl (by decide) (by simp) (zW rfl) ?_ h
 · intro fS fT x hS hR h
   refine Holds.eq (te527 fS fT n1 ap np mp tp n2 aq nq mq tq n3 au nu mu tu n4 aw nw mw tw) ?_
   unfold Te527
   unfold p527 at h
   refine zA h (fun c0 h=>zA h (fun c1 h=>zA h (fun c2 h=>zA h (fun c3 h=>zA h (fun c4 h=>zA h (fun c5 h=>zA h (fun c6 h=>zA h (fun c7 h=>zA h (fun c8 h=>zA h (fun c9 h=>zA h (fun c10 h=>zA h (fun c11 h=>zA h (fun c12 h=>zV hR _ h (fun n=>bif Nat.beq n 5 then 22 else bif Nat.beq n 6 then 23 else n) rfl rfl rfl (zk ⟨(zc ⟨(zj rfl),(zX (zD rfl) rfl rfl),(zj rfl),(zX (zD rfl) rfl rfl),trivial⟩),(zI rfl),trivial⟩) rfl (zL (zD rfl) rfl (Nat.le_of_eq rfl) (zN (fun _ _=>rfl) zM) (zL (zD rfl) rfl (Nat.le_of_eq rfl) (zN (fun _ _=>rfl) zM) (zB (zC rfl) rfl rfl (zB (zC rfl) rfl rfl (zB (zC rfl) rfl rfl (zB (zC rfl) rfl rfl zE))))))) (fun c12 h=> ?_)) (fun c11 h=> ?_)) (fun c10 h=>zA h (fun c11 h=> ?_) (fun c11 h=> ?_))) (fun c9 h=> ?_)) (fun c8 h=>zA h (fun c9 h=> ?_) (fun c9 h=> ?_))) (fun c7 h=> ?_)) (fun c6 h=>zA h (fun c7 h=> ?_) (fun c7 h=> ?_))) (fun c5 h=> ?_)) (fun c4 h=>zA h (fun c5 h=> ?_) (fun c5 h=> ?_))) (fun c3 h=> ?_)) (fun c2 h=> ?_)) (fun c1 h=> ?_)) (fun c0 h=> ?_)
   all_goals first
     |exact zF h
     |exact zV hR _ h (fun n=>bif Nat.beq n 5 then 399 else bif Nat.beq n 6 then 398 else n) rfl rfl rfl (zk ⟨(zc ⟨(zR rfl),(zO rfl),(zR rfl),(zO rfl),trivial⟩),(zI rfl),trivial⟩) rfl (zT (zD rfl) (za rfl) (zT (zD rfl) (za rfl) (zB (zC rfl) rfl rfl (zB (zC rfl) rfl rfl (zB (zC rfl) rfl rfl (zB (zC rfl) rfl rfl zE))))))
end
noncomputable def k527:Con:=⟨27,[.agg [.plain (.bool),.list [.int .i64],.plain (.bool),.list [.int .i64]],.agg [.plain (.bool),.list [.int .i64],.plain (.bool),.list [.int .i64]]],w518 (fun n1 ap np mp tp n2 aq nq mq tq n3 au nu mu tu n4 aw nw mw tw=>decide (((ap+np≤mp∧np≤1000000)∧aq+nq≤mq∧nq≤1000000)∧(au+nu≤mu∧nu≤1000000)∧aw+nw≤mw∧nw≤1000000)),w518 (fun n1 ap np mp tp n2 aq nq mq tq n3 au nu mu tu n4 aw nw mw tw=>(V527) (S.eJ n1 np (FS tp ap) n2 nq (FS tq aq) n3 nu (FS tu au) n4 nw (FS tw aw))),w518 (fun n1 ap np mp tp n2 aq nq mq tq n3 au nu mu tu n4 aw nw mw tw=>(N527) (S.eJ n1 np (FS tp ap) n2 nq (FS tq aq) n3 nu (FS tu au) n4 nw (FS tw aw))),fun _ _=> .dead⟩
theorem s527 (n1:Bool) (ap np mp:Nat) (tp:Nat→Int) (n2:Bool) (aq nq mq:Nat) (tq:Nat→Int) (n3:Bool) (au nu mu:Nat) (tu:Nat→Int) (n4:Bool) (aw nw mw:Nat) (tw:Nat→Int) (hp:((ap+np≤mp∧np≤1000000)∧aq+nq≤mq∧nq≤1000000)∧(au+nu≤mu∧nu≤1000000)∧aw+nw≤mw∧nw≤1000000):zY ((q527 n1 ap np mp tp n2 aq nq mq tq n3 au nu mu tu n4 aw nw mw tw)) ((p527 n1 ap np mp tp n2 aq nq mq tq n3 au nu mu tu n4 aw nw mw tw)) (((S.eJ n1 np (fun j=>tp (j+ap)) n2 nq (fun j=>tq (j+aq)) n3 nu (fun j=>tu (j+au)) n4 nw (fun j=>tw (j+aw))).1,(S.eJ n1 np (fun j=>tp (j+ap)) n2 nq (fun j=>tq (j+aq)) n3 nu (fun j=>tu (j+au)) n4 nw (fun j=>tw (j+aw))).2.1,(S.eJ n1 np (fun j=>tp (j+ap)) n2 nq (fun j=>tq (j+aq)) n3 nu (fun j=>tu (j+au)) n4 nw (fun j=>tw (j+aw))).2.2.1,(S.eJ n1 np (fun j=>tp (j+ap)) n2 nq (fun j=>tq (j+aq)) n3 nu (fun j=>tu (j+au)) n4 nw (fun j=>tw (j+aw))).2.2.2.1,(S.eJ n1 np (fun j=>tp (j+ap)) n2 nq (fun j=>tq (j+aq)) n3 nu (fun j=>tu (j+au)) n4 nw (fun j=>tw (j+aw))).2.2.2.2)):=by
 obtain ⟨⟨⟨hp1,hp2⟩,hp3,hp4⟩,⟨hp5,hp6⟩,hp7,hp8⟩:=hp
 unfold S.eJ S.opR p527
 with_reducible refine zH (decide_eq_true ⟨⟨hp1,hp2⟩,hp3,hp4⟩) ?_
 by_cases g1:S.fY n1 np (fun j=>tp (j+ap)) n2 nq (fun j=>tq (j+aq))=true
 rotate_left
 · rw [if_neg fun h=>g1 h.1]
   with_reducible refine zb (Bool.not_eq_true _ ▸ g1) ?_
   exact zG.mpr rfl
 with_reducible refine zH g1 ?_
 with_reducible refine zH (decide_eq_true ⟨⟨hp5,hp6⟩,hp7,hp8⟩) ?_
 by_cases g2:S.fY n3 nu (fun j=>tu (j+au)) n4 nw (fun j=>tw (j+aw))=true
 rotate_left
 · rw [if_neg fun h=>g2 h.2]
   with_reducible refine zb (Bool.not_eq_true _ ▸ g2) ?_
   exact zG.mpr rfl
 with_reducible refine zH g2 ?_
 rw [if_pos ⟨g1,g2⟩]
 obtain ⟨a1,a2,a3,a4,-⟩:=yf.mp g1
 obtain ⟨b1,b2,b3,b4,-⟩:=yf.mp g2
 have p1:=xI a2 a3 a4
 have p2:=xI b2 b3 b4
 have p3:=Int.mul_pos p1 p2
 unfold S.eE
 obtain ⟨V1,hV1⟩: ∃ V,S.sv n1 (S.val np (fun j=>tp (j+ap)))*S.sv n4 (S.val nw (fun j=>tw (j+aw)))=V:=⟨_,rfl⟩
 obtain ⟨V2,hV2⟩: ∃ V,S.sv n3 (S.val nu (fun j=>tu (j+au)))*S.sv n2 (S.val nq (fun j=>tq (j+aq)))=V:=⟨_,rfl⟩
 obtain ⟨V3,hV3⟩: ∃ V,S.sv n2 (S.val nq (fun j=>tq (j+aq)))*S.sv n4 (S.val nw (fun j=>tw (j+aw)))=V:=⟨_,rfl⟩
 rw [hV3] at p3
 simp only [-eq_self,c527_e_0,c527_e_1,c527_e_2,c527_e_3,c527_e_4,c527_e_5,c527_e_6,S.fj,S.ngM,S.grM,S.fk,S.ngA,S.grA,hV1,hV2,hV3]
 by_cases f1:S.fl V1=true
 rotate_left
 · have f1':=Bool.not_eq_true _ ▸ f1
   rw [if_neg fun h=>f1 h.1]
   with_reducible refine zb f1' ?_
   with_reducible refine zH (decide_eq_true ⟨⟨⟨hp1,hp2⟩,hp7,hp8⟩,a1,b2,f1'⟩) ?_
   exact zG.mpr rfl
 with_reducible refine zH f1 ?_
 with_reducible refine zH (decide_eq_true ⟨⟨⟨hp1,hp2⟩,hp7,hp8⟩,a1,b2,f1⟩) ?_
 by_cases f2:S.fl V2=true
 rotate_left
 · have f2':=Bool.not_eq_true _ ▸ f2
   rw [if_neg fun h=>f2 h.2.1]
   with_reducible refine zb f2' ?_
   with_reducible refine zH (decide_eq_true ⟨⟨⟨hp5,hp6⟩,hp3,hp4⟩,b1,a2,f2'⟩) ?_
   exact zG.mpr rfl
 with_reducible refine zH f2 ?_
 with_reducible refine zH (decide_eq_true ⟨⟨⟨hp5,hp6⟩,hp3,hp4⟩,b1,a2,f2⟩) ?_
 obtain ⟨o1,e1⟩:=xP f1
 obtain ⟨o2,e2⟩:=xP f2
 have l1:=(z9 o1).1
 have l2:=(z9 o2).1
 obtain ⟨V4,hV4⟩: ∃ V,V1+V2=V:=⟨_,rfl⟩
 simp only [-eq_self,e1,e2,hV4]
 by_cases f4:S.fl V4=true
 rotate_left
 · have f4':=Bool.not_eq_true _ ▸ f4
   rw [if_neg fun h=>f4 h.2.2.1]
   with_reducible refine zb f4' ?_
   with_reducible refine zH (decide_eq_true ⟨⟨⟨by omega,by omega⟩,by omega,by omega⟩,o1,o2,f4'⟩) ?_
   exact zG.mpr rfl
 with_reducible refine zH f4 ?_
 with_reducible refine zH (decide_eq_true ⟨⟨⟨by omega,by omega⟩,by omega,by omega⟩,o1,o2,f4⟩) ?_
 by_cases f3:S.fl V3=true
 rotate_left
 · have f3':=Bool.not_eq_true _ ▸ f3
   rw [if_neg fun h=>f3 h.2.2.2]
   with_reducible refine zb f3' ?_
   with_reducible refine zH (decide_eq_true ⟨⟨⟨hp3,hp4⟩,hp7,hp8⟩,a2,b2,f3'⟩) ?_
   exact zG.mpr rfl
 with_reducible refine zH f3 ?_
 with_reducible refine zH (decide_eq_true ⟨⟨⟨hp3,hp4⟩,hp7,hp8⟩,a2,b2,f3⟩) ?_
 rw [if_pos ⟨f1,f2,f4,f3⟩]
 obtain ⟨o3,e3⟩:=xP f3
 obtain ⟨o4,e4⟩:=xP f4
 have l3:=(z9 o3).1
 have l4:=(z9 o4).1
 have hl:0<(S.f0 (V3.natAbs:Int)).length:=yc (by omega)
 rw [e3,e4]
 with_reducible refine zH (decide_eq_true ⟨⟨⟨by omega,by omega⟩,by omega,by omega⟩,o4,o3,hl⟩) ?_
 exact zG.mpr rfl
theorem k527_ok:k527.ok Tryz.prog:=by
 intro x hx
 obtain ⟨⟨n1,⟨ap,np,mp,tp,_⟩,n2,⟨aq,nq,mq,tq,_⟩,_⟩,⟨n3,⟨au,nu,mu,tu,_⟩,n4,⟨aw,nw,mw,tw,_⟩,_⟩,_⟩:=x
 obtain ⟨h1,h2⟩:=a527 n1 ap np mp tp n2 aq nq mq tq n3 au nu mu tu n4 aw nw mw tw (s527 n1 ap np mp tp n2 aq nq mq tq n3 au nu mu tu n4 aw nw mw tw (zm hx rfl))
 exact ⟨⟨400,(by decide:4+1+2≤400),h1⟩,h2⟩
section
variable (fR:TT) (fS:KS) (fT:KR) (n1:Bool) (ap np mp:Nat) (tp:NI) (n2:Bool) (aq nq mq:Nat) (tq:NI) (n3:Bool) (au nu mu:Nat) (tu:NI) (n4:Bool) (aw nw mw:Nat) (tw:NI)
noncomputable abbrev c573_e_0:=S.fw (S.sv (S.ngA (S.ngM n1 np (fun j=>tp (j+ap)) n4 nw fun j=>tw (j+aw)) (S.grM n1 np (fun j=>tp (j+ap)) n4 nw fun j=>tw (j+aw)).length (fun j=>S.at' (S.grM n1 np (fun j=>tp (j+ap)) n4 nw fun j=>tw (j+aw)) j) (S.ngM n3 nu (fun j=>tu (j+au)) n2 nq fun j=>tq (j+aq)) (S.grM n3 nu (fun j=>tu (j+au)) n2 nq fun j=>tq (j+aq)).length fun j=>S.at' (S.grM n3 nu (fun j=>tu (j+au)) n2 nq fun j=>tq (j+aq)) j) (S.val (S.grA (S.ngM n1 np (fun j=>tp (j+ap)) n4 nw fun j=>tw (j+aw)) (S.grM n1 np (fun j=>tp (j+ap)) n4 nw fun j=>tw (j+aw)).length (fun j=>S.at' (S.grM n1 np (fun j=>tp (j+ap)) n4 nw fun j=>tw (j+aw)) j) (S.ngM n3 nu (fun j=>tu (j+au)) n2 nq fun j=>tq (j+aq)) (S.grM n3 nu (fun j=>tu (j+au)) n2 nq fun j=>tq (j+aq)).length fun j=>S.at' (S.grM n3 nu (fun j=>tu (j+au)) n2 nq fun j=>tq (j+aq)) j).length fun j=>S.at' (S.grA (S.ngM n1 np (fun j=>tp (j+ap)) n4 nw fun j=>tw (j+aw)) (S.grM n1 np (fun j=>tp (j+ap)) n4 nw fun j=>tw (j+aw)).length (fun j=>S.at' (S.grM n1 np (fun j=>tp (j+ap)) n4 nw fun j=>tw (j+aw)) j) (S.ngM n3 nu (fun j=>tu (j+au)) n2 nq fun j=>tq (j+aq)) (S.grM n3 nu (fun j=>tu (j+au)) n2 nq fun j=>tq (j+aq)).length fun j=>S.at' (S.grM n3 nu (fun j=>tu (j+au)) n2 nq fun j=>tq (j+aq)) j) j)) (S.sv (S.ngM n2 nq (fun j=>tq (j+aq)) n4 nw fun j=>tw (j+aw)) (S.val (S.grM n2 nq (fun j=>tq (j+aq)) n4 nw fun j=>tw (j+aw)).length fun j=>S.at' (S.grM n2 nq (fun j=>tq (j+aq)) n4 nw fun j=>tw (j+aw)) j))
noncomputable abbrev c573_e_1:=decide (((0+(S.grA (S.ngM n1 np (fun j=>tp (j+ap)) n4 nw fun j=>tw (j+aw)) (S.grM n1 np (fun j=>tp (j+ap)) n4 nw fun j=>tw (j+aw)).length (fun j=>S.at' (S.grM n1 np (fun j=>tp (j+ap)) n4 nw fun j=>tw (j+aw)) j) (S.ngM n3 nu (fun j=>tu (j+au)) n2 nq fun j=>tq (j+aq)) (S.grM n3 nu (fun j=>tu (j+au)) n2 nq fun j=>tq (j+aq)).length fun j=>S.at' (S.grM n3 nu (fun j=>tu (j+au)) n2 nq fun j=>tq (j+aq)) j).length≤(S.grA (S.ngM n1 np (fun j=>tp (j+ap)) n4 nw fun j=>tw (j+aw)) (S.grM n1 np (fun j=>tp (j+ap)) n4 nw fun j=>tw (j+aw)).length (fun j=>S.at' (S.grM n1 np (fun j=>tp (j+ap)) n4 nw fun j=>tw (j+aw)) j) (S.ngM n3 nu (fun j=>tu (j+au)) n2 nq fun j=>tq (j+aq)) (S.grM n3 nu (fun j=>tu (j+au)) n2 nq fun j=>tq (j+aq)).length fun j=>S.at' (S.grM n3 nu (fun j=>tu (j+au)) n2 nq fun j=>tq (j+aq)) j).length∧(S.grA (S.ngM n1 np (fun j=>tp (j+ap)) n4 nw fun j=>tw (j+aw)) (S.grM n1 np (fun j=>tp (j+ap)) n4 nw fun j=>tw (j+aw)).length (fun j=>S.at' (S.grM n1 np (fun j=>tp (j+ap)) n4 nw fun j=>tw (j+aw)) j) (S.ngM n3 nu (fun j=>tu (j+au)) n2 nq fun j=>tq (j+aq)) (S.grM n3 nu (fun j=>tu (j+au)) n2 nq fun j=>tq (j+aq)).length fun j=>S.at' (S.grM n3 nu (fun j=>tu (j+au)) n2 nq fun j=>tq (j+aq)) j).length≤1000000)∧0+(S.grM n2 nq (fun j=>tq (j+aq)) n4 nw fun j=>tw (j+aw)).length≤(S.grM n2 nq (fun j=>tq (j+aq)) n4 nw fun j=>tw (j+aw)).length∧(S.grM n2 nq (fun j=>tq (j+aq)) n4 nw fun j=>tw (j+aw)).length≤1000000)∧(S.fV (S.ngA (S.ngM n1 np (fun j=>tp (j+ap)) n4 nw fun j=>tw (j+aw)) (S.grM n1 np (fun j=>tp (j+ap)) n4 nw fun j=>tw (j+aw)).length (fun j=>S.at' (S.grM n1 np (fun j=>tp (j+ap)) n4 nw fun j=>tw (j+aw)) j) (S.ngM n3 nu (fun j=>tu (j+au)) n2 nq fun j=>tq (j+aq)) (S.grM n3 nu (fun j=>tu (j+au)) n2 nq fun j=>tq (j+aq)).length fun j=>S.at' (S.grM n3 nu (fun j=>tu (j+au)) n2 nq fun j=>tq (j+aq)) j) (S.grA (S.ngM n1 np (fun j=>tp (j+ap)) n4 nw fun j=>tw (j+aw)) (S.grM n1 np (fun j=>tp (j+ap)) n4 nw fun j=>tw (j+aw)).length (fun j=>S.at' (S.grM n1 np (fun j=>tp (j+ap)) n4 nw fun j=>tw (j+aw)) j) (S.ngM n3 nu (fun j=>tu (j+au)) n2 nq fun j=>tq (j+aq)) (S.grM n3 nu (fun j=>tu (j+au)) n2 nq fun j=>tq (j+aq)).length fun j=>S.at' (S.grM n3 nu (fun j=>tu (j+au)) n2 nq fun j=>tq (j+aq)) j).length fun j=>S.at' (S.grA (S.ngM n1 np (fun j=>tp (j+ap)) n4 nw fun j=>tw (j+aw)) (S.grM n1 np (fun j=>tp (j+ap)) n4 nw fun j=>tw (j+aw)).length (fun j=>S.at' (S.grM n1 np (fun j=>tp (j+ap)) n4 nw fun j=>tw (j+aw)) j) (S.ngM n3 nu (fun j=>tu (j+au)) n2 nq fun j=>tq (j+aq)) (S.grM n3 nu (fun j=>tu (j+au)) n2 nq fun j=>tq (j+aq)).length fun j=>S.at' (S.grM n3 nu (fun j=>tu (j+au)) n2 nq fun j=>tq (j+aq)) j) j)=true∧(S.fV (S.ngM n2 nq (fun j=>tq (j+aq)) n4 nw fun j=>tw (j+aw)) (S.grM n2 nq (fun j=>tq (j+aq)) n4 nw fun j=>tw (j+aw)).length fun j=>S.at' (S.grM n2 nq (fun j=>tq (j+aq)) n4 nw fun j=>tw (j+aw)) j)=true∧0<(S.grM n2 nq (fun j=>tq (j+aq)) n4 nw fun j=>tw (j+aw)).length)
noncomputable abbrev c573_e_2:=decide (((0+(S.grM n1 np (fun j=>tp (j+ap)) n4 nw fun j=>tw (j+aw)).length≤(S.grM n1 np (fun j=>tp (j+ap)) n4 nw fun j=>tw (j+aw)).length∧(S.grM n1 np (fun j=>tp (j+ap)) n4 nw fun j=>tw (j+aw)).length≤1000000)∧0+(S.grM n3 nu (fun j=>tu (j+au)) n2 nq fun j=>tq (j+aq)).length≤(S.grM n3 nu (fun j=>tu (j+au)) n2 nq fun j=>tq (j+aq)).length∧(S.grM n3 nu (fun j=>tu (j+au)) n2 nq fun j=>tq (j+aq)).length≤1000000)∧(S.fV (S.ngM n1 np (fun j=>tp (j+ap)) n4 nw fun j=>tw (j+aw)) (S.grM n1 np (fun j=>tp (j+ap)) n4 nw fun j=>tw (j+aw)).length fun j=>S.at' (S.grM n1 np (fun j=>tp (j+ap)) n4 nw fun j=>tw (j+aw)) j)=true∧(S.fV (S.ngM n3 nu (fun j=>tu (j+au)) n2 nq fun j=>tq (j+aq)) (S.grM n3 nu (fun j=>tu (j+au)) n2 nq fun j=>tq (j+aq)).length fun j=>S.at' (S.grM n3 nu (fun j=>tu (j+au)) n2 nq fun j=>tq (j+aq)) j)=true∧(S.fk (S.ngM n1 np (fun j=>tp (j+ap)) n4 nw fun j=>tw (j+aw)) (S.grM n1 np (fun j=>tp (j+ap)) n4 nw fun j=>tw (j+aw)).length (fun j=>S.at' (S.grM n1 np (fun j=>tp (j+ap)) n4 nw fun j=>tw (j+aw)) j) (S.ngM n3 nu (fun j=>tu (j+au)) n2 nq fun j=>tq (j+aq)) (S.grM n3 nu (fun j=>tu (j+au)) n2 nq fun j=>tq (j+aq)).length fun j=>S.at' (S.grM n3 nu (fun j=>tu (j+au)) n2 nq fun j=>tq (j+aq)) j)=false)
noncomputable abbrev c573_e_3:=decide (((0+(S.grM n1 np (fun j=>tp (j+ap)) n4 nw fun j=>tw (j+aw)).length≤(S.grM n1 np (fun j=>tp (j+ap)) n4 nw fun j=>tw (j+aw)).length∧(S.grM n1 np (fun j=>tp (j+ap)) n4 nw fun j=>tw (j+aw)).length≤1000000)∧0+(S.grM n3 nu (fun j=>tu (j+au)) n2 nq fun j=>tq (j+aq)).length≤(S.grM n3 nu (fun j=>tu (j+au)) n2 nq fun j=>tq (j+aq)).length∧(S.grM n3 nu (fun j=>tu (j+au)) n2 nq fun j=>tq (j+aq)).length≤1000000)∧(S.fV (S.ngM n1 np (fun j=>tp (j+ap)) n4 nw fun j=>tw (j+aw)) (S.grM n1 np (fun j=>tp (j+ap)) n4 nw fun j=>tw (j+aw)).length fun j=>S.at' (S.grM n1 np (fun j=>tp (j+ap)) n4 nw fun j=>tw (j+aw)) j)=true∧(S.fV (S.ngM n3 nu (fun j=>tu (j+au)) n2 nq fun j=>tq (j+aq)) (S.grM n3 nu (fun j=>tu (j+au)) n2 nq fun j=>tq (j+aq)).length fun j=>S.at' (S.grM n3 nu (fun j=>tu (j+au)) n2 nq fun j=>tq (j+aq)) j)=true∧(S.fk (S.ngM n1 np (fun j=>tp (j+ap)) n4 nw fun j=>tw (j+aw)) (S.grM n1 np (fun j=>tp (j+ap)) n4 nw fun j=>tw (j+aw)).length (fun j=>S.at' (S.grM n1 np (fun j=>tp (j+ap)) n4 nw fun j=>tw (j+aw)) j) (S.ngM n3 nu (fun j=>tu (j+au)) n2 nq fun j=>tq (j+aq)) (S.grM n3 nu (fun j=>tu (j+au)) n2 nq fun j=>tq (j+aq)).length fun j=>S.at' (S.grM n3 nu (fun j=>tu (j+au)) n2 nq fun j=>tq (j+aq)) j)=true)
noncomputable abbrev c573_e_4:=S.fk (S.ngM n1 np (fun j=>tp (j+ap)) n4 nw fun j=>tw (j+aw)) (S.grM n1 np (fun j=>tp (j+ap)) n4 nw fun j=>tw (j+aw)).length (fun j=>S.at' (S.grM n1 np (fun j=>tp (j+ap)) n4 nw fun j=>tw (j+aw)) j) (S.ngM n3 nu (fun j=>tu (j+au)) n2 nq fun j=>tq (j+aq)) (S.grM n3 nu (fun j=>tu (j+au)) n2 nq fun j=>tq (j+aq)).length fun j=>S.at' (S.grM n3 nu (fun j=>tu (j+au)) n2 nq fun j=>tq (j+aq)) j
noncomputable abbrev c573_e_5:= [[(3,false,Blk.cols mw [Col.int .i64 tw]),(2,false,Blk.cols mu [Col.int .i64 tu]),(1,false,Blk.cols mq [Col.int .i64 tq]),(0,false,Blk.cols mp [Col.int .i64 tp])]]
noncomputable abbrev c573_e_6:=PV.tup [PV.agg [PV.tf false,PV.nils,PV.tf false,PV.nils],PV.int .i64 (3:Int)]
abbrev St573:=Empty
abbrev Rt573:=Bool×Bool×Int×List Int×List Int
noncomputable def V573 (r:Rt573):PV:= .tup [.agg [.bool r.1,.own 5 1 r.2.2.2.1.length,.bool r.2.1,.own 6 1 r.2.2.2.2.length],.int .i64 r.2.2.1]
noncomputable def N573 (r:Rt573):List Blk:= [CI r.2.2.2.1,CI r.2.2.2.2]
noncomputable def I573:St573→Hd:=fun s=>s.elim
noncomputable def q573 (n1:Bool) (ap np mp:Nat) (tp:NI) (n2:Bool) (aq nq mq:Nat) (tq:NI) (n3:Bool) (au nu mu:Nat) (tu:NI) (n4:Bool) (aw nw mw:Nat) (tw:NI):St573→Option (St573⊕Rt573):=fun s=>s.elim
noncomputable def p573 (n1:Bool) (ap np mp:Nat) (tp:NI) (n2:Bool) (aq nq mq:Nat) (tq:NI) (n3:Bool) (au nu mu:Nat) (tu:NI) (n4:Bool) (aw nw mw:Nat) (tw:NI):Option (St573⊕Rt573):=bif (S.fj n1 np (fun j=>tp (j+ap)) n4 nw fun j=>tw (j+aw)) then (bif (decide (((ap+np≤mp∧np≤1000000)∧aw+nw≤mw∧nw≤1000000)∧(S.fV n1 np fun j=>tp (j+ap))=true∧(S.fV n4 nw fun j=>tw (j+aw))=true∧(S.fj n1 np (fun j=>tp (j+ap)) n4 nw fun j=>tw (j+aw))=true)) then (bif (S.fj n3 nu (fun j=>tu (j+au)) n2 nq fun j=>tq (j+aq)) then (bif (decide (((au+nu≤mu∧nu≤1000000)∧aq+nq≤mq∧nq≤1000000)∧(S.fV n3 nu fun j=>tu (j+au))=true∧(S.fV n2 nq fun j=>tq (j+aq))=true∧(S.fj n3 nu (fun j=>tu (j+au)) n2 nq fun j=>tq (j+aq))=true)) then (bif (c573_e_4 n1 ap np tp n2 aq nq tq n3 au nu tu n4 aw nw tw) then (bif (c573_e_3 n1 ap np tp n2 aq nq tq n3 au nu tu n4 aw nw tw) then (bif (S.fj n2 nq (fun j=>tq (j+aq)) n4 nw fun j=>tw (j+aw)) then (bif (decide (((aq+nq≤mq∧nq≤1000000)∧aw+nw≤mw∧nw≤1000000)∧(S.fV n2 nq fun j=>tq (j+aq))=true∧(S.fV n4 nw fun j=>tw (j+aw))=true∧(S.fj n2 nq (fun j=>tq (j+aq)) n4 nw fun j=>tw (j+aw))=true)) then (bif (c573_e_1 n1 ap np tp n2 aq nq tq n3 au nu tu n4 aw nw tw) then (some (.inr ((c573_e_0 n1 ap np tp n2 aq nq tq n3 au nu tu n4 aw nw tw).1,(c573_e_0 n1 ap np tp n2 aq nq tq n3 au nu tu n4 aw nw tw).2.1,(0:Int),(c573_e_0 n1 ap np tp n2 aq nq tq n3 au nu tu n4 aw nw tw).2.2.1,(c573_e_0 n1 ap np tp n2 aq nq tq n3 au nu tu n4 aw nw tw).2.2.2))) else none) else none) else (bif (decide (((aq+nq≤mq∧nq≤1000000)∧aw+nw≤mw∧nw≤1000000)∧(S.fV n2 nq fun j=>tq (j+aq))=true∧(S.fV n4 nw fun j=>tw (j+aw))=true∧(S.fj n2 nq (fun j=>tq (j+aq)) n4 nw fun j=>tw (j+aw))=false)) then (some (.inr (false,false,(3:Int),[],[]))) else none)) else none) else (bif (c573_e_2 n1 ap np tp n2 aq nq tq n3 au nu tu n4 aw nw tw) then (some (.inr (false,false,(3:Int),[],[]))) else none)) else none) else (bif (decide (((au+nu≤mu∧nu≤1000000)∧aq+nq≤mq∧nq≤1000000)∧(S.fV n3 nu fun j=>tu (j+au))=true∧(S.fV n2 nq fun j=>tq (j+aq))=true∧(S.fj n3 nu (fun j=>tu (j+au)) n2 nq fun j=>tq (j+aq))=false)) then (some (.inr (false,false,(3:Int),[],[]))) else none)) else none) else (bif (decide (((ap+np≤mp∧np≤1000000)∧aw+nw≤mw∧nw≤1000000)∧(S.fV n1 np fun j=>tp (j+ap))=true∧(S.fV n4 nw fun j=>tw (j+aw))=true∧(S.fj n1 np (fun j=>tp (j+ap)) n4 nw fun j=>tw (j+aw))=false)) then (some (.inr (false,false,(3:Int),[],[]))) else none)
def Te573:Prop:=fR (S.fj n1 np (FS tp ap) n4 nw (FS tw aw)) (fR (decide (((ap+np≤mp∧np≤1000000)∧aw+nw≤mw∧nw≤1000000)∧(S.fV n1 np (FS tp ap))=true∧(S.fV n4 nw (FS tw aw))=true∧(S.fj n1 np (FS tp ap) n4 nw (FS tw aw))=true)) (fR (S.fj n3 nu (FS tu au) n2 nq (FS tq aq)) (fR (decide (((au+nu≤mu∧nu≤1000000)∧aq+nq≤mq∧nq≤1000000)∧(S.fV n3 nu (FS tu au))=true∧(S.fV n2 nq (FS tq aq))=true∧(S.fj n3 nu (FS tu au) n2 nq (FS tq aq))=true)) (fR (c573_e_4 n1 ap np tp n2 aq nq tq n3 au nu tu n4 aw nw tw) (fR (c573_e_3 n1 ap np tp n2 aq nq tq n3 au nu tu n4 aw nw tw) (fR (S.fj n2 nq (FS tq aq) n4 nw (FS tw aw)) (fR (decide (((aq+nq≤mq∧nq≤1000000)∧aw+nw≤mw∧nw≤1000000)∧(S.fV n2 nq (FS tq aq))=true∧(S.fV n4 nw (FS tw aw))=true∧(S.fj n2 nq (FS tq aq) n4 nw (FS tw aw))=true)) (fR (c573_e_1 n1 ap np tp n2 aq nq tq n3 au nu tu n4 aw nw tw) (fT (.tup [.agg [.bool (c573_e_0 n1 ap np tp n2 aq nq tq n3 au nu tu n4 aw nw tw).1,.own 41 1 (c573_e_0 n1 ap np tp n2 aq nq tq n3 au nu tu n4 aw nw tw).2.2.1.length,.bool (c573_e_0 n1 ap np tp n2 aq nq tq n3 au nu tu n4 aw nw tw).2.1,.own 42 1 (c573_e_0 n1 ap np tp n2 aq nq tq n3 au nu tu n4 aw nw tw).2.2.2.length],.int .i64 0]) ([[(3,false,CB mw tw),(2,false,CB mu tu),(1,false,CB mq tq),(0,false,CB mp tp),(42,true,CI (c573_e_0 n1 ap np tp n2 aq nq tq n3 au nu tu n4 aw nw tw).2.2.2),(41,true,CI (c573_e_0 n1 ap np tp n2 aq nq tq n3 au nu tu n4 aw nw tw).2.2.1)]]) 43) False) False) (fR (decide (((aq+nq≤mq∧nq≤1000000)∧aw+nw≤mw∧nw≤1000000)∧(S.fV n2 nq (FS tq aq))=true∧(S.fV n4 nw (FS tw aw))=true∧(S.fj n2 nq (FS tq aq) n4 nw (FS tw aw))=false)) (fT c573_e_6 (c573_e_5 mp tp mq tq mu tu mw tw) 40) False)) False) (fR (c573_e_2 n1 ap np tp n2 aq nq tq n3 au nu tu n4 aw nw tw) (fT c573_e_6 (c573_e_5 mp tp mq tq mu tu mw tw) 36) False)) False) (fR (decide (((au+nu≤mu∧nu≤1000000)∧aq+nq≤mq∧nq≤1000000)∧(S.fV n3 nu (FS tu au))=true∧(S.fV n2 nq (FS tq aq))=true∧(S.fj n3 nu (FS tu au) n2 nq (FS tq aq))=false)) (fT c573_e_6 (c573_e_5 mp tp mq tq mu tu mw tw) 32) False)) False) (fR (decide (((ap+np≤mp∧np≤1000000)∧aw+nw≤mw∧nw≤1000000)∧(S.fV n1 np (FS tp ap))=true∧(S.fV n4 nw (FS tw aw))=true∧(S.fj n1 np (FS tp ap) n4 nw (FS tw aw))=false)) (fT c573_e_6 (c573_e_5 mp tp mq tq mu tu mw tw) 28) False)
theorem te573:run cond Tryz.env true (xR8 cond) false 400 ⟨73,[.cd (zU Tryz.f73).body],z8 0 [.agg [.bool n1,.loose ⟨0,1,ap,0⟩ np,.bool n2,.loose ⟨1,1,aq,0⟩ nq],.agg [.bool n3,.loose ⟨2,1,au,0⟩ nu,.bool n4,.loose ⟨3,1,aw,0⟩ nw]],[[],[(0,(false,CB mp tp)),(1,(false,CB mq tq)),(2,(false,CB mu tu)),(3,(false,CB mw tw))]],4⟩ (zr 4 [] fS fT)=
 Te573 cond fT n1 ap np mp tp n2 aq nq mq tq n3 au nu mu tu n4 aw nw mw tw:=by kernel_rfl
noncomputable abbrev J573:Rt573→zS:=fun r=> [yC (4+1) ((N573) r)++ [(0,(false,CB mp tp)),(1,(false,CB mq tq)),(2,(false,CB mu tu)),(3,(false,CB mw tw))]]
attribute [local irreducible] Int.subNatNat in
theorem a573 {r:Rt573} (h:zY ((q573 n1 ap np mp tp n2 aq nq mq tq n3 au nu mu tu n4 aw nw mw tw)) ((p573 n1 ap np mp tp n2 aq nq mq tq n3 au nu mu tu n4 aw nw mw tw)) r):zn Tryz.prog 73 [.agg [.bool n1,.loose ⟨0,1,ap,0⟩ np,.bool n2,.loose ⟨1,1,aq,0⟩ nq],.agg [.bool n3,.loose ⟨2,1,au,0⟩ nu,.bool n4,.loose ⟨3,1,aw,0⟩ nw]] [[(0,(false,CB mp tp)),(1,(false,CB mq tq)),(2,(false,CB mu tu)),(3,(false,CB mw tw))]] 4 ((V573) r) ((J573 mp tp mq tq mu tu mw tw) r) 400∧HB Tryz.prog 73:=by
 refine wP Tryz.envOk Tryz.mixed tC ((I573)) ((V573)) (J573 mp tp mq tq mu tu mw tw) (fn:=zU Tryz.f73) (n:=400) rfl (by decide) (by simp) (zW rfl) ?_ h
 · intro fS fT x hS hR h
   refine Holds.eq (te573 fS fT n1 ap np mp tp n2 aq nq mq tq n3 au nu mu tu n4 aw nw mw tw) ?_
   unfold Te573
   unfold p573 at h
   refine zA h (fun c0 h=>zA h (fun c1 h=>zA h (fun c2 h=>zA h (fun c3 h=>zA h (fun c4 h=>zA h (fun c5 h=>zA h (fun c6 h=>zA h (fun c7 h=>zA h (fun c8 h=>zV hR _ h (fun n=>bif Nat.beq n 5 then 41 else bif Nat.beq n 6 then 42 else n) rfl rfl rfl (zk ⟨(zc ⟨(zj rfl),(zX (zD rfl) rfl rfl),(zj rfl),(zX (zD rfl) rfl rfl),trivial⟩),(zI rfl),trivial⟩) rfl (zL (zD rfl) rfl (Nat.le_of_eq rfl) (zN (fun _ _=>rfl) zM) (zL (zD rfl) rfl (Nat.le_of_eq rfl) (zN (fun _ _=>rfl) zM) (zB (zC rfl) rfl rfl (zB (zC rfl) rfl rfl (zB (zC rfl) rfl rfl (zB (zC rfl) rfl rfl zE))))))) (fun c8 h=> ?_)) (fun c7 h=> ?_)) (fun c6 h=>zA h (fun c7 h=> ?_) (fun c7 h=> ?_))) (fun c5 h=> ?_)) (fun c4 h=>zA h (fun c5 h=> ?_) (fun c5 h=> ?_))) (fun c3 h=> ?_)) (fun c2 h=>zA h (fun c3 h=> ?_) (fun c3 h=> ?_))) (fun c1 h=> ?_)) (fun c0 h=>zA h (fun c1 h=> ?_) (fun c1 h=> ?_))
   all_goals first
     |exact zF h
     |exact zV hR _ h (fun n=>bif Nat.beq n 5 then 399 else bif Nat.beq n 6 then 398 else n) rfl rfl rfl (zk ⟨(zc ⟨(zR rfl),(zO rfl),(zR rfl),(zO rfl),trivial⟩),(zI rfl),trivial⟩) rfl (zT (zD rfl) (za rfl) (zT (zD rfl) (za rfl) (zB (zC rfl) rfl rfl (zB (zC rfl) rfl rfl (zB (zC rfl) rfl rfl (zB (zC rfl) rfl rfl zE))))))
end
noncomputable def k573:Con:=⟨73,[.agg [.plain (.bool),.list [.int .i64],.plain (.bool),.list [.int .i64]],.agg [.plain (.bool),.list [.int .i64],.plain (.bool),.list [.int .i64]]],w518 (fun n1 ap np mp tp n2 aq nq mq tq n3 au nu mu tu n4 aw nw mw tw=>decide ((((ap+np≤mp∧np≤1000000)∧aq+nq≤mq∧nq≤1000000)∧(au+nu≤mu∧nu≤1000000)∧aw+nw≤mw∧nw≤1000000)∧(S.fV n1 np (FS tp ap)=true∧S.fV n2 nq (FS tq aq)=true∧n2=false∧0<nq)∧S.fV n3 nu (FS tu au)=true∧S.fV n4 nw (FS tw aw)=true∧n4=false∧0<nw)),w518 (fun n1 ap np mp tp n2 aq nq mq tq n3 au nu mu tu n4 aw nw mw tw=>(V573) (S.eE (S.sv n1 (S.val np (FS tp ap))) (S.sv n2 (S.val nq (FS tq aq))) (S.sv n3 (S.val nu (FS tu au))) (S.sv n4 (S.val nw (FS tw aw))))),w518 (fun n1 ap np mp tp n2 aq nq mq tq n3 au nu mu tu n4 aw nw mw tw=>(N573) (S.eE (S.sv n1 (S.val np (FS tp ap))) (S.sv n2 (S.val nq (FS tq aq))) (S.sv n3 (S.val nu (FS tu au))) (S.sv n4 (S.val nw (FS tw aw))))),fun _ _=> .dead⟩
theorem s573 (n1:Bool) (ap np mp:Nat) (tp:Nat→Int) (n2:Bool) (aq nq mq:Nat) (tq:Nat→Int) (n3:Bool) (au nu mu:Nat) (tu:Nat→Int) (n4:Bool) (aw nw mw:Nat) (tw:Nat→Int) (hp:(((ap+np≤mp∧np≤1000000)∧aq+nq≤mq∧nq≤1000000)∧(au+nu≤mu∧nu≤1000000)∧aw+nw≤mw∧nw≤1000000)∧(S.fV n1 np (fun j=>tp (j+ap))=true∧S.fV n2 nq (fun j=>tq (j+aq))=true∧n2=false∧0<nq)∧S.fV n3 nu (fun j=>tu (j+au))=true∧S.fV n4 nw (fun j=>tw (j+aw))=true∧n4=false∧0<nw):zY ((q573 n1 ap np mp tp n2 aq nq mq tq n3 au nu mu tu n4 aw nw mw tw)) ((p573 n1 ap np mp tp n2 aq nq mq tq n3 au nu mu tu n4 aw nw mw tw)) (((S.eE (S.sv n1 (S.val np (fun j=>tp (j+ap)))) (S.sv n2 (S.val nq (fun j=>tq (j+aq)))) (S.sv n3 (S.val nu (fun j=>tu (j+au)))) (S.sv n4 (S.val nw (fun j=>tw (j+aw))))).1,(S.eE (S.sv n1 (S.val np (fun j=>tp (j+ap)))) (S.sv n2 (S.val nq (fun j=>tq (j+aq)))) (S.sv n3 (S.val nu (fun j=>tu (j+au)))) (S.sv n4 (S.val nw (fun j=>tw (j+aw))))).2.1,(S.eE (S.sv n1 (S.val np (fun j=>tp (j+ap)))) (S.sv n2 (S.val nq (fun j=>tq (j+aq)))) (S.sv n3 (S.val nu (fun j=>tu (j+au)))) (S.sv n4 (S.val nw (fun j=>tw (j+aw))))).2.2.1,(S.eE (S.sv n1 (S.val np (fun j=>tp (j+ap)))) (S.sv n2 (S.val nq (fun j=>tq (j+aq)))) (S.sv n3 (S.val nu (fun j=>tu (j+au)))) (S.sv n4 (S.val nw (fun j=>tw (j+aw))))).2.2.2.1,(S.eE (S.sv n1 (S.val np (fun j=>tp (j+ap)))) (S.sv n2 (S.val nq (fun j=>tq (j+aq)))) (S.sv n3 (S.val nu (fun j=>tu (j+au)))) (S.sv n4 (S.val nw (fun j=>tw (j+aw))))).2.2.2.2)):=by
 obtain ⟨⟨⟨⟨hp1,hp2⟩,hp3,hp4⟩,⟨hp5,hp6⟩,hp7,hp8⟩,⟨a1,a2,a3,a4⟩,b1,b2,b3,b4⟩:=hp
 have p1:=xI a2 a3 a4
 have p2:=xI b2 b3 b4
 unfold p573
 have p3:=Int.mul_pos p1 p2
 unfold S.eE
 obtain ⟨V1,hV1⟩: ∃ V,S.sv n1 (S.val np (fun j=>tp (j+ap)))*S.sv n4 (S.val nw (fun j=>tw (j+aw)))=V:=⟨_,rfl⟩
 obtain ⟨V2,hV2⟩: ∃ V,S.sv n3 (S.val nu (fun j=>tu (j+au)))*S.sv n2 (S.val nq (fun j=>tq (j+aq)))=V:=⟨_,rfl⟩
 obtain ⟨V3,hV3⟩: ∃ V,S.sv n2 (S.val nq (fun j=>tq (j+aq)))*S.sv n4 (S.val nw (fun j=>tw (j+aw)))=V:=⟨_,rfl⟩
 rw [hV3] at p3
 simp only [-eq_self,c573_e_0,c573_e_1,c573_e_2,c573_e_3,c573_e_4,c573_e_5,c573_e_6,S.fj,S.ngM,S.grM,S.fk,S.ngA,S.grA,hV1,hV2,hV3]
 by_cases f1:S.fl V1=true
 rotate_left
 · have f1':=Bool.not_eq_true _ ▸ f1
   rw [if_neg fun h=>f1 h.1]
   with_reducible refine zb f1' ?_
   with_reducible refine zH (decide_eq_true ⟨⟨⟨hp1,hp2⟩,hp7,hp8⟩,a1,b2,f1'⟩) ?_
   exact zG.mpr rfl
 with_reducible refine zH f1 ?_
 with_reducible refine zH (decide_eq_true ⟨⟨⟨hp1,hp2⟩,hp7,hp8⟩,a1,b2,f1⟩) ?_
 by_cases f2:S.fl V2=true
 rotate_left
 · have f2':=Bool.not_eq_true _ ▸ f2
   rw [if_neg fun h=>f2 h.2.1]
   with_reducible refine zb f2' ?_
   with_reducible refine zH (decide_eq_true ⟨⟨⟨hp5,hp6⟩,hp3,hp4⟩,b1,a2,f2'⟩) ?_
   exact zG.mpr rfl
 with_reducible refine zH f2 ?_
 with_reducible refine zH (decide_eq_true ⟨⟨⟨hp5,hp6⟩,hp3,hp4⟩,b1,a2,f2⟩) ?_
 obtain ⟨o1,e1⟩:=xP f1
 obtain ⟨o2,e2⟩:=xP f2
 have l1:=(z9 o1).1
 have l2:=(z9 o2).1
 obtain ⟨V4,hV4⟩: ∃ V,V1+V2=V:=⟨_,rfl⟩
 simp only [-eq_self,e1,e2,hV4]
 by_cases f4:S.fl V4=true
 rotate_left
 · have f4':=Bool.not_eq_true _ ▸ f4
   rw [if_neg fun h=>f4 h.2.2.1]
   with_reducible refine zb f4' ?_
   with_reducible refine zH (decide_eq_true ⟨⟨⟨by omega,by omega⟩,by omega,by omega⟩,o1,o2,f4'⟩) ?_
   exact zG.mpr rfl
 with_reducible refine zH f4 ?_
 with_reducible refine zH (decide_eq_true ⟨⟨⟨by omega,by omega⟩,by omega,by omega⟩,o1,o2,f4⟩) ?_
 by_cases f3:S.fl V3=true
 rotate_left
 · have f3':=Bool.not_eq_true _ ▸ f3
   rw [if_neg fun h=>f3 h.2.2.2]
   with_reducible refine zb f3' ?_
   with_reducible refine zH (decide_eq_true ⟨⟨⟨hp3,hp4⟩,hp7,hp8⟩,a2,b2,f3'⟩) ?_
   exact zG.mpr rfl
 with_reducible refine zH f3 ?_
 with_reducible refine zH (decide_eq_true ⟨⟨⟨hp3,hp4⟩,hp7,hp8⟩,a2,b2,f3⟩) ?_
 rw [if_pos ⟨f1,f2,f4,f3⟩]
 obtain ⟨o3,e3⟩:=xP f3
 obtain ⟨o4,e4⟩:=xP f4
 have l3:=(z9 o3).1
 have l4:=(z9 o4).1
 have hl:0<(S.f0 (V3.natAbs:Int)).length:=yc (by omega)
 rw [e3,e4]
 with_reducible refine zH (decide_eq_true ⟨⟨⟨by omega,by omega⟩,by omega,by omega⟩,o4,o3,hl⟩) ?_
 exact zG.mpr rfl
theorem k573_ok:k573.ok Tryz.prog:=by
 intro x hx
 obtain ⟨⟨n1,⟨ap,np,mp,tp,_⟩,n2,⟨aq,nq,mq,tq,_⟩,_⟩,⟨n3,⟨au,nu,mu,tu,_⟩,n4,⟨aw,nw,mw,tw,_⟩,_⟩,_⟩:=x
 obtain ⟨h1,h2⟩:=a573 n1 ap np mp tp n2 aq nq mq tq n3 au nu mu tu n4 aw nw mw tw (s573 n1 ap np mp tp n2 aq nq mq tq n3 au nu mu tu n4 aw nw mw tw (zm hx rfl))
 exact ⟨⟨400,(by decide:4+1+2≤400),h1⟩,h2⟩
noncomputable def xR9 (fR:Bool→Prop→Prop→Prop):Ext:=y2 fR [k522,k573]
theorem kJ:yT Tryz.prog (xR9 cond):=yH ⟨k522_ok,k573_ok,trivial⟩
noncomputable def g8 (fR:Bool→Prop→Prop→Prop):Ext:=y2 fR [k523,k51,k527]
theorem jd:yT Tryz.prog (g8 cond):=yH ⟨k523_ok,k51_ok,k527_ok,trivial⟩
theorem pX {n:Nat} {t:Nat→Int} {c d:Bool} (h:S.fV c n t=true) (hd:0<n∨d=false):S.fV d n t=true:=yg.mpr ⟨(yg.mp h).1,(yg.mp h).2.1,hd⟩
theorem jK {n1:Bool} {n:Nat} {t:Nat→Int} {n2:Bool} {m:Nat} {u:Nat→Int} (h:S.fY n1 n t n2 m u=true):S.fY (S.fy (!n1) (S.val n t)) (S.f0 (S.val n t)).length (fun j=>S.at' (S.f0 (S.val n t)) j) n2 m u=true:=by
 obtain ⟨h1,h2,h3,h4,h5⟩:=yf.mp h
 have v:=yM (zi (z9 h1).2)
 have l:=z5 (zi (z9 h1).2) (z9 h1).1
 have o:=nK (ng:= !n1) v l
 refine yf.mpr ⟨o.1,h2,h3,h4,?_⟩
 rw [zq v]; exact h5
theorem jv {n1:Bool} {n:Nat} {t:Nat→Int} (h:S.fV n1 n t=true):S.sv (S.fy (!n1) (S.val n t)) (S.val (S.f0 (S.val n t)).length fun j=>S.at' (S.f0 (S.val n t)) j)= -(S.sv n1 (S.val n t)):=by
 have v:=yM (zi (z9 h).2)
 have l:=z5 (zi (z9 h).2) (z9 h).1
 rw [(nK (ng:= !n1) v l).2,oQ]
section
variable (fR:TT) (fS:KS) (fT:KR) (n1:Bool) (ap np mp:Nat) (tp:NI) (n2:Bool) (aq nq mq:Nat) (tq:NI) (n3:Bool) (au nu mu:Nat) (tu:NI) (n4:Bool) (aw nw mw:Nat) (tw:NI)
noncomputable abbrev c526_e_0:=S.eE (S.sv n1 (S.val np fun j=>tp (j+ap))) (S.sv n2 (S.val nq fun j=>tq (j+aq))) (S.sv n3 (S.val nu fun j=>tu (j+au))) (S.sv n4 (S.val nw fun j=>tw (j+aw)))
abbrev St526:=Empty
abbrev Rt526:=Bool×Bool×Int×List Int×List Int
noncomputable def V526 (r:Rt526):PV:= .tup [.agg [.bool r.1,.own 5 1 r.2.2.2.1.length,.bool r.2.1,.own 6 1 r.2.2.2.2.length],.int .i64 r.2.2.1]
noncomputable def N526 (r:Rt526):List Blk:= [CI r.2.2.2.1,CI r.2.2.2.2]
noncomputable def I526:St526→Hd:=fun s=>s.elim
noncomputable def q526 (n1:Bool) (ap np mp:Nat) (tp:NI) (n2:Bool) (aq nq mq:Nat) (tq:NI) (n3:Bool) (au nu mu:Nat) (tu:NI) (n4:Bool) (aw nw mw:Nat) (tw:NI):St526→Option (St526⊕Rt526):=fun s=>s.elim
noncomputable def p526 (n1:Bool) (ap np mp:Nat) (tp:NI) (n2:Bool) (aq nq mq:Nat) (tq:NI) (n3:Bool) (au nu mu:Nat) (tu:NI) (n4:Bool) (aw nw mw:Nat) (tw:NI):Option (St526⊕Rt526):=bif (decide ((ap+np≤mp∧np≤1000000)∧aq+nq≤mq∧nq≤1000000)) then (bif (S.fY n1 np (fun j=>tp (j+ap)) n2 nq fun j=>tq (j+aq)) then (bif (decide ((au+nu≤mu∧nu≤1000000)∧aw+nw≤mw∧nw≤1000000)) then (bif (S.fY n3 nu (fun j=>tu (j+au)) n4 nw fun j=>tw (j+aw)) then (bif (decide ((((ap+np≤mp∧np≤1000000)∧aq+nq≤mq∧nq≤1000000)∧(au+nu≤mu∧nu≤1000000)∧aw+nw≤mw∧nw≤1000000)∧((S.fV n1 np fun j=>tp (j+ap))=true∧(S.fV n2 nq fun j=>tq (j+aq))=true∧n2=false∧0<nq)∧(S.fV n3 nu fun j=>tu (j+au))=true∧(S.fV n4 nw fun j=>tw (j+aw))=true∧n4=false∧0<nw)) then (some (.inr ((c526_e_0 n1 ap np tp n2 aq nq tq n3 au nu tu n4 aw nw tw).1,(c526_e_0 n1 ap np tp n2 aq nq tq n3 au nu tu n4 aw nw tw).2.1,(c526_e_0 n1 ap np tp n2 aq nq tq n3 au nu tu n4 aw nw tw).2.2.1,(c526_e_0 n1 ap np tp n2 aq nq tq n3 au nu tu n4 aw nw tw).2.2.2.1,(c526_e_0 n1 ap np tp n2 aq nq tq n3 au nu tu n4 aw nw tw).2.2.2.2))) else none) else (some (.inr (false,false,(1:Int),[],[])))) else none) else (some (.inr (false,false,(1:Int),[],[])))) else none
def Te526:Prop:=fR (decide ((ap+np≤mp∧np≤1000000)∧aq+nq≤mq∧nq≤1000000)) (fR (S.fY n1 np (FS tp ap) n2 nq (FS tq aq)) (fR (decide ((au+nu≤mu∧nu≤1000000)∧aw+nw≤mw∧nw≤1000000)) (fR (S.fY n3 nu (FS tu au) n4 nw (FS tw aw)) (fR (decide ((((ap+np≤mp∧np≤1000000)∧aq+nq≤mq∧nq≤1000000)∧(au+nu≤mu∧nu≤1000000)∧aw+nw≤mw∧nw≤1000000)∧((S.fV n1 np (FS tp ap))=true∧(S.fV n2 nq (FS tq aq))=true∧n2=false∧0<nq)∧(S.fV n3 nu (FS tu au))=true∧(S.fV n4 nw (FS tw aw))=true∧n4=false∧0<nw)) (fT (.tup [.agg [.bool (c526_e_0 n1 ap np tp n2 aq nq tq n3 au nu tu n4 aw nw tw).1,.own 10 1 (c526_e_0 n1 ap np tp n2 aq nq tq n3 au nu tu n4 aw nw tw).2.2.2.1.length,.bool (c526_e_0 n1 ap np tp n2 aq nq tq n3 au nu tu n4 aw nw tw).2.1,.own 11 1 (c526_e_0 n1 ap np tp n2 aq nq tq n3 au nu tu n4 aw nw tw).2.2.2.2.length],.int .i64 (c526_e_0 n1 ap np tp n2 aq nq tq n3 au nu tu n4 aw nw tw).2.2.1]) ([[(3,false,CB mw tw),(2,false,CB mu tu),(1,false,CB mq tq),(0,false,CB mp tp),(11,true,CI (c526_e_0 n1 ap np tp n2 aq nq tq n3 au nu tu n4 aw nw tw).2.2.2.2),(10,true,CI (c526_e_0 n1 ap np tp n2 aq nq tq n3 au nu tu n4 aw nw tw).2.2.2.1)]]) 12) False) (fT (.tup [.agg [.tf false,.nils,.tf false,.nils],.int .i64 1]) ([[(3,false,CB mw tw),(2,false,CB mu tu),(1,false,CB mq tq),(0,false,CB mp tp)]]) 9)) False) (fT (.tup [.agg [.tf false,.nils,.tf false,.nils],.int .i64 1]) ([[(3,false,CB mw tw),(2,false,CB mu tu),(1,false,CB mq tq),(0,false,CB mp tp)]]) 8)) False
theorem te526:run fR Tryz.env true (xR9 fR) true 400 ⟨26,[.cd (zU Tryz.f26).body],z8 0 [.agg [.bool n1,.loose ⟨0,1,ap,0⟩ np,.bool n2,.loose ⟨1,1,aq,0⟩ nq],.agg [.bool n3,.loose ⟨2,1,au,0⟩ nu,.bool n4,.loose ⟨3,1,aw,0⟩ nw]],[[],[(0,(false,CB mp tp)),(1,(false,CB mq tq)),(2,(false,CB mu tu)),(3,(false,CB mw tw))]],4⟩ (zr 4 [] fS fT)=
 Te526 fR fT n1 ap np mp tp n2 aq nq mq tq n3 au nu mu tu n4 aw nw mw tw:=by kernel_rfl
noncomputable abbrev J526:Rt526→zS:=fun r=> [yC (4+1) ((N526) r)++ [(0,(false,CB mp tp)),(1,(false,CB mq tq)),(2,(false,CB mu tu)),(3,(false,CB mw tw))]]
attribute [local irreducible] Int.subNatNat in
theorem a526 {r:Rt526} (h:zY ((q526 n1 ap np mp tp n2 aq nq mq tq n3 au nu mu tu n4 aw nw mw tw)) ((p526 n1 ap np mp tp n2 aq nq mq tq n3 au nu mu tu n4 aw nw mw tw)) r):zn Tryz.prog 26 [.agg [.bool n1,.loose ⟨0,1,ap,0⟩ np,.bool n2,.loose ⟨1,1,aq,0⟩ nq],.agg [.bool n3,.loose ⟨2,1,au,0⟩ nu,.bool n4,.loose ⟨3,1,aw,0⟩ nw]] [[(0,(false,CB mp tp)),(1,(false,CB mq tq)),(2,(false,CB mu tu)),(3,(false,CB mw tw))]] 4 ((V526) r) ((J526 mp tp mq tq mu tu mw tw) r) 400∧HB Tryz.prog 26:=by
 refine zf Tryz.envOk Tryz.mixed kJ ((I526)) ((V526)) (J526 mp tp mq tq mu tu mw tw) (fn:=zU Tryz.f26) (ts:= []) (n:=400) rfl (by decide) (by simp) (zW rfl) ?_ ?_ ?_ h
 · intro s; exact s.elim
 · intro fS fT x hS hR h
   refine Holds.eq (te526 cond fS fT n1 ap np mp tp n2 aq nq mq tq n3 au nu mu tu n4 aw nw mw tw) ?_
   unfold Te526
   unfold p526 at h
   refine zA h (fun c0 h=>zA h (fun c1 h=>zA h (fun c2 h=>zA h (fun c3 h=>zA h (fun c4 h=>zV hR _ h (fun n=>bif Nat.beq n 5 then 10 else bif Nat.beq n 6 then 11 else n) rfl rfl rfl (zk ⟨(zc ⟨(zj rfl),(zX (zD rfl) rfl rfl),(zj rfl),(zX (zD rfl) rfl rfl),trivial⟩),(zI rfl),trivial⟩) rfl (zL (zD rfl) rfl (Nat.le_of_eq rfl) (zN (fun _ _=>rfl) zM) (zL (zD rfl) rfl (Nat.le_of_eq rfl) (zN (fun _ _=>rfl) zM) (zB (zC rfl) rfl rfl (zB (zC rfl) rfl rfl (zB (zC rfl) rfl rfl (zB (zC rfl) rfl rfl zE))))))) (fun c4 h=> ?_)) (fun c3 h=> ?_)) (fun c2 h=> ?_)) (fun c1 h=> ?_)) (fun c0 h=> ?_)
   all_goals first
     |exact zF h
     |exact zV hR _ h (fun n=>bif Nat.beq n 5 then 399 else bif Nat.beq n 6 then 398 else n) rfl rfl rfl (zk ⟨(zc ⟨(zR rfl),(zO rfl),(zR rfl),(zO rfl),trivial⟩),(zI rfl),trivial⟩) rfl (zT (zD rfl) (za rfl) (zT (zD rfl) (za rfl) (zB (zC rfl) rfl rfl (zB (zC rfl) rfl rfl (zB (zC rfl) rfl rfl (zB (zC rfl) rfl rfl zE))))))
 · intro fS fT x hS hR s h; exact s.elim
end
noncomputable def k526:Con:=⟨26,[.agg [.plain (.bool),.list [.int .i64],.plain (.bool),.list [.int .i64]],.agg [.plain (.bool),.list [.int .i64],.plain (.bool),.list [.int .i64]]],w518 (fun n1 ap np mp tp n2 aq nq mq tq n3 au nu mu tu n4 aw nw mw tw=>decide (((ap+np≤mp∧np≤1000000)∧aq+nq≤mq∧nq≤1000000)∧(au+nu≤mu∧nu≤1000000)∧aw+nw≤mw∧nw≤1000000)),w518 (fun n1 ap np mp tp n2 aq nq mq tq n3 au nu mu tu n4 aw nw mw tw=>(V526) (S.eJ n1 np (FS tp ap) n2 nq (FS tq aq) n3 nu (FS tu au) n4 nw (FS tw aw))),w518 (fun n1 ap np mp tp n2 aq nq mq tq n3 au nu mu tu n4 aw nw mw tw=>(N526) (S.eJ n1 np (FS tp ap) n2 nq (FS tq aq) n3 nu (FS tu au) n4 nw (FS tw aw))),fun _ _=> .dead⟩
theorem s526 (n1:Bool) (ap np mp:Nat) (tp:Nat→Int) (n2:Bool) (aq nq mq:Nat) (tq:Nat→Int) (n3:Bool) (au nu mu:Nat) (tu:Nat→Int) (n4:Bool) (aw nw mw:Nat) (tw:Nat→Int) (hp:((ap+np≤mp∧np≤1000000)∧aq+nq≤mq∧nq≤1000000)∧(au+nu≤mu∧nu≤1000000)∧aw+nw≤mw∧nw≤1000000):zY ((q526 n1 ap np mp tp n2 aq nq mq tq n3 au nu mu tu n4 aw nw mw tw)) ((p526 n1 ap np mp tp n2 aq nq mq tq n3 au nu mu tu n4 aw nw mw tw)) (((S.eJ n1 np (fun j=>tp (j+ap)) n2 nq (fun j=>tq (j+aq)) n3 nu (fun j=>tu (j+au)) n4 nw (fun j=>tw (j+aw))).1,(S.eJ n1 np (fun j=>tp (j+ap)) n2 nq (fun j=>tq (j+aq)) n3 nu (fun j=>tu (j+au)) n4 nw (fun j=>tw (j+aw))).2.1,(S.eJ n1 np (fun j=>tp (j+ap)) n2 nq (fun j=>tq (j+aq)) n3 nu (fun j=>tu (j+au)) n4 nw (fun j=>tw (j+aw))).2.2.1,(S.eJ n1 np (fun j=>tp (j+ap)) n2 nq (fun j=>tq (j+aq)) n3 nu (fun j=>tu (j+au)) n4 nw (fun j=>tw (j+aw))).2.2.2.1,(S.eJ n1 np (fun j=>tp (j+ap)) n2 nq (fun j=>tq (j+aq)) n3 nu (fun j=>tu (j+au)) n4 nw (fun j=>tw (j+aw))).2.2.2.2)):=by
 obtain ⟨⟨⟨hp1,hp2⟩,hp3,hp4⟩,⟨hp5,hp6⟩,hp7,hp8⟩:=hp
 unfold S.eJ S.opR p526
 with_reducible refine zH (decide_eq_true ⟨⟨hp1,hp2⟩,hp3,hp4⟩) ?_
 by_cases g1:S.fY n1 np (fun j=>tp (j+ap)) n2 nq (fun j=>tq (j+aq))=true
 rotate_left
 · rw [if_neg fun h=>g1 h.1]
   with_reducible refine zb (Bool.not_eq_true _ ▸ g1) ?_
   exact zG.mpr rfl
 with_reducible refine zH g1 ?_
 with_reducible refine zH (decide_eq_true ⟨⟨hp5,hp6⟩,hp7,hp8⟩) ?_
 by_cases g2:S.fY n3 nu (fun j=>tu (j+au)) n4 nw (fun j=>tw (j+aw))=true
 rotate_left
 · rw [if_neg fun h=>g2 h.2]
   with_reducible refine zb (Bool.not_eq_true _ ▸ g2) ?_
   exact zG.mpr rfl
 with_reducible refine zH g2 ?_
 rw [if_pos ⟨g1,g2⟩]
 obtain ⟨a1,a2,a3,a4,-⟩:=yf.mp g1
 obtain ⟨b1,b2,b3,b4,-⟩:=yf.mp g2
 have p1:=xI a2 a3 a4
 have p2:=xI b2 b3 b4
 with_reducible refine zH (decide_eq_true ⟨⟨⟨⟨hp1,hp2⟩,hp3,hp4⟩,⟨hp5,hp6⟩,hp7,hp8⟩,⟨a1,a2,a3,a4⟩,b1,b2,b3,b4⟩) ?_
 exact zG.mpr rfl
theorem k526_ok:k526.ok Tryz.prog:=by
 intro x hx
 obtain ⟨⟨n1,⟨ap,np,mp,tp,_⟩,n2,⟨aq,nq,mq,tq,_⟩,_⟩,⟨n3,⟨au,nu,mu,tu,_⟩,n4,⟨aw,nw,mw,tw,_⟩,_⟩,_⟩:=x
 obtain ⟨h1,h2⟩:=a526 n1 ap np mp tp n2 aq nq mq tq n3 au nu mu tu n4 aw nw mw tw (s526 n1 ap np mp tp n2 aq nq mq tq n3 au nu mu tu n4 aw nw mw tw (zm hx rfl))
 exact ⟨⟨400,(by decide:4+1+2≤400),h1⟩,h2⟩
section
variable (fR:TT) (fS:KS) (fT:KR) (n1:Bool) (ap np mp:Nat) (tp:NI) (n2:Bool) (aq nq mq:Nat) (tq:NI) (n3:Bool) (au nu mu:Nat) (tu:NI) (n4:Bool) (aw nw mw:Nat) (tw:NI)
noncomputable abbrev c528_e_0:=S.eE (S.sv n1 (S.val np fun j=>tp (j+ap))) (S.sv n2 (S.val nq fun j=>tq (j+aq))) (S.sv false (S.val nu fun j=>tu (j+au))) (S.sv n4 (S.val nw fun j=>tw (j+aw)))
noncomputable abbrev c528_e_1:=S.eE (S.sv n1 (S.val np fun j=>tp (j+ap))) (S.sv n2 (S.val nq fun j=>tq (j+aq))) (S.sv true (S.val nu fun j=>tu (j+au))) (S.sv n4 (S.val nw fun j=>tw (j+aw)))
noncomputable abbrev c528_e_2:=decide ((((ap+np≤mp∧np≤1000000)∧aq+nq≤mq∧nq≤1000000)∧(au+nu≤mu∧nu≤1000000)∧aw+nw≤mw∧nw≤1000000)∧((S.fV n1 np fun j=>tp (j+ap))=true∧(S.fV n2 nq fun j=>tq (j+aq))=true∧n2=false∧0<nq)∧(S.fV false nu fun j=>tu (j+au))=true∧(S.fV n4 nw fun j=>tw (j+aw))=true∧n4=false∧0<nw)
abbrev St528:=Empty
abbrev Rt528:=Bool×Bool×Int×List Int×List Int
noncomputable def V528 (r:Rt528):PV:= .tup [.agg [.bool r.1,.own 5 1 r.2.2.2.1.length,.bool r.2.1,.own 6 1 r.2.2.2.2.length],.int .i64 r.2.2.1]
noncomputable def N528 (r:Rt528):List Blk:= [CI r.2.2.2.1,CI r.2.2.2.2]
noncomputable def I528:St528→Hd:=fun s=>s.elim
noncomputable def q528 (n1:Bool) (ap np mp:Nat) (tp:NI) (n2:Bool) (aq nq mq:Nat) (tq:NI) (n3:Bool) (au nu mu:Nat) (tu:NI) (n4:Bool) (aw nw mw:Nat) (tw:NI):St528→Option (St528⊕Rt528):=fun s=>s.elim
noncomputable def p528 (n1:Bool) (ap np mp:Nat) (tp:NI) (n2:Bool) (aq nq mq:Nat) (tq:NI) (n3:Bool) (au nu mu:Nat) (tu:NI) (n4:Bool) (aw nw mw:Nat) (tw:NI):Option (St528⊕Rt528):=bif (decide ((ap+np≤mp∧np≤1000000)∧aq+nq≤mq∧nq≤1000000)) then (bif (S.fY n1 np (fun j=>tp (j+ap)) n2 nq fun j=>tq (j+aq)) then (bif (decide ((au+nu≤mu∧nu≤1000000)∧aw+nw≤mw∧nw≤1000000)) then (bif (S.fY n3 nu (fun j=>tu (j+au)) n4 nw fun j=>tw (j+aw)) then (bif n3 then (bif (c528_e_2 n1 ap np mp tp n2 aq nq mq tq au nu mu tu n4 aw nw mw tw) then (some (.inr ((c528_e_0 n1 ap np tp n2 aq nq tq au nu tu n4 aw nw tw).1,(c528_e_0 n1 ap np tp n2 aq nq tq au nu tu n4 aw nw tw).2.1,(c528_e_0 n1 ap np tp n2 aq nq tq au nu tu n4 aw nw tw).2.2.1,(c528_e_0 n1 ap np tp n2 aq nq tq au nu tu n4 aw nw tw).2.2.2.1,(c528_e_0 n1 ap np tp n2 aq nq tq au nu tu n4 aw nw tw).2.2.2.2))) else none) else (bif ((nu:Int)==0) then (bif (c528_e_2 n1 ap np mp tp n2 aq nq mq tq au nu mu tu n4 aw nw mw tw) then (some (.inr ((c528_e_0 n1 ap np tp n2 aq nq tq au nu tu n4 aw nw tw).1,(c528_e_0 n1 ap np tp n2 aq nq tq au nu tu n4 aw nw tw).2.1,(c528_e_0 n1 ap np tp n2 aq nq tq au nu tu n4 aw nw tw).2.2.1,(c528_e_0 n1 ap np tp n2 aq nq tq au nu tu n4 aw nw tw).2.2.2.1,(c528_e_0 n1 ap np tp n2 aq nq tq au nu tu n4 aw nw tw).2.2.2.2))) else none) else (bif (decide ((((ap+np≤mp∧np≤1000000)∧aq+nq≤mq∧nq≤1000000)∧(au+nu≤mu∧nu≤1000000)∧aw+nw≤mw∧nw≤1000000)∧((S.fV n1 np fun j=>tp (j+ap))=true∧(S.fV n2 nq fun j=>tq (j+aq))=true∧n2=false∧0<nq)∧(S.fV true nu fun j=>tu (j+au))=true∧(S.fV n4 nw fun j=>tw (j+aw))=true∧n4=false∧0<nw)) then (some (.inr ((c528_e_1 n1 ap np tp n2 aq nq tq au nu tu n4 aw nw tw).1,(c528_e_1 n1 ap np tp n2 aq nq tq au nu tu n4 aw nw tw).2.1,(c528_e_1 n1 ap np tp n2 aq nq tq au nu tu n4 aw nw tw).2.2.1,(c528_e_1 n1 ap np tp n2 aq nq tq au nu tu n4 aw nw tw).2.2.2.1,(c528_e_1 n1 ap np tp n2 aq nq tq au nu tu n4 aw nw tw).2.2.2.2))) else none))) else (some (.inr (false,false,(1:Int),[],[])))) else none) else (some (.inr (false,false,(1:Int),[],[])))) else none
def Te528:Prop:=fR (decide ((ap+np≤mp∧np≤1000000)∧aq+nq≤mq∧nq≤1000000)) (fR (S.fY n1 np (FS tp ap) n2 nq (FS tq aq)) (fR (decide ((au+nu≤mu∧nu≤1000000)∧aw+nw≤mw∧nw≤1000000)) (fR (S.fY n3 nu (FS tu au) n4 nw (FS tw aw)) (fR n3 (fR (c528_e_2 n1 ap np mp tp n2 aq nq mq tq au nu mu tu n4 aw nw mw tw) (fT (.tup [.agg [.bool (c528_e_0 n1 ap np tp n2 aq nq tq au nu tu n4 aw nw tw).1,.own 12 1 (c528_e_0 n1 ap np tp n2 aq nq tq au nu tu n4 aw nw tw).2.2.2.1.length,.bool (c528_e_0 n1 ap np tp n2 aq nq tq au nu tu n4 aw nw tw).2.1,.own 13 1 (c528_e_0 n1 ap np tp n2 aq nq tq au nu tu n4 aw nw tw).2.2.2.2.length],.int .i64 (c528_e_0 n1 ap np tp n2 aq nq tq au nu tu n4 aw nw tw).2.2.1]) ([[(3,false,CB mw tw),(2,false,CB mu tu),(1,false,CB mq tq),(0,false,CB mp tp),(13,true,CI (c528_e_0 n1 ap np tp n2 aq nq tq au nu tu n4 aw nw tw).2.2.2.2),(12,true,CI (c528_e_0 n1 ap np tp n2 aq nq tq au nu tu n4 aw nw tw).2.2.2.1)]]) 14) False) (fR ((nu:Int)==0) (fR (c528_e_2 n1 ap np mp tp n2 aq nq mq tq au nu mu tu n4 aw nw mw tw) (fT (.tup [.agg [.bool (c528_e_0 n1 ap np tp n2 aq nq tq au nu tu n4 aw nw tw).1,.own 13 1 (c528_e_0 n1 ap np tp n2 aq nq tq au nu tu n4 aw nw tw).2.2.2.1.length,.bool (c528_e_0 n1 ap np tp n2 aq nq tq au nu tu n4 aw nw tw).2.1,.own 14 1 (c528_e_0 n1 ap np tp n2 aq nq tq au nu tu n4 aw nw tw).2.2.2.2.length],.int .i64 (c528_e_0 n1 ap np tp n2 aq nq tq au nu tu n4 aw nw tw).2.2.1]) ([[(3,false,CB mw tw),(2,false,CB mu tu),(1,false,CB mq tq),(0,false,CB mp tp),(14,true,CI (c528_e_0 n1 ap np tp n2 aq nq tq au nu tu n4 aw nw tw).2.2.2.2),(13,true,CI (c528_e_0 n1 ap np tp n2 aq nq tq au nu tu n4 aw nw tw).2.2.2.1)]]) 15) False) (fR (decide ((((ap+np≤mp∧np≤1000000)∧aq+nq≤mq∧nq≤1000000)∧(au+nu≤mu∧nu≤1000000)∧aw+nw≤mw∧nw≤1000000)∧((S.fV n1 np (FS tp ap))=true∧(S.fV n2 nq (FS tq aq))=true∧n2=false∧0<nq)∧(S.fV true nu (FS tu au))=true∧(S.fV n4 nw (FS tw aw))=true∧n4=false∧0<nw)) (fT (.tup [.agg [.bool (c528_e_1 n1 ap np tp n2 aq nq tq au nu tu n4 aw nw tw).1,.own 13 1 (c528_e_1 n1 ap np tp n2 aq nq tq au nu tu n4 aw nw tw).2.2.2.1.length,.bool (c528_e_1 n1 ap np tp n2 aq nq tq au nu tu n4 aw nw tw).2.1,.own 14 1 (c528_e_1 n1 ap np tp n2 aq nq tq au nu tu n4 aw nw tw).2.2.2.2.length],.int .i64 (c528_e_1 n1 ap np tp n2 aq nq tq au nu tu n4 aw nw tw).2.2.1]) ([[(3,false,CB mw tw),(2,false,CB mu tu),(1,false,CB mq tq),(0,false,CB mp tp),(14,true,CI (c528_e_1 n1 ap np tp n2 aq nq tq au nu tu n4 aw nw tw).2.2.2.2),(13,true,CI (c528_e_1 n1 ap np tp n2 aq nq tq au nu tu n4 aw nw tw).2.2.2.1)]]) 15) False))) (fT (.tup [.agg [.tf false,.nils,.tf false,.nils],.int .i64 1]) ([[(3,false,CB mw tw),(2,false,CB mu tu),(1,false,CB mq tq),(0,false,CB mp tp)]]) 9)) False) (fT (.tup [.agg [.tf false,.nils,.tf false,.nils],.int .i64 1]) ([[(3,false,CB mw tw),(2,false,CB mu tu),(1,false,CB mq tq),(0,false,CB mp tp)]]) 8)) False
theorem te528:run fR Tryz.env true (xR9 fR) true 400 ⟨28,[.cd (zU Tryz.f28).body],z8 0 [.agg [.bool n1,.loose ⟨0,1,ap,0⟩ np,.bool n2,.loose ⟨1,1,aq,0⟩ nq],.agg [.bool n3,.loose ⟨2,1,au,0⟩ nu,.bool n4,.loose ⟨3,1,aw,0⟩ nw]],[[],[(0,(false,CB mp tp)),(1,(false,CB mq tq)),(2,(false,CB mu tu)),(3,(false,CB mw tw))]],4⟩ (zr 4 [] fS fT)=
 Te528 fR fT n1 ap np mp tp n2 aq nq mq tq n3 au nu mu tu n4 aw nw mw tw:=by kernel_rfl
noncomputable abbrev J528:Rt528→zS:=fun r=> [yC (4+1) ((N528) r)++ [(0,(false,CB mp tp)),(1,(false,CB mq tq)),(2,(false,CB mu tu)),(3,(false,CB mw tw))]]
attribute [local irreducible] Int.subNatNat in
theorem a528 {r:Rt528} (h:zY ((q528 n1 ap np mp tp n2 aq nq mq tq n3 au nu mu tu n4 aw nw mw tw)) ((p528 n1 ap np mp tp n2 aq nq mq tq n3 au nu mu tu n4 aw nw mw tw)) r):zn Tryz.prog 28 [.agg [.bool n1,.loose ⟨0,1,ap,0⟩ np,.bool n2,.loose ⟨1,1,aq,0⟩ nq],.agg [.bool n3,.loose ⟨2,1,au,0⟩ nu,.bool n4,.loose ⟨3,1,aw,0⟩ nw]] [[(0,(false,CB mp tp)),(1,(false,CB mq tq)),(2,(false,CB mu tu)),(3,(false,CB mw tw))]] 4 ((V528) r) ((J528 mp tp mq tq mu tu mw tw) r) 400∧HB Tryz.prog 28:=by
 refine zf Tryz.envOk Tryz.mixed kJ ((I528)) ((V528)) (J528 mp tp mq tq mu tu mw tw) (fn:=zU Tryz.f28) (ts:= []) (n:=400) rfl (by decide) (by simp) (zW rfl) ?_ ?_ ?_ h
 · intro s; exact s.elim
 · intro fS fT x hS hR h
   refine Holds.eq (te528 cond fS fT n1 ap np mp tp n2 aq nq mq tq n3 au nu mu tu n4 aw nw mw tw) ?_
   unfold Te528
   unfold p528 at h
   refine zA h (fun c0 h=>zA h (fun c1 h=>zA h (fun c2 h=>zA h (fun c3 h=>zA h (fun c4 h=>zA h (fun c5 h=>zV hR _ h (fun n=>bif Nat.beq n 5 then 12 else bif Nat.beq n 6 then 13 else n) rfl rfl rfl (zk ⟨(zc ⟨(zj rfl),(zX (zD rfl) rfl rfl),(zj rfl),(zX (zD rfl) rfl rfl),trivial⟩),(zI rfl),trivial⟩) rfl (zL (zD rfl) rfl (Nat.le_of_eq rfl) (zN (fun _ _=>rfl) zM) (zL (zD rfl) rfl (Nat.le_of_eq rfl) (zN (fun _ _=>rfl) zM) (zB (zC rfl) rfl rfl (zB (zC rfl) rfl rfl (zB (zC rfl) rfl rfl (zB (zC rfl) rfl rfl zE))))))) (fun c5 h=> ?_)) (fun c4 h=>zA h (fun c5 h=>zA h (fun c6 h=> ?_) (fun c6 h=> ?_)) (fun c5 h=>zA h (fun c6 h=> ?_) (fun c6 h=> ?_)))) (fun c3 h=> ?_)) (fun c2 h=> ?_)) (fun c1 h=> ?_)) (fun c0 h=> ?_)
   all_goals first
     |exact zF h
     |exact zV hR _ h (fun n=>bif Nat.beq n 5 then 13 else bif Nat.beq n 6 then 14 else n) rfl rfl rfl (zk ⟨(zc ⟨(zj rfl),(zX (zD rfl) rfl rfl),(zj rfl),(zX (zD rfl) rfl rfl),trivial⟩),(zI rfl),trivial⟩) rfl (zL (zD rfl) rfl (Nat.le_of_eq rfl) (zN (fun _ _=>rfl) zM) (zL (zD rfl) rfl (Nat.le_of_eq rfl) (zN (fun _ _=>rfl) zM) (zB (zC rfl) rfl rfl (zB (zC rfl) rfl rfl (zB (zC rfl) rfl rfl (zB (zC rfl) rfl rfl zE))))))
     |exact zV hR _ h (fun n=>bif Nat.beq n 5 then 399 else bif Nat.beq n 6 then 398 else n) rfl rfl rfl (zk ⟨(zc ⟨(zR rfl),(zO rfl),(zR rfl),(zO rfl),trivial⟩),(zI rfl),trivial⟩) rfl (zT (zD rfl) (za rfl) (zT (zD rfl) (za rfl) (zB (zC rfl) rfl rfl (zB (zC rfl) rfl rfl (zB (zC rfl) rfl rfl (zB (zC rfl) rfl rfl zE))))))
 · intro fS fT x hS hR s h; exact s.elim
end
end Go.Ev
