/-
  The um that the statement needs, 5 of 5.
-/
import Derived.Test.YtblfgknonjogfaaGreatDoorY5064
namespace Go.Ev
open Go.Proofs
open Go.RowKit
set_option linter.unusedVariables false
set_option linter.unusedSimpArgs false
set_option maxRecDepth 100000
noncomputable def k528:Con:=⟨28,[.agg [.plain (.bool),.list [.int .i64],.plain (.bool),.list [.int .i64]],.agg [.plain (.bool),.list [.int .i64],.plain (.bool),.list [.int .i64]]],w518 (fun n1 ap np mp tp n2 aq nq mq tq n3 au nu mu tu n4 aw nw mw tw=>decide (((ap+np≤mp∧np≤1000000)∧aq+nq≤mq∧nq≤1000000)∧(au+nu≤mu∧nu≤1000000)∧aw+nw≤mw∧nw≤1000000)),w518 (fun n1 ap np mp tp n2 aq nq mq tq n3 au nu mu tu n4 aw nw mw tw=>(V528) (S.eK n1 np (FS tp ap) n2 nq (FS tq aq) n3 nu (FS tu au) n4 nw (FS tw aw))),w518 (fun n1 ap np mp tp n2 aq nq mq tq n3 au nu mu tu n4 aw nw mw tw=>(N528) (S.eK n1 np (FS tp ap) n2 nq (FS tq aq) n3 nu (FS tu au) n4 nw (FS tw aw))),fun _ _=> .dead⟩
theorem s528 (n1:Bool) (ap np mp:Nat) (tp:Nat→Int) (n2:Bool) (aq nq mq:Nat) (tq:Nat→Int) (n3:Bool) (au nu mu:Nat) (tu:Nat→Int) (n4:Bool) (aw nw mw:Nat) (tw:Nat→Int) (hp:((ap+np≤mp∧np≤1000000)∧aq+nq≤mq∧nq≤1000000)∧(au+nu≤mu∧nu≤1000000)∧aw+nw≤mw∧nw≤1000000):zY ((q528 n1 ap np mp tp n2 aq nq mq tq n3 au nu mu tu n4 aw nw mw tw)) ((p528 n1 ap np mp tp n2 aq nq mq tq n3 au nu mu tu n4 aw nw mw tw)) (((S.eK n1 np (fun j=>tp (j+ap)) n2 nq (fun j=>tq (j+aq)) n3 nu (fun j=>tu (j+au)) n4 nw (fun j=>tw (j+aw))).1,(S.eK n1 np (fun j=>tp (j+ap)) n2 nq (fun j=>tq (j+aq)) n3 nu (fun j=>tu (j+au)) n4 nw (fun j=>tw (j+aw))).2.1,(S.eK n1 np (fun j=>tp (j+ap)) n2 nq (fun j=>tq (j+aq)) n3 nu (fun j=>tu (j+au)) n4 nw (fun j=>tw (j+aw))).2.2.1,(S.eK n1 np (fun j=>tp (j+ap)) n2 nq (fun j=>tq (j+aq)) n3 nu (fun j=>tu (j+au)) n4 nw (fun j=>tw (j+aw))).2.2.2.1,(S.eK n1 np (fun j=>tp (j+ap)) n2 nq (fun j=>tq (j+aq)) n3 nu (fun j=>tu (j+au)) n4 nw (fun j=>tw (j+aw))).2.2.2.2)):=by
 obtain ⟨⟨⟨hp1,hp2⟩,hp3,hp4⟩,⟨hp5,hp6⟩,hp7,hp8⟩:=hp
 unfold S.eK S.opR p528
 with_reducible refine zH (decide_eq_true ⟨⟨hp1,hp2⟩,hp3,hp4⟩) ?_
 by_cases g1:S.fY n1 np (fun j=>tp (j+ap)) n2 nq (fun j=>tq (j+aq))=true
 rotate_left
 · rw [if_neg fun h=>g1 h.1]
   with_reducible refine zb (Bool.not_eq_true _ ▸ g1) ?_
   exact zG.mpr rfl
 with_reducible refine zH g1 ?_
 with_reducible refine zH (decide_eq_true ⟨⟨hp5,hp6⟩,hp7,hp8⟩) ?_
 by_cases g2:S.fY n3 nu (fun j=>tu (j+au)) n4 nw (fun j=>tw (j+aw))=true
 rotate_left
 · rw [if_neg fun h=>g2 h.2]
   with_reducible refine zb (Bool.not_eq_true _ ▸ g2) ?_
   exact zG.mpr rfl
 with_reducible refine zH g2 ?_
 rw [if_pos ⟨g1,g2⟩]
 obtain ⟨a1,a2,a3,a4,-⟩:=yf.mp g1
 obtain ⟨b1,b2,b3,b4,-⟩:=yf.mp g2
 have p1:=xI a2 a3 a4
 have p2:=xI b2 b3 b4
 cases n3
 rotate_left
 · have e: -(S.sv true (S.val nu (fun j=>tu (j+au))))=S.sv false (S.val nu (fun j=>tu (j+au))):=Int.neg_neg _
   have bf:=pX (d:=false) b1 (.inr rfl)
   with_reducible refine zH rfl ?_
   with_reducible refine zH (decide_eq_true ⟨⟨⟨⟨hp1,hp2⟩,hp3,hp4⟩,⟨hp5,hp6⟩,hp7,hp8⟩,⟨a1,a2,a3,a4⟩,bf,b2,b3,b4⟩) ?_
   exact zG.mpr (by show _=((S.eE (S.sv n1 (S.val np (fun j=>tp (j+ap)))) (S.sv n2 (S.val nq (fun j=>tq (j+aq)))) (-(S.sv true (S.val nu (fun j=>tu (j+au))))) (S.sv n4 (S.val nw (fun j=>tw (j+aw))))).1,(S.eE (S.sv n1 (S.val np (fun j=>tp (j+ap)))) (S.sv n2 (S.val nq (fun j=>tq (j+aq)))) (-(S.sv true (S.val nu (fun j=>tu (j+au))))) (S.sv n4 (S.val nw (fun j=>tw (j+aw))))).2.1,(S.eE (S.sv n1 (S.val np (fun j=>tp (j+ap)))) (S.sv n2 (S.val nq (fun j=>tq (j+aq)))) (-(S.sv true (S.val nu (fun j=>tu (j+au))))) (S.sv n4 (S.val nw (fun j=>tw (j+aw))))).2.2.1,(S.eE (S.sv n1 (S.val np (fun j=>tp (j+ap)))) (S.sv n2 (S.val nq (fun j=>tq (j+aq)))) (-(S.sv true (S.val nu (fun j=>tu (j+au))))) (S.sv n4 (S.val nw (fun j=>tw (j+aw))))).2.2.2.1,(S.eE (S.sv n1 (S.val np (fun j=>tp (j+ap)))) (S.sv n2 (S.val nq (fun j=>tq (j+aq)))) (-(S.sv true (S.val nu (fun j=>tu (j+au))))) (S.sv n4 (S.val nw (fun j=>tw (j+aw))))).2.2.2.2); rw [e])
 with_reducible refine zb rfl ?_
 by_cases h0:nu=0
 · have e: -(S.sv false (S.val nu (fun j=>tu (j+au))))=S.sv false (S.val nu (fun j=>tu (j+au))):=by subst h0; rfl
   with_reducible refine zH (beq_iff_eq.mpr (by omega)) ?_
   with_reducible refine zH (decide_eq_true ⟨⟨⟨⟨hp1,hp2⟩,hp3,hp4⟩,⟨hp5,hp6⟩,hp7,hp8⟩,⟨a1,a2,a3,a4⟩,b1,b2,b3,b4⟩) ?_
   exact zG.mpr (by show _=((S.eE (S.sv n1 (S.val np (fun j=>tp (j+ap)))) (S.sv n2 (S.val nq (fun j=>tq (j+aq)))) (-(S.sv false (S.val nu (fun j=>tu (j+au))))) (S.sv n4 (S.val nw (fun j=>tw (j+aw))))).1,(S.eE (S.sv n1 (S.val np (fun j=>tp (j+ap)))) (S.sv n2 (S.val nq (fun j=>tq (j+aq)))) (-(S.sv false (S.val nu (fun j=>tu (j+au))))) (S.sv n4 (S.val nw (fun j=>tw (j+aw))))).2.1,(S.eE (S.sv n1 (S.val np (fun j=>tp (j+ap)))) (S.sv n2 (S.val nq (fun j=>tq (j+aq)))) (-(S.sv false (S.val nu (fun j=>tu (j+au))))) (S.sv n4 (S.val nw (fun j=>tw (j+aw))))).2.2.1,(S.eE (S.sv n1 (S.val np (fun j=>tp (j+ap)))) (S.sv n2 (S.val nq (fun j=>tq (j+aq)))) (-(S.sv false (S.val nu (fun j=>tu (j+au))))) (S.sv n4 (S.val nw (fun j=>tw (j+aw))))).2.2.2.1,(S.eE (S.sv n1 (S.val np (fun j=>tp (j+ap)))) (S.sv n2 (S.val nq (fun j=>tq (j+aq)))) (-(S.sv false (S.val nu (fun j=>tu (j+au))))) (S.sv n4 (S.val nw (fun j=>tw (j+aw))))).2.2.2.2); rw [e])
 · have e: -(S.sv false (S.val nu (fun j=>tu (j+au))))=S.sv true (S.val nu (fun j=>tu (j+au))):=rfl
   have bf:=pX (d:=true) b1 (.inl (by omega))
   with_reducible refine zb (beq_eq_false_iff_ne.mpr (by omega)) ?_
   with_reducible refine zH (decide_eq_true ⟨⟨⟨⟨hp1,hp2⟩,hp3,hp4⟩,⟨hp5,hp6⟩,hp7,hp8⟩,⟨a1,a2,a3,a4⟩,bf,b2,b3,b4⟩) ?_
   exact zG.mpr (by show _=((S.eE (S.sv n1 (S.val np (fun j=>tp (j+ap)))) (S.sv n2 (S.val nq (fun j=>tq (j+aq)))) (-(S.sv false (S.val nu (fun j=>tu (j+au))))) (S.sv n4 (S.val nw (fun j=>tw (j+aw))))).1,(S.eE (S.sv n1 (S.val np (fun j=>tp (j+ap)))) (S.sv n2 (S.val nq (fun j=>tq (j+aq)))) (-(S.sv false (S.val nu (fun j=>tu (j+au))))) (S.sv n4 (S.val nw (fun j=>tw (j+aw))))).2.1,(S.eE (S.sv n1 (S.val np (fun j=>tp (j+ap)))) (S.sv n2 (S.val nq (fun j=>tq (j+aq)))) (-(S.sv false (S.val nu (fun j=>tu (j+au))))) (S.sv n4 (S.val nw (fun j=>tw (j+aw))))).2.2.1,(S.eE (S.sv n1 (S.val np (fun j=>tp (j+ap)))) (S.sv n2 (S.val nq (fun j=>tq (j+aq)))) (-(S.sv false (S.val nu (fun j=>tu (j+au))))) (S.sv n4 (S.val nw (fun j=>tw (j+aw))))).2.2.2.1,(S.eE (S.sv n1 (S.val np (fun j=>tp (j+ap)))) (S.sv n2 (S.val nq (fun j=>tq (j+aq)))) (-(S.sv false (S.val nu (fun j=>tu (j+au))))) (S.sv n4 (S.val nw (fun j=>tw (j+aw))))).2.2.2.2); rw [e])
theorem k528_ok:k528.ok Tryz.prog:=by
 intro x hx
 obtain ⟨⟨n1,⟨ap,np,mp,tp,_⟩,n2,⟨aq,nq,mq,tq,_⟩,_⟩,⟨n3,⟨au,nu,mu,tu,_⟩,n4,⟨aw,nw,mw,tw,_⟩,_⟩,_⟩:=x
 obtain ⟨h1,h2⟩:=a528 n1 ap np mp tp n2 aq nq mq tq n3 au nu mu tu n4 aw nw mw tw (s528 n1 ap np mp tp n2 aq nq mq tq n3 au nu mu tu n4 aw nw mw tw (zm hx rfl))
 exact ⟨⟨400,(by decide:4+1+2≤400),h1⟩,h2⟩
section
variable (fR:TT) (fS:KS) (fT:KR) (n1:Bool) (ap np mp:Nat) (tp:NI) (n2:Bool) (aq nq mq:Nat) (tq:NI) (n3:Bool) (au nu mu:Nat) (tu:NI) (n4:Bool) (aw nw mw:Nat) (tw:NI)
noncomputable abbrev c529_e_0:=S.eJ n1 np (fun j=>tp (j+ap)) n2 nq (fun j=>tq (j+aq)) (S.fy (!n3) (S.val nu fun j=>tu (j+au))) (S.f0 (S.val nu fun j=>tu (j+au))).length (fun j=>S.at' (S.f0 (S.val nu fun j=>tu (j+au))) j) n4 nw fun j=>tw (j+aw)
noncomputable abbrev c529_e_1:=0+(S.f0 (S.val nu fun j=>tu (j+au))).length≤(S.f0 (S.val nu fun j=>tu (j+au))).length∧(S.f0 (S.val nu fun j=>tu (j+au))).length≤1000000
abbrev St529:=Empty
abbrev Rt529:=Bool×Bool×Int×List Int×List Int
noncomputable def V529 (r:Rt529):PV:= .tup [.agg [.bool r.1,.own 5 1 r.2.2.2.1.length,.bool r.2.1,.own 6 1 r.2.2.2.2.length],.int .i64 r.2.2.1]
noncomputable def N529 (r:Rt529):List Blk:= [CI r.2.2.2.1,CI r.2.2.2.2]
noncomputable def I529:St529→Hd:=fun s=>s.elim
noncomputable def q529 (n1:Bool) (ap np mp:Nat) (tp:NI) (n2:Bool) (aq nq mq:Nat) (tq:NI) (n3:Bool) (au nu mu:Nat) (tu:NI) (n4:Bool) (aw nw mw:Nat) (tw:NI):St529→Option (St529⊕Rt529):=fun s=>s.elim
noncomputable def p529 (n1:Bool) (ap np mp:Nat) (tp:NI) (n2:Bool) (aq nq mq:Nat) (tq:NI) (n3:Bool) (au nu mu:Nat) (tu:NI) (n4:Bool) (aw nw mw:Nat) (tw:NI):Option (St529⊕Rt529):=bif (decide ((ap+np≤mp∧np≤1000000)∧aq+nq≤mq∧nq≤1000000)) then (bif (S.fY n1 np (fun j=>tp (j+ap)) n2 nq fun j=>tq (j+aq)) then (bif (decide ((au+nu≤mu∧nu≤1000000)∧aw+nw≤mw∧nw≤1000000)) then (bif (S.fY n3 nu (fun j=>tu (j+au)) n4 nw fun j=>tw (j+aw)) then (bif (decide ((au+nu≤mu∧nu≤1000000)∧(S.fX nu fun j=>tu (j+au))=true)) then (bif (decide (((ap+np≤mp∧np≤1000000)∧aq+nq≤mq∧nq≤1000000)∧(c529_e_1 au nu tu)∧aw+nw≤mw∧nw≤1000000)) then (some (.inr ((c529_e_0 n1 ap np tp n2 aq nq tq n3 au nu tu n4 aw nw tw).1,(c529_e_0 n1 ap np tp n2 aq nq tq n3 au nu tu n4 aw nw tw).2.1,(c529_e_0 n1 ap np tp n2 aq nq tq n3 au nu tu n4 aw nw tw).2.2.1,(c529_e_0 n1 ap np tp n2 aq nq tq n3 au nu tu n4 aw nw tw).2.2.2.1,(c529_e_0 n1 ap np tp n2 aq nq tq n3 au nu tu n4 aw nw tw).2.2.2.2))) else none) else none) else (some (.inr (false,false,(1:Int),[],[])))) else none) else (some (.inr (false,false,(1:Int),[],[])))) else none
def Te529:Prop:=fR (decide ((ap+np≤mp∧np≤1000000)∧aq+nq≤mq∧nq≤1000000)) (fR (S.fY n1 np (FS tp ap) n2 nq (FS tq aq)) (fR (decide ((au+nu≤mu∧nu≤1000000)∧aw+nw≤mw∧nw≤1000000)) (fR (S.fY n3 nu (FS tu au) n4 nw (FS tw aw)) (fR (decide ((au+nu≤mu∧nu≤1000000)∧(S.fX nu (FS tu au))=true)) (fR (decide (((ap+np≤mp∧np≤1000000)∧aq+nq≤mq∧nq≤1000000)∧(c529_e_1 au nu tu)∧aw+nw≤mw∧nw≤1000000)) (fT (.tup [.agg [.bool (c529_e_0 n1 ap np tp n2 aq nq tq n3 au nu tu n4 aw nw tw).1,.own 14 1 (c529_e_0 n1 ap np tp n2 aq nq tq n3 au nu tu n4 aw nw tw).2.2.2.1.length,.bool (c529_e_0 n1 ap np tp n2 aq nq tq n3 au nu tu n4 aw nw tw).2.1,.own 15 1 (c529_e_0 n1 ap np tp n2 aq nq tq n3 au nu tu n4 aw nw tw).2.2.2.2.length],.int .i64 (c529_e_0 n1 ap np tp n2 aq nq tq n3 au nu tu n4 aw nw tw).2.2.1]) ([[(3,false,CB mw tw),(2,false,CB mu tu),(1,false,CB mq tq),(0,false,CB mp tp),(15,true,CI (c529_e_0 n1 ap np tp n2 aq nq tq n3 au nu tu n4 aw nw tw).2.2.2.2),(14,true,CI (c529_e_0 n1 ap np tp n2 aq nq tq n3 au nu tu n4 aw nw tw).2.2.2.1)]]) 16) False) False) (fT (.tup [.agg [.tf false,.nils,.tf false,.nils],.int .i64 1]) ([[(3,false,CB mw tw),(2,false,CB mu tu),(1,false,CB mq tq),(0,false,CB mp tp)]]) 9)) False) (fT (.tup [.agg [.tf false,.nils,.tf false,.nils],.int .i64 1]) ([[(3,false,CB mw tw),(2,false,CB mu tu),(1,false,CB mq tq),(0,false,CB mp tp)]]) 8)) False
theorem te529:run fR Tryz.env true (g8 fR) true 400 ⟨29,[.cd (zU Tryz.f29).body],z8 0 [.agg [.bool n1,.loose ⟨0,1,ap,0⟩ np,.bool n2,.loose ⟨1,1,aq,0⟩ nq],.agg [.bool n3,.loose ⟨2,1,au,0⟩ nu,.bool n4,.loose ⟨3,1,aw,0⟩ nw]],[[],[(0,(false,CB mp tp)),(1,(false,CB mq tq)),(2,(false,CB mu tu)),(3,(false,CB mw tw))]],4⟩ (zr 4 [] fS fT)=
 Te529 fR fT n1 ap np mp tp n2 aq nq mq tq n3 au nu mu tu n4 aw nw mw tw:=by kernel_rfl
noncomputable abbrev J529:Rt529→zS:=fun r=> [yC (4+1) ((N529) r)++ [(0,(false,CB mp tp)),(1,(false,CB mq tq)),(2,(false,CB mu tu)),(3,(false,CB mw tw))]]
attribute [local irreducible] Int.subNatNat in
theorem a529 {r:Rt529} (h:zY ((q529 n1 ap np mp tp n2 aq nq mq tq n3 au nu mu tu n4 aw nw mw tw)) ((p529 n1 ap np mp tp n2 aq nq mq tq n3 au nu mu tu n4 aw nw mw tw)) r):zn Tryz.prog 29 [.agg [.bool n1,.loose ⟨0,1,ap,0⟩ np,.bool n2,.loose ⟨1,1,aq,0⟩ nq],.agg [.bool n3,.loose ⟨2,1,au,0⟩ nu,.bool n4,.loose ⟨3,1,aw,0⟩ nw]] [[(0,(false,CB mp tp)),(1,(false,CB mq tq)),(2,(false,CB mu tu)),(3,(false,CB mw tw))]] 4 ((V529) r) ((J529 mp tp mq tq mu tu mw tw) r) 400∧HB Tryz.prog 29:=by
 refine zf Tryz.envOk Tryz.mixed jd ((I529)) ((V529)) (J529 mp tp mq tq mu tu mw tw) (fn:=zU Tryz.f29) (ts:= []) (n:=400) rfl (by decide) (by simp) (zW rfl) ?_ ?_ ?_ h
 · intro s; exact s.elim
 · intro fS fT x hS hR h
   refine Holds.eq (te529 cond fS fT n1 ap np mp tp n2 aq nq mq tq n3 au nu mu tu n4 aw nw mw tw) ?_
   unfold Te529
   unfold p529 at h
   refine zA h (fun c0 h=>zA h (fun c1 h=>zA h (fun c2 h=>zA h (fun c3 h=>zA h (fun c4 h=>zA h (fun c5 h=>zV hR _ h (fun n=>bif Nat.beq n 5 then 14 else bif Nat.beq n 6 then 15 else n) rfl rfl rfl (zk ⟨(zc ⟨(zj rfl),(zX (zD rfl) rfl rfl),(zj rfl),(zX (zD rfl) rfl rfl),trivial⟩),(zI rfl),trivial⟩) rfl (zL (zD rfl) rfl (Nat.le_of_eq rfl) (zN (fun _ _=>rfl) zM) (zL (zD rfl) rfl (Nat.le_of_eq rfl) (zN (fun _ _=>rfl) zM) (zB (zC rfl) rfl rfl (zB (zC rfl) rfl rfl (zB (zC rfl) rfl rfl (zB (zC rfl) rfl rfl zE))))))) (fun c5 h=> ?_)) (fun c4 h=> ?_)) (fun c3 h=> ?_)) (fun c2 h=> ?_)) (fun c1 h=> ?_)) (fun c0 h=> ?_)
   all_goals first
     |exact zF h
     |exact zV hR _ h (fun n=>bif Nat.beq n 5 then 399 else bif Nat.beq n 6 then 398 else n) rfl rfl rfl (zk ⟨(zc ⟨(zR rfl),(zO rfl),(zR rfl),(zO rfl),trivial⟩),(zI rfl),trivial⟩) rfl (zT (zD rfl) (za rfl) (zT (zD rfl) (za rfl) (zB (zC rfl) rfl rfl (zB (zC rfl) rfl rfl (zB (zC rfl) rfl rfl (zB (zC rfl) rfl rfl zE))))))
 · intro fS fT x hS hR s h; exact s.elim
end
noncomputable def k529:Con:=⟨29,[.agg [.plain (.bool),.list [.int .i64],.plain (.bool),.list [.int .i64]],.agg [.plain (.bool),.list [.int .i64],.plain (.bool),.list [.int .i64]]],w518 (fun n1 ap np mp tp n2 aq nq mq tq n3 au nu mu tu n4 aw nw mw tw=>decide (((ap+np≤mp∧np≤1000000)∧aq+nq≤mq∧nq≤1000000)∧(au+nu≤mu∧nu≤1000000)∧aw+nw≤mw∧nw≤1000000)),w518 (fun n1 ap np mp tp n2 aq nq mq tq n3 au nu mu tu n4 aw nw mw tw=>(V529) (S.eK n1 np (FS tp ap) n2 nq (FS tq aq) n3 nu (FS tu au) n4 nw (FS tw aw))),w518 (fun n1 ap np mp tp n2 aq nq mq tq n3 au nu mu tu n4 aw nw mw tw=>(N529) (S.eK n1 np (FS tp ap) n2 nq (FS tq aq) n3 nu (FS tu au) n4 nw (FS tw aw))),fun _ _=> .dead⟩
theorem s529 (n1:Bool) (ap np mp:Nat) (tp:Nat→Int) (n2:Bool) (aq nq mq:Nat) (tq:Nat→Int) (n3:Bool) (au nu mu:Nat) (tu:Nat→Int) (n4:Bool) (aw nw mw:Nat) (tw:Nat→Int) (hp:((ap+np≤mp∧np≤1000000)∧aq+nq≤mq∧nq≤1000000)∧(au+nu≤mu∧nu≤1000000)∧aw+nw≤mw∧nw≤1000000):zY ((q529 n1 ap np mp tp n2 aq nq mq tq n3 au nu mu tu n4 aw nw mw tw)) ((p529 n1 ap np mp tp n2 aq nq mq tq n3 au nu mu tu n4 aw nw mw tw)) (((S.eK n1 np (fun j=>tp (j+ap)) n2 nq (fun j=>tq (j+aq)) n3 nu (fun j=>tu (j+au)) n4 nw (fun j=>tw (j+aw))).1,(S.eK n1 np (fun j=>tp (j+ap)) n2 nq (fun j=>tq (j+aq)) n3 nu (fun j=>tu (j+au)) n4 nw (fun j=>tw (j+aw))).2.1,(S.eK n1 np (fun j=>tp (j+ap)) n2 nq (fun j=>tq (j+aq)) n3 nu (fun j=>tu (j+au)) n4 nw (fun j=>tw (j+aw))).2.2.1,(S.eK n1 np (fun j=>tp (j+ap)) n2 nq (fun j=>tq (j+aq)) n3 nu (fun j=>tu (j+au)) n4 nw (fun j=>tw (j+aw))).2.2.2.1,(S.eK n1 np (fun j=>tp (j+ap)) n2 nq (fun j=>tq (j+aq)) n3 nu (fun j=>tu (j+au)) n4 nw (fun j=>tw (j+aw))).2.2.2.2)):=by
 obtain ⟨⟨⟨hp1,hp2⟩,hp3,hp4⟩,⟨hp5,hp6⟩,hp7,hp8⟩:=hp
 unfold S.eK S.opR p529
 with_reducible refine zH (decide_eq_true ⟨⟨hp1,hp2⟩,hp3,hp4⟩) ?_
 by_cases g1:S.fY n1 np (fun j=>tp (j+ap)) n2 nq (fun j=>tq (j+aq))=true
 rotate_left
 · rw [if_neg fun h=>g1 h.1]
   with_reducible refine zb (Bool.not_eq_true _ ▸ g1) ?_
   exact zG.mpr rfl
 with_reducible refine zH g1 ?_
 with_reducible refine zH (decide_eq_true ⟨⟨hp5,hp6⟩,hp7,hp8⟩) ?_
 by_cases g2:S.fY n3 nu (fun j=>tu (j+au)) n4 nw (fun j=>tw (j+aw))=true
 rotate_left
 · rw [if_neg fun h=>g2 h.2]
   with_reducible refine zb (Bool.not_eq_true _ ▸ g2) ?_
   exact zG.mpr rfl
 with_reducible refine zH g2 ?_
 rw [if_pos ⟨g1,g2⟩]
 obtain ⟨a1,a2,a3,a4,-⟩:=yf.mp g1
 obtain ⟨b1,b2,b3,b4,-⟩:=yf.mp g2
 have p1:=xI a2 a3 a4
 have p2:=xI b2 b3 b4
 have l:=zw (z5 (zi (z9 b1).2) (z9 b1).1)
 have hm:S.eJ n1 np (fun j=>tp (j+ap)) n2 nq (fun j=>tq (j+aq)) (S.fy (!n3) (S.val nu (fun j=>tu (j+au)))) (S.f0 (S.val nu (fun j=>tu (j+au)))).length (fun j=>S.at' (S.f0 (S.val nu (fun j=>tu (j+au)))) j) n4 nw (fun j=>tw (j+aw))=S.eE (S.sv n1 (S.val np (fun j=>tp (j+ap)))) (S.sv n2 (S.val nq (fun j=>tq (j+aq)))) (-(S.sv n3 (S.val nu (fun j=>tu (j+au))))) (S.sv n4 (S.val nw (fun j=>tw (j+aw)))):=by
  unfold S.eJ S.opR
  rw [if_pos ⟨g1,jK g2⟩,jv b1]
 with_reducible refine zH (decide_eq_true ⟨⟨hp5,hp6⟩,zi (z9 b1).2⟩) ?_
 with_reducible refine zH (decide_eq_true ⟨⟨⟨hp1,hp2⟩,hp3,hp4⟩,⟨by omega,by omega⟩,hp7,hp8⟩) ?_
 simp only [-eq_self,c529_e_0,c529_e_1,hm]
 exact zG.mpr rfl
theorem k529_ok:k529.ok Tryz.prog:=by
 intro x hx
 obtain ⟨⟨n1,⟨ap,np,mp,tp,_⟩,n2,⟨aq,nq,mq,tq,_⟩,_⟩,⟨n3,⟨au,nu,mu,tu,_⟩,n4,⟨aw,nw,mw,tw,_⟩,_⟩,_⟩:=x
 obtain ⟨h1,h2⟩:=a529 n1 ap np mp tp n2 aq nq mq tq n3 au nu mu tu n4 aw nw mw tw (s529 n1 ap np mp tp n2 aq nq mq tq n3 au nu mu tu n4 aw nw mw tw (zm hx rfl))
 exact ⟨⟨400,(by decide:4+1+2≤400),h1⟩,h2⟩
section
variable (fR:TT) (fS:KS) (fT:KR) (n1:Bool) (ap np mp:Nat) (tp:NI) (n2:Bool) (aq nq mq:Nat) (tq:NI) (n3:Bool) (au nu mu:Nat) (tu:NI) (n4:Bool) (aw nw mw:Nat) (tw:NI)
noncomputable abbrev c530_e_0:=S.fw (S.sv (S.ngM n1 np (fun j=>tp (j+ap)) n3 nu fun j=>tu (j+au)) (S.val (S.grM n1 np (fun j=>tp (j+ap)) n3 nu fun j=>tu (j+au)).length fun j=>S.at' (S.grM n1 np (fun j=>tp (j+ap)) n3 nu fun j=>tu (j+au)) j)) (S.sv (S.ngM n2 nq (fun j=>tq (j+aq)) n4 nw fun j=>tw (j+aw)) (S.val (S.grM n2 nq (fun j=>tq (j+aq)) n4 nw fun j=>tw (j+aw)).length fun j=>S.at' (S.grM n2 nq (fun j=>tq (j+aq)) n4 nw fun j=>tw (j+aw)) j))
noncomputable abbrev c530_e_1:=decide (((0+(S.grM n1 np (fun j=>tp (j+ap)) n3 nu fun j=>tu (j+au)).length≤(S.grM n1 np (fun j=>tp (j+ap)) n3 nu fun j=>tu (j+au)).length∧(S.grM n1 np (fun j=>tp (j+ap)) n3 nu fun j=>tu (j+au)).length≤1000000)∧0+(S.grM n2 nq (fun j=>tq (j+aq)) n4 nw fun j=>tw (j+aw)).length≤(S.grM n2 nq (fun j=>tq (j+aq)) n4 nw fun j=>tw (j+aw)).length∧(S.grM n2 nq (fun j=>tq (j+aq)) n4 nw fun j=>tw (j+aw)).length≤1000000)∧(S.fV (S.ngM n1 np (fun j=>tp (j+ap)) n3 nu fun j=>tu (j+au)) (S.grM n1 np (fun j=>tp (j+ap)) n3 nu fun j=>tu (j+au)).length fun j=>S.at' (S.grM n1 np (fun j=>tp (j+ap)) n3 nu fun j=>tu (j+au)) j)=true∧(S.fV (S.ngM n2 nq (fun j=>tq (j+aq)) n4 nw fun j=>tw (j+aw)) (S.grM n2 nq (fun j=>tq (j+aq)) n4 nw fun j=>tw (j+aw)).length fun j=>S.at' (S.grM n2 nq (fun j=>tq (j+aq)) n4 nw fun j=>tw (j+aw)) j)=true∧0<(S.grM n2 nq (fun j=>tq (j+aq)) n4 nw fun j=>tw (j+aw)).length)
noncomputable abbrev c530_e_2:= [[(3,false,Blk.cols mw [Col.int .i64 tw]),(2,false,Blk.cols mu [Col.int .i64 tu]),(1,false,Blk.cols mq [Col.int .i64 tq]),(0,false,Blk.cols mp [Col.int .i64 tp])]]
abbrev St530:=Empty
abbrev Rt530:=Bool×Bool×Int×List Int×List Int
noncomputable def V530 (r:Rt530):PV:= .tup [.agg [.bool r.1,.own 5 1 r.2.2.2.1.length,.bool r.2.1,.own 6 1 r.2.2.2.2.length],.int .i64 r.2.2.1]
noncomputable def N530 (r:Rt530):List Blk:= [CI r.2.2.2.1,CI r.2.2.2.2]
noncomputable def I530:St530→Hd:=fun s=>s.elim
noncomputable def q530 (n1:Bool) (ap np mp:Nat) (tp:NI) (n2:Bool) (aq nq mq:Nat) (tq:NI) (n3:Bool) (au nu mu:Nat) (tu:NI) (n4:Bool) (aw nw mw:Nat) (tw:NI):St530→Option (St530⊕Rt530):=fun s=>s.elim
noncomputable def p530 (n1:Bool) (ap np mp:Nat) (tp:NI) (n2:Bool) (aq nq mq:Nat) (tq:NI) (n3:Bool) (au nu mu:Nat) (tu:NI) (n4:Bool) (aw nw mw:Nat) (tw:NI):Option (St530⊕Rt530):=bif (decide ((ap+np≤mp∧np≤1000000)∧aq+nq≤mq∧nq≤1000000)) then (bif (S.fY n1 np (fun j=>tp (j+ap)) n2 nq fun j=>tq (j+aq)) then (bif (decide ((au+nu≤mu∧nu≤1000000)∧aw+nw≤mw∧nw≤1000000)) then (bif (S.fY n3 nu (fun j=>tu (j+au)) n4 nw fun j=>tw (j+aw)) then (bif (S.fj n1 np (fun j=>tp (j+ap)) n3 nu fun j=>tu (j+au)) then (bif (decide (((ap+np≤mp∧np≤1000000)∧au+nu≤mu∧nu≤1000000)∧(S.fV n1 np fun j=>tp (j+ap))=true∧(S.fV n3 nu fun j=>tu (j+au))=true∧(S.fj n1 np (fun j=>tp (j+ap)) n3 nu fun j=>tu (j+au))=true)) then (bif (S.fj n2 nq (fun j=>tq (j+aq)) n4 nw fun j=>tw (j+aw)) then (bif (decide (((aq+nq≤mq∧nq≤1000000)∧aw+nw≤mw∧nw≤1000000)∧(S.fV n2 nq fun j=>tq (j+aq))=true∧(S.fV n4 nw fun j=>tw (j+aw))=true∧(S.fj n2 nq (fun j=>tq (j+aq)) n4 nw fun j=>tw (j+aw))=true)) then (bif (c530_e_1 n1 ap np tp n2 aq nq tq n3 au nu tu n4 aw nw tw) then (some (.inr ((c530_e_0 n1 ap np tp n2 aq nq tq n3 au nu tu n4 aw nw tw).1,(c530_e_0 n1 ap np tp n2 aq nq tq n3 au nu tu n4 aw nw tw).2.1,(0:Int),(c530_e_0 n1 ap np tp n2 aq nq tq n3 au nu tu n4 aw nw tw).2.2.1,(c530_e_0 n1 ap np tp n2 aq nq tq n3 au nu tu n4 aw nw tw).2.2.2))) else none) else none) else (bif (decide (((aq+nq≤mq∧nq≤1000000)∧aw+nw≤mw∧nw≤1000000)∧(S.fV n2 nq fun j=>tq (j+aq))=true∧(S.fV n4 nw fun j=>tw (j+aw))=true∧(S.fj n2 nq (fun j=>tq (j+aq)) n4 nw fun j=>tw (j+aw))=false)) then (some (.inr (false,false,(3:Int),[],[]))) else none)) else none) else (bif (decide (((ap+np≤mp∧np≤1000000)∧au+nu≤mu∧nu≤1000000)∧(S.fV n1 np fun j=>tp (j+ap))=true∧(S.fV n3 nu fun j=>tu (j+au))=true∧(S.fj n1 np (fun j=>tp (j+ap)) n3 nu fun j=>tu (j+au))=false)) then (some (.inr (false,false,(3:Int),[],[]))) else none)) else (some (.inr (false,false,(1:Int),[],[])))) else none) else (some (.inr (false,false,(1:Int),[],[])))) else none
def Te530:Prop:=fR (decide ((ap+np≤mp∧np≤1000000)∧aq+nq≤mq∧nq≤1000000)) (fR (S.fY n1 np (FS tp ap) n2 nq (FS tq aq)) (fR (decide ((au+nu≤mu∧nu≤1000000)∧aw+nw≤mw∧nw≤1000000)) (fR (S.fY n3 nu (FS tu au) n4 nw (FS tw aw)) (fR (S.fj n1 np (FS tp ap) n3 nu (FS tu au)) (fR (decide (((ap+np≤mp∧np≤1000000)∧au+nu≤mu∧nu≤1000000)∧(S.fV n1 np (FS tp ap))=true∧(S.fV n3 nu (FS tu au))=true∧(S.fj n1 np (FS tp ap) n3 nu (FS tu au))=true)) (fR (S.fj n2 nq (FS tq aq) n4 nw (FS tw aw)) (fR (decide (((aq+nq≤mq∧nq≤1000000)∧aw+nw≤mw∧nw≤1000000)∧(S.fV n2 nq (FS tq aq))=true∧(S.fV n4 nw (FS tw aw))=true∧(S.fj n2 nq (FS tq aq) n4 nw (FS tw aw))=true)) (fR (c530_e_1 n1 ap np tp n2 aq nq tq n3 au nu tu n4 aw nw tw) (fT (.tup [.agg [.bool (c530_e_0 n1 ap np tp n2 aq nq tq n3 au nu tu n4 aw nw tw).1,.own 28 1 (c530_e_0 n1 ap np tp n2 aq nq tq n3 au nu tu n4 aw nw tw).2.2.1.length,.bool (c530_e_0 n1 ap np tp n2 aq nq tq n3 au nu tu n4 aw nw tw).2.1,.own 29 1 (c530_e_0 n1 ap np tp n2 aq nq tq n3 au nu tu n4 aw nw tw).2.2.2.length],.int .i64 0]) ([[(3,false,CB mw tw),(2,false,CB mu tu),(1,false,CB mq tq),(0,false,CB mp tp),(29,true,CI (c530_e_0 n1 ap np tp n2 aq nq tq n3 au nu tu n4 aw nw tw).2.2.2),(28,true,CI (c530_e_0 n1 ap np tp n2 aq nq tq n3 au nu tu n4 aw nw tw).2.2.1)]]) 30) False) False) (fR (decide (((aq+nq≤mq∧nq≤1000000)∧aw+nw≤mw∧nw≤1000000)∧(S.fV n2 nq (FS tq aq))=true∧(S.fV n4 nw (FS tw aw))=true∧(S.fj n2 nq (FS tq aq) n4 nw (FS tw aw))=false)) (fT (.tup [.agg [.tf false,.nils,.tf false,.nils],.int .i64 3]) (c530_e_2 mp tp mq tq mu tu mw tw) 27) False)) False) (fR (decide (((ap+np≤mp∧np≤1000000)∧au+nu≤mu∧nu≤1000000)∧(S.fV n1 np (FS tp ap))=true∧(S.fV n3 nu (FS tu au))=true∧(S.fj n1 np (FS tp ap) n3 nu (FS tu au))=false)) (fT (.tup [.agg [.tf false,.nils,.tf false,.nils],.int .i64 3]) (c530_e_2 mp tp mq tq mu tu mw tw) 23) False)) (fT (.tup [.agg [.tf false,.nils,.tf false,.nils],.int .i64 1]) (c530_e_2 mp tp mq tq mu tu mw tw) 9)) False) (fT (.tup [.agg [.tf false,.nils,.tf false,.nils],.int .i64 1]) (c530_e_2 mp tp mq tq mu tu mw tw) 8)) False
theorem te530:run cond Tryz.env true (xR8 cond) false 400 ⟨30,[.cd (zU Tryz.f30).body],z8 0 [.agg [.bool n1,.loose ⟨0,1,ap,0⟩ np,.bool n2,.loose ⟨1,1,aq,0⟩ nq],.agg [.bool n3,.loose ⟨2,1,au,0⟩ nu,.bool n4,.loose ⟨3,1,aw,0⟩ nw]],[[],[(0,(false,CB mp tp)),(1,(false,CB mq tq)),(2,(false,CB mu tu)),(3,(false,CB mw tw))]],4⟩ (zr 4 [] fS fT)=
 Te530 cond fT n1 ap np mp tp n2 aq nq mq tq n3 au nu mu tu n4 aw nw mw tw:=by kernel_rfl
noncomputable abbrev J530:Rt530→zS:=fun r=> [yC (4+1) ((N530) r)++ [(0,(false,CB mp tp)),(1,(false,CB mq tq)),(2,(false,CB mu tu)),(3,(false,CB mw tw))]]
attribute [local irreducible] Int.subNatNat in
theorem a530 {r:Rt530} (h:zY ((q530 n1 ap np mp tp n2 aq nq mq tq n3 au nu mu tu n4 aw nw mw tw)) ((p530 n1 ap np mp tp n2 aq nq mq tq n3 au nu mu tu n4 aw nw mw tw)) r):zn Tryz.prog 30 [.agg [.bool n1,.loose ⟨0,1,ap,0⟩ np,.bool n2,.loose ⟨1,1,aq,0⟩ nq],.agg [.bool n3,.loose ⟨2,1,au,0⟩ nu,.bool n4,.loose ⟨3,1,aw,0⟩ nw]] [[(0,(false,CB mp tp)),(1,(false,CB mq tq)),(2,(false,CB mu tu)),(3,(false,CB mw tw))]] 4 ((V530) r) ((J530 mp tp mq tq mu tu mw tw) r) 400∧HB Tryz.prog 30:=by
 refine wP Tryz.envOk Tryz.mixed tC ((I530)) ((V530)) (J530 mp tp mq tq mu tu mw tw) (fn:=zU Tryz.f30) (n:=400) rfl (by decide) (by simp) (zW rfl) ?_ h
 · intro fS fT x hS hR h
   refine Holds.eq (te530 fS fT n1 ap np mp tp n2 aq nq mq tq n3 au nu mu tu n4 aw nw mw tw) ?_
   unfold Te530
   unfold p530 at h
   refine zA h (fun c0 h=>zA h (fun c1 h=>zA h (fun c2 h=>zA h (fun c3 h=>zA h (fun c4 h=>zA h (fun c5 h=>zA h (fun c6 h=>zA h (fun c7 h=>zA h (fun c8 h=>zV hR _ h (fun n=>bif Nat.beq n 5 then 28 else bif Nat.beq n 6 then 29 else n) rfl rfl rfl (zk ⟨(zc ⟨(zj rfl),(zX (zD rfl) rfl rfl),(zj rfl),(zX (zD rfl) rfl rfl),trivial⟩),(zI rfl),trivial⟩) rfl (zL (zD rfl) rfl (Nat.le_of_eq rfl) (zN (fun _ _=>rfl) zM) (zL (zD rfl) rfl (Nat.le_of_eq rfl) (zN (fun _ _=>rfl) zM) (zB (zC rfl) rfl rfl (zB (zC rfl) rfl rfl (zB (zC rfl) rfl rfl (zB (zC rfl) rfl rfl zE))))))) (fun c8 h=> ?_)) (fun c7 h=> ?_)) (fun c6 h=>zA h (fun c7 h=> ?_) (fun c7 h=> ?_))) (fun c5 h=> ?_)) (fun c4 h=>zA h (fun c5 h=> ?_) (fun c5 h=> ?_))) (fun c3 h=> ?_)) (fun c2 h=> ?_)) (fun c1 h=> ?_)) (fun c0 h=> ?_)
   all_goals first
     |exact zF h
     |exact zV hR _ h (fun n=>bif Nat.beq n 5 then 399 else bif Nat.beq n 6 then 398 else n) rfl rfl rfl (zk ⟨(zc ⟨(zR rfl),(zO rfl),(zR rfl),(zO rfl),trivial⟩),(zI rfl),trivial⟩) rfl (zT (zD rfl) (za rfl) (zT (zD rfl) (za rfl) (zB (zC rfl) rfl rfl (zB (zC rfl) rfl rfl (zB (zC rfl) rfl rfl (zB (zC rfl) rfl rfl zE))))))
end
noncomputable def k530:Con:=⟨30,[.agg [.plain (.bool),.list [.int .i64],.plain (.bool),.list [.int .i64]],.agg [.plain (.bool),.list [.int .i64],.plain (.bool),.list [.int .i64]]],w518 (fun n1 ap np mp tp n2 aq nq mq tq n3 au nu mu tu n4 aw nw mw tw=>decide (((ap+np≤mp∧np≤1000000)∧aq+nq≤mq∧nq≤1000000)∧(au+nu≤mu∧nu≤1000000)∧aw+nw≤mw∧nw≤1000000)),w518 (fun n1 ap np mp tp n2 aq nq mq tq n3 au nu mu tu n4 aw nw mw tw=>(V530) (S.eM n1 np (FS tp ap) n2 nq (FS tq aq) n3 nu (FS tu au) n4 nw (FS tw aw))),w518 (fun n1 ap np mp tp n2 aq nq mq tq n3 au nu mu tu n4 aw nw mw tw=>(N530) (S.eM n1 np (FS tp ap) n2 nq (FS tq aq) n3 nu (FS tu au) n4 nw (FS tw aw))),fun _ _=> .dead⟩
theorem s530 (n1:Bool) (ap np mp:Nat) (tp:Nat→Int) (n2:Bool) (aq nq mq:Nat) (tq:Nat→Int) (n3:Bool) (au nu mu:Nat) (tu:Nat→Int) (n4:Bool) (aw nw mw:Nat) (tw:Nat→Int) (hp:((ap+np≤mp∧np≤1000000)∧aq+nq≤mq∧nq≤1000000)∧(au+nu≤mu∧nu≤1000000)∧aw+nw≤mw∧nw≤1000000):zY ((q530 n1 ap np mp tp n2 aq nq mq tq n3 au nu mu tu n4 aw nw mw tw)) ((p530 n1 ap np mp tp n2 aq nq mq tq n3 au nu mu tu n4 aw nw mw tw)) (((S.eM n1 np (fun j=>tp (j+ap)) n2 nq (fun j=>tq (j+aq)) n3 nu (fun j=>tu (j+au)) n4 nw (fun j=>tw (j+aw))).1,(S.eM n1 np (fun j=>tp (j+ap)) n2 nq (fun j=>tq (j+aq)) n3 nu (fun j=>tu (j+au)) n4 nw (fun j=>tw (j+aw))).2.1,(S.eM n1 np (fun j=>tp (j+ap)) n2 nq (fun j=>tq (j+aq)) n3 nu (fun j=>tu (j+au)) n4 nw (fun j=>tw (j+aw))).2.2.1,(S.eM n1 np (fun j=>tp (j+ap)) n2 nq (fun j=>tq (j+aq)) n3 nu (fun j=>tu (j+au)) n4 nw (fun j=>tw (j+aw))).2.2.2.1,(S.eM n1 np (fun j=>tp (j+ap)) n2 nq (fun j=>tq (j+aq)) n3 nu (fun j=>tu (j+au)) n4 nw (fun j=>tw (j+aw))).2.2.2.2)):=by
 obtain ⟨⟨⟨hp1,hp2⟩,hp3,hp4⟩,⟨hp5,hp6⟩,hp7,hp8⟩:=hp
 unfold S.eM S.opR p530
 with_reducible refine zH (decide_eq_true ⟨⟨hp1,hp2⟩,hp3,hp4⟩) ?_
 by_cases g1:S.fY n1 np (fun j=>tp (j+ap)) n2 nq (fun j=>tq (j+aq))=true
 rotate_left
 · rw [if_neg fun h=>g1 h.1]
   with_reducible refine zb (Bool.not_eq_true _ ▸ g1) ?_
   exact zG.mpr rfl
 with_reducible refine zH g1 ?_
 with_reducible refine zH (decide_eq_true ⟨⟨hp5,hp6⟩,hp7,hp8⟩) ?_
 by_cases g2:S.fY n3 nu (fun j=>tu (j+au)) n4 nw (fun j=>tw (j+aw))=true
 rotate_left
 · rw [if_neg fun h=>g2 h.2]
   with_reducible refine zb (Bool.not_eq_true _ ▸ g2) ?_
   exact zG.mpr rfl
 with_reducible refine zH g2 ?_
 rw [if_pos ⟨g1,g2⟩]
 obtain ⟨a1,a2,a3,a4,-⟩:=yf.mp g1
 obtain ⟨b1,b2,b3,b4,-⟩:=yf.mp g2
 have p1:=xI a2 a3 a4
 have p2:=xI b2 b3 b4
 have p3:S.sv n2 (S.val nq (fun j=>tq (j+aq)))*S.sv n4 (S.val nw (fun j=>tw (j+aw)))≠0:=Int.mul_ne_zero (by omega) (by omega)
 unfold S.eF
 obtain ⟨V1,hV1⟩: ∃ V,S.sv n1 (S.val np (fun j=>tp (j+ap)))*S.sv n3 (S.val nu (fun j=>tu (j+au)))=V:=⟨_,rfl⟩
 obtain ⟨V3,hV3⟩: ∃ V,S.sv n2 (S.val nq (fun j=>tq (j+aq)))*S.sv n4 (S.val nw (fun j=>tw (j+aw)))=V:=⟨_,rfl⟩
 rw [hV3] at p3
 simp only [-eq_self,c530_e_0,c530_e_1,c530_e_2,S.fj,S.ngM,S.grM,S.fk,S.ngA,S.grA,hV1,hV3]
 by_cases f1:S.fl V1=true
 rotate_left
 · have f1':=Bool.not_eq_true _ ▸ f1
   rw [if_neg fun h=>f1 h.1]
   with_reducible refine zb f1' ?_
   with_reducible refine zH (decide_eq_true ⟨⟨⟨hp1,hp2⟩,hp5,hp6⟩,a1,b1,f1'⟩) ?_
   exact zG.mpr rfl
 with_reducible refine zH f1 ?_
 with_reducible refine zH (decide_eq_true ⟨⟨⟨hp1,hp2⟩,hp5,hp6⟩,a1,b1,f1⟩) ?_
 by_cases f3:S.fl V3=true
 rotate_left
 · have f3':=Bool.not_eq_true _ ▸ f3
   rw [if_neg fun h=>f3 h.2]
   with_reducible refine zb f3' ?_
   with_reducible refine zH (decide_eq_true ⟨⟨⟨hp3,hp4⟩,hp7,hp8⟩,a2,b2,f3'⟩) ?_
   exact zG.mpr rfl
 with_reducible refine zH f3 ?_
 with_reducible refine zH (decide_eq_true ⟨⟨⟨hp3,hp4⟩,hp7,hp8⟩,a2,b2,f3⟩) ?_
 rw [if_pos ⟨f1,f3⟩]
 obtain ⟨o3,e3⟩:=xP f3
 obtain ⟨o4,e4⟩:=xP f1
 have l3:=(z9 o3).1
 have l4:=(z9 o4).1
 have hl:0<(S.f0 (V3.natAbs:Int)).length:=yc (by omega)
 rw [e3,e4]
 with_reducible refine zH (decide_eq_true ⟨⟨⟨by omega,by omega⟩,by omega,by omega⟩,o4,o3,hl⟩) ?_
 exact zG.mpr rfl
theorem k530_ok:k530.ok Tryz.prog:=by
 intro x hx
 obtain ⟨⟨n1,⟨ap,np,mp,tp,_⟩,n2,⟨aq,nq,mq,tq,_⟩,_⟩,⟨n3,⟨au,nu,mu,tu,_⟩,n4,⟨aw,nw,mw,tw,_⟩,_⟩,_⟩:=x
 obtain ⟨h1,h2⟩:=a530 n1 ap np mp tp n2 aq nq mq tq n3 au nu mu tu n4 aw nw mw tw (s530 n1 ap np mp tp n2 aq nq mq tq n3 au nu mu tu n4 aw nw mw tw (zm hx rfl))
 exact ⟨⟨400,(by decide:4+1+2≤400),h1⟩,h2⟩
section
variable (fR:TT) (fS:KS) (fT:KR) (n1:Bool) (ap np mp:Nat) (tp:NI) (n2:Bool) (aq nq mq:Nat) (tq:NI) (n3:Bool) (au nu mu:Nat) (tu:NI) (n4:Bool) (aw nw mw:Nat) (tw:NI)
abbrev St531:=Empty
abbrev Rt531:=Bool×Bool×Int×List Int×List Int
noncomputable def V531 (r:Rt531):PV:= .tup [.agg [.bool r.1,.own 5 1 r.2.2.2.1.length,.bool r.2.1,.own 6 1 r.2.2.2.2.length],.int .i64 r.2.2.1]
noncomputable def N531 (r:Rt531):List Blk:= [CI r.2.2.2.1,CI r.2.2.2.2]
noncomputable def I531:St531→Hd:=fun s=>s.elim
noncomputable def q531 (n1:Bool) (ap np mp:Nat) (tp:NI) (n2:Bool) (aq nq mq:Nat) (tq:NI) (n3:Bool) (au nu mu:Nat) (tu:NI) (n4:Bool) (aw nw mw:Nat) (tw:NI):St531→Option (St531⊕Rt531):=q530 n1 ap np mp tp n2 aq nq mq tq n3 au nu mu tu n4 aw nw mw tw
noncomputable def p531 (n1:Bool) (ap np mp:Nat) (tp:NI) (n2:Bool) (aq nq mq:Nat) (tq:NI) (n3:Bool) (au nu mu:Nat) (tu:NI) (n4:Bool) (aw nw mw:Nat) (tw:NI):Option (St531⊕Rt531):=p530 n1 ap np mp tp n2 aq nq mq tq n3 au nu mu tu n4 aw nw mw tw
def Te531:Prop:=fR (decide ((ap+np≤mp∧np≤1000000)∧aq+nq≤mq∧nq≤1000000)) (fR (S.fY n1 np (FS tp ap) n2 nq (FS tq aq)) (fR (decide ((au+nu≤mu∧nu≤1000000)∧aw+nw≤mw∧nw≤1000000)) (fR (S.fY n3 nu (FS tu au) n4 nw (FS tw aw)) (fR (S.fj n1 np (FS tp ap) n3 nu (FS tu au)) (fR (decide (((ap+np≤mp∧np≤1000000)∧au+nu≤mu∧nu≤1000000)∧(S.fV n1 np (FS tp ap))=true∧(S.fV n3 nu (FS tu au))=true∧(S.fj n1 np (FS tp ap) n3 nu (FS tu au))=true)) (fR (S.fj n2 nq (FS tq aq) n4 nw (FS tw aw)) (fR (decide (((aq+nq≤mq∧nq≤1000000)∧aw+nw≤mw∧nw≤1000000)∧(S.fV n2 nq (FS tq aq))=true∧(S.fV n4 nw (FS tw aw))=true∧(S.fj n2 nq (FS tq aq) n4 nw (FS tw aw))=true)) (fR (c530_e_1 n1 ap np tp n2 aq nq tq n3 au nu tu n4 aw nw tw) (fT (.tup [.agg [.bool (c530_e_0 n1 ap np tp n2 aq nq tq n3 au nu tu n4 aw nw tw).1,.own 21 1 (c530_e_0 n1 ap np tp n2 aq nq tq n3 au nu tu n4 aw nw tw).2.2.1.length,.bool (c530_e_0 n1 ap np tp n2 aq nq tq n3 au nu tu n4 aw nw tw).2.1,.own 22 1 (c530_e_0 n1 ap np tp n2 aq nq tq n3 au nu tu n4 aw nw tw).2.2.2.length],.int .i64 0]) ([[(3,false,CB mw tw),(2,false,CB mu tu),(1,false,CB mq tq),(0,false,CB mp tp),(22,true,CI (c530_e_0 n1 ap np tp n2 aq nq tq n3 au nu tu n4 aw nw tw).2.2.2),(21,true,CI (c530_e_0 n1 ap np tp n2 aq nq tq n3 au nu tu n4 aw nw tw).2.2.1)]]) 23) False) False) (fR (decide (((aq+nq≤mq∧nq≤1000000)∧aw+nw≤mw∧nw≤1000000)∧(S.fV n2 nq (FS tq aq))=true∧(S.fV n4 nw (FS tw aw))=true∧(S.fj n2 nq (FS tq aq) n4 nw (FS tw aw))=false)) (fT (.tup [.agg [.tf false,.nils,.tf false,.nils],.int .i64 3]) (c530_e_2 mp tp mq tq mu tu mw tw) 20) False)) False) (fR (decide (((ap+np≤mp∧np≤1000000)∧au+nu≤mu∧nu≤1000000)∧(S.fV n1 np (FS tp ap))=true∧(S.fV n3 nu (FS tu au))=true∧(S.fj n1 np (FS tp ap) n3 nu (FS tu au))=false)) (fT (.tup [.agg [.tf false,.nils,.tf false,.nils],.int .i64 3]) (c530_e_2 mp tp mq tq mu tu mw tw) 17) False)) (fT (.tup [.agg [.tf false,.nils,.tf false,.nils],.int .i64 1]) (c530_e_2 mp tp mq tq mu tu mw tw) 9)) False) (fT (.tup [.agg [.tf false,.nils,.tf false,.nils],.int .i64 1]) (c530_e_2 mp tp mq tq mu tu mw tw) 8)) False
theorem te531:run cond Tryz.env true (xR8 cond) false 400 ⟨31,[.cd (zU Tryz.f31).body],z8 0 [.agg [.bool n1,.loose ⟨0,1,ap,0⟩ np,.bool n2,.loose ⟨1,1,aq,0⟩ nq],.agg [.bool n3,.loose ⟨2,1,au,0⟩ nu,.bool n4,.loose ⟨3,1,aw,0⟩ nw]],[[],[(0,(false,CB mp tp)),(1,(false,CB mq tq)),(2,(false,CB mu tu)),(3,(false,CB mw tw))]],4⟩ (zr 4 [] fS fT)=
 Te531 cond fT n1 ap np mp tp n2 aq nq mq tq n3 au nu mu tu n4 aw nw mw tw:=by kernel_rfl
noncomputable abbrev J531:Rt531→zS:=fun r=> [yC (4+1) ((N531) r)++ [(0,(false,CB mp tp)),(1,(false,CB mq tq)),(2,(false,CB mu tu)),(3,(false,CB mw tw))]]
attribute [local irreducible] Int.subNatNat in
theorem a531 {r:Rt531} (h:zY ((q531 n1 ap np mp tp n2 aq nq mq tq n3 au nu mu tu n4 aw nw mw tw)) ((p531 n1 ap np mp tp n2 aq nq mq tq n3 au nu mu tu n4 aw nw mw tw)) r):zn Tryz.prog 31 [.agg [.bool n1,.loose ⟨0,1,ap,0⟩ np,.bool n2,.loose ⟨1,1,aq,0⟩ nq],.agg [.bool n3,.loose ⟨2,1,au,0⟩ nu,.bool n4,.loose ⟨3,1,aw,0⟩ nw]] [[(0,(false,CB mp tp)),(1,(false,CB mq tq)),(2,(false,CB mu tu)),(3,(false,CB mw tw))]] 4 ((V531) r) ((J531 mp tp mq tq mu tu mw tw) r) 400∧HB Tryz.prog 31:=by
 refine wP Tryz.envOk Tryz.mixed tC ((I531)) ((V531)) (J531 mp tp mq tq mu tu mw tw) (fn:=zU Tryz.f31) (n:=400) rfl (by decide) (by simp) (zW rfl) ?_ h
 · intro fS fT x hS hR h
   refine Holds.eq (te531 fS fT n1 ap np mp tp n2 aq nq mq tq n3 au nu mu tu n4 aw nw mw tw) ?_
   unfold Te531
   unfold p531 p530 at h
   refine zA h (fun c0 h=>zA h (fun c1 h=>zA h (fun c2 h=>zA h (fun c3 h=>zA h (fun c4 h=>zA h (fun c5 h=>zA h (fun c6 h=>zA h (fun c7 h=>zA h (fun c8 h=>zV hR _ h (fun n=>bif Nat.beq n 5 then 21 else bif Nat.beq n 6 then 22 else n) rfl rfl rfl (zk ⟨(zc ⟨(zj rfl),(zX (zD rfl) rfl rfl),(zj rfl),(zX (zD rfl) rfl rfl),trivial⟩),(zI rfl),trivial⟩) rfl (zL (zD rfl) rfl (Nat.le_of_eq rfl) (zN (fun _ _=>rfl) zM) (zL (zD rfl) rfl (Nat.le_of_eq rfl) (zN (fun _ _=>rfl) zM) (zB (zC rfl) rfl rfl (zB (zC rfl) rfl rfl (zB (zC rfl) rfl rfl (zB (zC rfl) rfl rfl zE))))))) (fun c8 h=> ?_)) (fun c7 h=> ?_)) (fun c6 h=>zA h (fun c7 h=> ?_) (fun c7 h=> ?_))) (fun c5 h=> ?_)) (fun c4 h=>zA h (fun c5 h=> ?_) (fun c5 h=> ?_))) (fun c3 h=> ?_)) (fun c2 h=> ?_)) (fun c1 h=> ?_)) (fun c0 h=> ?_)
   all_goals first
     |exact zF h
     |exact zV hR _ h (fun n=>bif Nat.beq n 5 then 399 else bif Nat.beq n 6 then 398 else n) rfl rfl rfl (zk ⟨(zc ⟨(zR rfl),(zO rfl),(zR rfl),(zO rfl),trivial⟩),(zI rfl),trivial⟩) rfl (zT (zD rfl) (za rfl) (zT (zD rfl) (za rfl) (zB (zC rfl) rfl rfl (zB (zC rfl) rfl rfl (zB (zC rfl) rfl rfl (zB (zC rfl) rfl rfl zE))))))
end
noncomputable def k531:Con:=⟨31,[.agg [.plain (.bool),.list [.int .i64],.plain (.bool),.list [.int .i64]],.agg [.plain (.bool),.list [.int .i64],.plain (.bool),.list [.int .i64]]],w518 (fun n1 ap np mp tp n2 aq nq mq tq n3 au nu mu tu n4 aw nw mw tw=>decide (((ap+np≤mp∧np≤1000000)∧aq+nq≤mq∧nq≤1000000)∧(au+nu≤mu∧nu≤1000000)∧aw+nw≤mw∧nw≤1000000)),w518 (fun n1 ap np mp tp n2 aq nq mq tq n3 au nu mu tu n4 aw nw mw tw=>(V531) (S.eM n1 np (FS tp ap) n2 nq (FS tq aq) n3 nu (FS tu au) n4 nw (FS tw aw))),w518 (fun n1 ap np mp tp n2 aq nq mq tq n3 au nu mu tu n4 aw nw mw tw=>(N531) (S.eM n1 np (FS tp ap) n2 nq (FS tq aq) n3 nu (FS tu au) n4 nw (FS tw aw))),fun _ _=> .dead⟩
theorem s531 (n1:Bool) (ap np mp:Nat) (tp:Nat→Int) (n2:Bool) (aq nq mq:Nat) (tq:Nat→Int) (n3:Bool) (au nu mu:Nat) (tu:Nat→Int) (n4:Bool) (aw nw mw:Nat) (tw:Nat→Int) (hp:((ap+np≤mp∧np≤1000000)∧aq+nq≤mq∧nq≤1000000)∧(au+nu≤mu∧nu≤1000000)∧aw+nw≤mw∧nw≤1000000):zY ((q531 n1 ap np mp tp n2 aq nq mq tq n3 au nu mu tu n4 aw nw mw tw)) ((p531 n1 ap np mp tp n2 aq nq mq tq n3 au nu mu tu n4 aw nw mw tw)) (((S.eM n1 np (fun j=>tp (j+ap)) n2 nq (fun j=>tq (j+aq)) n3 nu (fun j=>tu (j+au)) n4 nw (fun j=>tw (j+aw))).1,(S.eM n1 np (fun j=>tp (j+ap)) n2 nq (fun j=>tq (j+aq)) n3 nu (fun j=>tu (j+au)) n4 nw (fun j=>tw (j+aw))).2.1,(S.eM n1 np (fun j=>tp (j+ap)) n2 nq (fun j=>tq (j+aq)) n3 nu (fun j=>tu (j+au)) n4 nw (fun j=>tw (j+aw))).2.2.1,(S.eM n1 np (fun j=>tp (j+ap)) n2 nq (fun j=>tq (j+aq)) n3 nu (fun j=>tu (j+au)) n4 nw (fun j=>tw (j+aw))).2.2.2.1,(S.eM n1 np (fun j=>tp (j+ap)) n2 nq (fun j=>tq (j+aq)) n3 nu (fun j=>tu (j+au)) n4 nw (fun j=>tw (j+aw))).2.2.2.2)):=s530 n1 ap np mp tp n2 aq nq mq tq n3 au nu mu tu n4 aw nw mw tw hp
theorem k531_ok:k531.ok Tryz.prog:=by
 intro x hx
 obtain ⟨⟨n1,⟨ap,np,mp,tp,_⟩,n2,⟨aq,nq,mq,tq,_⟩,_⟩,⟨n3,⟨au,nu,mu,tu,_⟩,n4,⟨aw,nw,mw,tw,_⟩,_⟩,_⟩:=x
 obtain ⟨h1,h2⟩:=a531 n1 ap np mp tp n2 aq nq mq tq n3 au nu mu tu n4 aw nw mw tw (s531 n1 ap np mp tp n2 aq nq mq tq n3 au nu mu tu n4 aw nw mw tw (zm hx rfl))
 exact ⟨⟨400,(by decide:4+1+2≤400),h1⟩,h2⟩
section
variable (fR:TT) (fS:KS) (fT:KR) (n1:Bool) (ap np mp:Nat) (tp:NI) (n2:Bool) (aq nq mq:Nat) (tq:NI) (n3:Bool) (au nu mu:Nat) (tu:NI) (n4:Bool) (aw nw mw:Nat) (tw:NI)
noncomputable abbrev c532_e_0:=S.fw (S.sv (S.ngM n1 np (fun j=>tp (j+ap)) n4 nw fun j=>tw (j+aw)) (S.val (S.grM n1 np (fun j=>tp (j+ap)) n4 nw fun j=>tw (j+aw)).length fun j=>S.at' (S.grM n1 np (fun j=>tp (j+ap)) n4 nw fun j=>tw (j+aw)) j)) (S.sv (S.ngM n2 nq (fun j=>tq (j+aq)) n3 nu fun j=>tu (j+au)) (S.val (S.grM n2 nq (fun j=>tq (j+aq)) n3 nu fun j=>tu (j+au)).length fun j=>S.at' (S.grM n2 nq (fun j=>tq (j+aq)) n3 nu fun j=>tu (j+au)) j))
noncomputable abbrev c532_e_1:=decide (((0+(S.grM n1 np (fun j=>tp (j+ap)) n4 nw fun j=>tw (j+aw)).length≤(S.grM n1 np (fun j=>tp (j+ap)) n4 nw fun j=>tw (j+aw)).length∧(S.grM n1 np (fun j=>tp (j+ap)) n4 nw fun j=>tw (j+aw)).length≤1000000)∧0+(S.grM n2 nq (fun j=>tq (j+aq)) n3 nu fun j=>tu (j+au)).length≤(S.grM n2 nq (fun j=>tq (j+aq)) n3 nu fun j=>tu (j+au)).length∧(S.grM n2 nq (fun j=>tq (j+aq)) n3 nu fun j=>tu (j+au)).length≤1000000)∧(S.fV (S.ngM n1 np (fun j=>tp (j+ap)) n4 nw fun j=>tw (j+aw)) (S.grM n1 np (fun j=>tp (j+ap)) n4 nw fun j=>tw (j+aw)).length fun j=>S.at' (S.grM n1 np (fun j=>tp (j+ap)) n4 nw fun j=>tw (j+aw)) j)=true∧(S.fV (S.ngM n2 nq (fun j=>tq (j+aq)) n3 nu fun j=>tu (j+au)) (S.grM n2 nq (fun j=>tq (j+aq)) n3 nu fun j=>tu (j+au)).length fun j=>S.at' (S.grM n2 nq (fun j=>tq (j+aq)) n3 nu fun j=>tu (j+au)) j)=true∧0<(S.grM n2 nq (fun j=>tq (j+aq)) n3 nu fun j=>tu (j+au)).length)
noncomputable abbrev c532_e_2:= [[(3,false,Blk.cols mw [Col.int .i64 tw]),(2,false,Blk.cols mu [Col.int .i64 tu]),(1,false,Blk.cols mq [Col.int .i64 tq]),(0,false,Blk.cols mp [Col.int .i64 tp])]]
abbrev St532:=Empty
abbrev Rt532:=Bool×Bool×Int×List Int×List Int
noncomputable def V532 (r:Rt532):PV:= .tup [.agg [.bool r.1,.own 5 1 r.2.2.2.1.length,.bool r.2.1,.own 6 1 r.2.2.2.2.length],.int .i64 r.2.2.1]
noncomputable def N532 (r:Rt532):List Blk:= [CI r.2.2.2.1,CI r.2.2.2.2]
noncomputable def I532:St532→Hd:=fun s=>s.elim
noncomputable def q532 (n1:Bool) (ap np mp:Nat) (tp:NI) (n2:Bool) (aq nq mq:Nat) (tq:NI) (n3:Bool) (au nu mu:Nat) (tu:NI) (n4:Bool) (aw nw mw:Nat) (tw:NI):St532→Option (St532⊕Rt532):=fun s=>s.elim
noncomputable def p532 (n1:Bool) (ap np mp:Nat) (tp:NI) (n2:Bool) (aq nq mq:Nat) (tq:NI) (n3:Bool) (au nu mu:Nat) (tu:NI) (n4:Bool) (aw nw mw:Nat) (tw:NI):Option (St532⊕Rt532):=bif (decide ((ap+np≤mp∧np≤1000000)∧aq+nq≤mq∧nq≤1000000)) then (bif (S.fY n1 np (fun j=>tp (j+ap)) n2 nq fun j=>tq (j+aq)) then (bif (decide ((au+nu≤mu∧nu≤1000000)∧aw+nw≤mw∧nw≤1000000)) then (bif (S.fY n3 nu (fun j=>tu (j+au)) n4 nw fun j=>tw (j+aw)) then (bif ((nu:Int)==0) then (some (.inr (false,false,(13:Int),[],[]))) else (bif (S.fj n1 np (fun j=>tp (j+ap)) n4 nw fun j=>tw (j+aw)) then (bif (decide (((ap+np≤mp∧np≤1000000)∧aw+nw≤mw∧nw≤1000000)∧(S.fV n1 np fun j=>tp (j+ap))=true∧(S.fV n4 nw fun j=>tw (j+aw))=true∧(S.fj n1 np (fun j=>tp (j+ap)) n4 nw fun j=>tw (j+aw))=true)) then (bif (S.fj n2 nq (fun j=>tq (j+aq)) n3 nu fun j=>tu (j+au)) then (bif (decide (((aq+nq≤mq∧nq≤1000000)∧au+nu≤mu∧nu≤1000000)∧(S.fV n2 nq fun j=>tq (j+aq))=true∧(S.fV n3 nu fun j=>tu (j+au))=true∧(S.fj n2 nq (fun j=>tq (j+aq)) n3 nu fun j=>tu (j+au))=true)) then (bif (c532_e_1 n1 ap np tp n2 aq nq tq n3 au nu tu n4 aw nw tw) then (some (.inr ((c532_e_0 n1 ap np tp n2 aq nq tq n3 au nu tu n4 aw nw tw).1,(c532_e_0 n1 ap np tp n2 aq nq tq n3 au nu tu n4 aw nw tw).2.1,(0:Int),(c532_e_0 n1 ap np tp n2 aq nq tq n3 au nu tu n4 aw nw tw).2.2.1,(c532_e_0 n1 ap np tp n2 aq nq tq n3 au nu tu n4 aw nw tw).2.2.2))) else none) else none) else (bif (decide (((aq+nq≤mq∧nq≤1000000)∧au+nu≤mu∧nu≤1000000)∧(S.fV n2 nq fun j=>tq (j+aq))=true∧(S.fV n3 nu fun j=>tu (j+au))=true∧(S.fj n2 nq (fun j=>tq (j+aq)) n3 nu fun j=>tu (j+au))=false)) then (some (.inr (false,false,(3:Int),[],[]))) else none)) else none) else (bif (decide (((ap+np≤mp∧np≤1000000)∧aw+nw≤mw∧nw≤1000000)∧(S.fV n1 np fun j=>tp (j+ap))=true∧(S.fV n4 nw fun j=>tw (j+aw))=true∧(S.fj n1 np (fun j=>tp (j+ap)) n4 nw fun j=>tw (j+aw))=false)) then (some (.inr (false,false,(3:Int),[],[]))) else none))) else (some (.inr (false,false,(1:Int),[],[])))) else none) else (some (.inr (false,false,(1:Int),[],[])))) else none
def Te532:Prop:=fR (decide ((ap+np≤mp∧np≤1000000)∧aq+nq≤mq∧nq≤1000000)) (fR (S.fY n1 np (FS tp ap) n2 nq (FS tq aq)) (fR (decide ((au+nu≤mu∧nu≤1000000)∧aw+nw≤mw∧nw≤1000000)) (fR (S.fY n3 nu (FS tu au) n4 nw (FS tw aw)) (fR ((nu:Int)==0) (fT (.tup [.agg [.tf false,.nils,.tf false,.nils],.int .i64 13]) (c532_e_2 mp tp mq tq mu tu mw tw) 10) (fR (S.fj n1 np (FS tp ap) n4 nw (FS tw aw)) (fR (decide (((ap+np≤mp∧np≤1000000)∧aw+nw≤mw∧nw≤1000000)∧(S.fV n1 np (FS tp ap))=true∧(S.fV n4 nw (FS tw aw))=true∧(S.fj n1 np (FS tp ap) n4 nw (FS tw aw))=true)) (fR (S.fj n2 nq (FS tq aq) n3 nu (FS tu au)) (fR (decide (((aq+nq≤mq∧nq≤1000000)∧au+nu≤mu∧nu≤1000000)∧(S.fV n2 nq (FS tq aq))=true∧(S.fV n3 nu (FS tu au))=true∧(S.fj n2 nq (FS tq aq) n3 nu (FS tu au))=true)) (fR (c532_e_1 n1 ap np tp n2 aq nq tq n3 au nu tu n4 aw nw tw) (fT (.tup [.agg [.bool (c532_e_0 n1 ap np tp n2 aq nq tq n3 au nu tu n4 aw nw tw).1,.own 29 1 (c532_e_0 n1 ap np tp n2 aq nq tq n3 au nu tu n4 aw nw tw).2.2.1.length,.bool (c532_e_0 n1 ap np tp n2 aq nq tq n3 au nu tu n4 aw nw tw).2.1,.own 30 1 (c532_e_0 n1 ap np tp n2 aq nq tq n3 au nu tu n4 aw nw tw).2.2.2.length],.int .i64 0]) ([[(3,false,CB mw tw),(2,false,CB mu tu),(1,false,CB mq tq),(0,false,CB mp tp),(30,true,CI (c532_e_0 n1 ap np tp n2 aq nq tq n3 au nu tu n4 aw nw tw).2.2.2),(29,true,CI (c532_e_0 n1 ap np tp n2 aq nq tq n3 au nu tu n4 aw nw tw).2.2.1)]]) 31) False) False) (fR (decide (((aq+nq≤mq∧nq≤1000000)∧au+nu≤mu∧nu≤1000000)∧(S.fV n2 nq (FS tq aq))=true∧(S.fV n3 nu (FS tu au))=true∧(S.fj n2 nq (FS tq aq) n3 nu (FS tu au))=false)) (fT (.tup [.agg [.tf false,.nils,.tf false,.nils],.int .i64 3]) (c532_e_2 mp tp mq tq mu tu mw tw) 28) False)) False) (fR (decide (((ap+np≤mp∧np≤1000000)∧aw+nw≤mw∧nw≤1000000)∧(S.fV n1 np (FS tp ap))=true∧(S.fV n4 nw (FS tw aw))=true∧(S.fj n1 np (FS tp ap) n4 nw (FS tw aw))=false)) (fT (.tup [.agg [.tf false,.nils,.tf false,.nils],.int .i64 3]) (c532_e_2 mp tp mq tq mu tu mw tw) 24) False))) (fT (.tup [.agg [.tf false,.nils,.tf false,.nils],.int .i64 1]) (c532_e_2 mp tp mq tq mu tu mw tw) 9)) False) (fT (.tup [.agg [.tf false,.nils,.tf false,.nils],.int .i64 1]) (c532_e_2 mp tp mq tq mu tu mw tw) 8)) False
theorem te532:run cond Tryz.env true (xR8 cond) false 400 ⟨32,[.cd (zU Tryz.f32).body],z8 0 [.agg [.bool n1,.loose ⟨0,1,ap,0⟩ np,.bool n2,.loose ⟨1,1,aq,0⟩ nq],.agg [.bool n3,.loose ⟨2,1,au,0⟩ nu,.bool n4,.loose ⟨3,1,aw,0⟩ nw]],[[],[(0,(false,CB mp tp)),(1,(false,CB mq tq)),(2,(false,CB mu tu)),(3,(false,CB mw tw))]],4⟩ (zr 4 [] fS fT)=
 Te532 cond fT n1 ap np mp tp n2 aq nq mq tq n3 au nu mu tu n4 aw nw mw tw:=by kernel_rfl
noncomputable abbrev J532:Rt532→zS:=fun r=> [yC (4+1) ((N532) r)++ [(0,(false,CB mp tp)),(1,(false,CB mq tq)),(2,(false,CB mu tu)),(3,(false,CB mw tw))]]
attribute [local irreducible] Int.subNatNat in
theorem a532 {r:Rt532} (h:zY ((q532 n1 ap np mp tp n2 aq nq mq tq n3 au nu mu tu n4 aw nw mw tw)) ((p532 n1 ap np mp tp n2 aq nq mq tq n3 au nu mu tu n4 aw nw mw tw)) r):zn Tryz.prog 32 [.agg [.bool n1,.loose ⟨0,1,ap,0⟩ np,.bool n2,.loose ⟨1,1,aq,0⟩ nq],.agg [.bool n3,.loose ⟨2,1,au,0⟩ nu,.bool n4,.loose ⟨3,1,aw,0⟩ nw]] [[(0,(false,CB mp tp)),(1,(false,CB mq tq)),(2,(false,CB mu tu)),(3,(false,CB mw tw))]] 4 ((V532) r) ((J532 mp tp mq tq mu tu mw tw) r) 400∧HB Tryz.prog 32:=by
 refine wP Tryz.envOk Tryz.mixed tC ((I532)) ((V532)) (J532 mp tp mq tq mu tu mw tw) (fn:=zU Tryz.f32) (n:=400) rfl (by decide) (by simp) (zW rfl) ?_ h
 · intro fS fT x hS hR h
   refine Holds.eq (te532 fS fT n1 ap np mp tp n2 aq nq mq tq n3 au nu mu tu n4 aw nw mw tw) ?_
   unfold Te532
   unfold p532 at h
   refine zA h (fun c0 h=>zA h (fun c1 h=>zA h (fun c2 h=>zA h (fun c3 h=>zA h (fun c4 h=> ?_) (fun c4 h=>zA h (fun c5 h=>zA h (fun c6 h=>zA h (fun c7 h=>zA h (fun c8 h=>zA h (fun c9 h=>zV hR _ h (fun n=>bif Nat.beq n 5 then 29 else bif Nat.beq n 6 then 30 else n) rfl rfl rfl (zk ⟨(zc ⟨(zj rfl),(zX (zD rfl) rfl rfl),(zj rfl),(zX (zD rfl) rfl rfl),trivial⟩),(zI rfl),trivial⟩) rfl (zL (zD rfl) rfl (Nat.le_of_eq rfl) (zN (fun _ _=>rfl) zM) (zL (zD rfl) rfl (Nat.le_of_eq rfl) (zN (fun _ _=>rfl) zM) (zB (zC rfl) rfl rfl (zB (zC rfl) rfl rfl (zB (zC rfl) rfl rfl (zB (zC rfl) rfl rfl zE))))))) (fun c9 h=> ?_)) (fun c8 h=> ?_)) (fun c7 h=>zA h (fun c8 h=> ?_) (fun c8 h=> ?_))) (fun c6 h=> ?_)) (fun c5 h=>zA h (fun c6 h=> ?_) (fun c6 h=> ?_)))) (fun c3 h=> ?_)) (fun c2 h=> ?_)) (fun c1 h=> ?_)) (fun c0 h=> ?_)
   all_goals first
     |exact zF h
     |exact zV hR _ h (fun n=>bif Nat.beq n 5 then 399 else bif Nat.beq n 6 then 398 else n) rfl rfl rfl (zk ⟨(zc ⟨(zR rfl),(zO rfl),(zR rfl),(zO rfl),trivial⟩),(zI rfl),trivial⟩) rfl (zT (zD rfl) (za rfl) (zT (zD rfl) (za rfl) (zB (zC rfl) rfl rfl (zB (zC rfl) rfl rfl (zB (zC rfl) rfl rfl (zB (zC rfl) rfl rfl zE))))))
end
noncomputable def k532:Con:=⟨32,[.agg [.plain (.bool),.list [.int .i64],.plain (.bool),.list [.int .i64]],.agg [.plain (.bool),.list [.int .i64],.plain (.bool),.list [.int .i64]]],w518 (fun n1 ap np mp tp n2 aq nq mq tq n3 au nu mu tu n4 aw nw mw tw=>decide (((ap+np≤mp∧np≤1000000)∧aq+nq≤mq∧nq≤1000000)∧(au+nu≤mu∧nu≤1000000)∧aw+nw≤mw∧nw≤1000000)),w518 (fun n1 ap np mp tp n2 aq nq mq tq n3 au nu mu tu n4 aw nw mw tw=>(V532) (S.eN n1 np (FS tp ap) n2 nq (FS tq aq) n3 nu (FS tu au) n4 nw (FS tw aw))),w518 (fun n1 ap np mp tp n2 aq nq mq tq n3 au nu mu tu n4 aw nw mw tw=>(N532) (S.eN n1 np (FS tp ap) n2 nq (FS tq aq) n3 nu (FS tu au) n4 nw (FS tw aw))),fun _ _=> .dead⟩
theorem s532 (n1:Bool) (ap np mp:Nat) (tp:Nat→Int) (n2:Bool) (aq nq mq:Nat) (tq:Nat→Int) (n3:Bool) (au nu mu:Nat) (tu:Nat→Int) (n4:Bool) (aw nw mw:Nat) (tw:Nat→Int) (hp:((ap+np≤mp∧np≤1000000)∧aq+nq≤mq∧nq≤1000000)∧(au+nu≤mu∧nu≤1000000)∧aw+nw≤mw∧nw≤1000000):zY ((q532 n1 ap np mp tp n2 aq nq mq tq n3 au nu mu tu n4 aw nw mw tw)) ((p532 n1 ap np mp tp n2 aq nq mq tq n3 au nu mu tu n4 aw nw mw tw)) (((S.eN n1 np (fun j=>tp (j+ap)) n2 nq (fun j=>tq (j+aq)) n3 nu (fun j=>tu (j+au)) n4 nw (fun j=>tw (j+aw))).1,(S.eN n1 np (fun j=>tp (j+ap)) n2 nq (fun j=>tq (j+aq)) n3 nu (fun j=>tu (j+au)) n4 nw (fun j=>tw (j+aw))).2.1,(S.eN n1 np (fun j=>tp (j+ap)) n2 nq (fun j=>tq (j+aq)) n3 nu (fun j=>tu (j+au)) n4 nw (fun j=>tw (j+aw))).2.2.1,(S.eN n1 np (fun j=>tp (j+ap)) n2 nq (fun j=>tq (j+aq)) n3 nu (fun j=>tu (j+au)) n4 nw (fun j=>tw (j+aw))).2.2.2.1,(S.eN n1 np (fun j=>tp (j+ap)) n2 nq (fun j=>tq (j+aq)) n3 nu (fun j=>tu (j+au)) n4 nw (fun j=>tw (j+aw))).2.2.2.2)):=by
 obtain ⟨⟨⟨hp1,hp2⟩,hp3,hp4⟩,⟨hp5,hp6⟩,hp7,hp8⟩:=hp
 unfold S.eN S.opR p532
 with_reducible refine zH (decide_eq_true ⟨⟨hp1,hp2⟩,hp3,hp4⟩) ?_
 by_cases g1:S.fY n1 np (fun j=>tp (j+ap)) n2 nq (fun j=>tq (j+aq))=true
 rotate_left
 · rw [if_neg fun h=>g1 h.1]
   with_reducible refine zb (Bool.not_eq_true _ ▸ g1) ?_
   exact zG.mpr rfl
 with_reducible refine zH g1 ?_
 with_reducible refine zH (decide_eq_true ⟨⟨hp5,hp6⟩,hp7,hp8⟩) ?_
 by_cases g2:S.fY n3 nu (fun j=>tu (j+au)) n4 nw (fun j=>tw (j+aw))=true
 rotate_left
 · rw [if_neg fun h=>g2 h.2]
   with_reducible refine zb (Bool.not_eq_true _ ▸ g2) ?_
   exact zG.mpr rfl
 with_reducible refine zH g2 ?_
 rw [if_pos ⟨g1,g2⟩]
 obtain ⟨a1,a2,a3,a4,-⟩:=yf.mp g1
 obtain ⟨b1,b2,b3,b4,-⟩:=yf.mp g2
 have p1:=xI a2 a3 a4
 have p2:=xI b2 b3 b4
 unfold S.eI
 by_cases hz:nu=0
 · have e0:S.sv n3 (S.val nu (fun j=>tu (j+au)))=0:=by subst hz; cases n3<;>rfl
   rw [if_pos e0]
   with_reducible refine zH (beq_iff_eq.mpr (by omega)) ?_
   exact zG.mpr rfl
 have nz:=iP b1 hz
 rw [if_neg nz]
 with_reducible refine zb (beq_eq_false_iff_ne.mpr (by omega)) ?_
 have p3:S.sv n2 (S.val nq (fun j=>tq (j+aq)))*S.sv n3 (S.val nu (fun j=>tu (j+au)))≠0:=Int.mul_ne_zero (by omega) nz
 unfold S.eF
 obtain ⟨V1,hV1⟩: ∃ V,S.sv n1 (S.val np (fun j=>tp (j+ap)))*S.sv n4 (S.val nw (fun j=>tw (j+aw)))=V:=⟨_,rfl⟩
 obtain ⟨V3,hV3⟩: ∃ V,S.sv n2 (S.val nq (fun j=>tq (j+aq)))*S.sv n3 (S.val nu (fun j=>tu (j+au)))=V:=⟨_,rfl⟩
 rw [hV3] at p3
 simp only [-eq_self,c532_e_0,c532_e_1,c532_e_2,S.fj,S.ngM,S.grM,S.fk,S.ngA,S.grA,hV1,hV3]
 by_cases f1:S.fl V1=true
 rotate_left
 · have f1':=Bool.not_eq_true _ ▸ f1
   rw [if_neg fun h=>f1 h.1]
   with_reducible refine zb f1' ?_
   with_reducible refine zH (decide_eq_true ⟨⟨⟨hp1,hp2⟩,hp7,hp8⟩,a1,b2,f1'⟩) ?_
   exact zG.mpr rfl
 with_reducible refine zH f1 ?_
 with_reducible refine zH (decide_eq_true ⟨⟨⟨hp1,hp2⟩,hp7,hp8⟩,a1,b2,f1⟩) ?_
 by_cases f3:S.fl V3=true
 rotate_left
 · have f3':=Bool.not_eq_true _ ▸ f3
   rw [if_neg fun h=>f3 h.2]
   with_reducible refine zb f3' ?_
   with_reducible refine zH (decide_eq_true ⟨⟨⟨hp3,hp4⟩,hp5,hp6⟩,a2,b1,f3'⟩) ?_
   exact zG.mpr rfl
 with_reducible refine zH f3 ?_
 with_reducible refine zH (decide_eq_true ⟨⟨⟨hp3,hp4⟩,hp5,hp6⟩,a2,b1,f3⟩) ?_
 rw [if_pos ⟨f1,f3⟩]
 obtain ⟨o3,e3⟩:=xP f3
 obtain ⟨o4,e4⟩:=xP f1
 have l3:=(z9 o3).1
 have l4:=(z9 o4).1
 have hl:0<(S.f0 (V3.natAbs:Int)).length:=yc (by omega)
 rw [e3,e4]
 with_reducible refine zH (decide_eq_true ⟨⟨⟨by omega,by omega⟩,by omega,by omega⟩,o4,o3,hl⟩) ?_
 exact zG.mpr rfl
theorem k532_ok:k532.ok Tryz.prog:=by
 intro x hx
 obtain ⟨⟨n1,⟨ap,np,mp,tp,_⟩,n2,⟨aq,nq,mq,tq,_⟩,_⟩,⟨n3,⟨au,nu,mu,tu,_⟩,n4,⟨aw,nw,mw,tw,_⟩,_⟩,_⟩:=x
 obtain ⟨h1,h2⟩:=a532 n1 ap np mp tp n2 aq nq mq tq n3 au nu mu tu n4 aw nw mw tw (s532 n1 ap np mp tp n2 aq nq mq tq n3 au nu mu tu n4 aw nw mw tw (zm hx rfl))
 exact ⟨⟨400,(by decide:4+1+2≤400),h1⟩,h2⟩
section
variable (fR:TT) (fS:KS) (fT:KR) (n1:Bool) (ap np mp:Nat) (tp:NI) (n2:Bool) (aq nq mq:Nat) (tq:NI) (n3:Bool) (au nu mu:Nat) (tu:NI) (n4:Bool) (aw nw mw:Nat) (tw:NI)
abbrev St533:=Empty
abbrev Rt533:=Bool×Bool×Int×List Int×List Int
noncomputable def V533 (r:Rt533):PV:= .tup [.agg [.bool r.1,.own 5 1 r.2.2.2.1.length,.bool r.2.1,.own 6 1 r.2.2.2.2.length],.int .i64 r.2.2.1]
noncomputable def N533 (r:Rt533):List Blk:= [CI r.2.2.2.1,CI r.2.2.2.2]
noncomputable def I533:St533→Hd:=fun s=>s.elim
noncomputable def q533 (n1:Bool) (ap np mp:Nat) (tp:NI) (n2:Bool) (aq nq mq:Nat) (tq:NI) (n3:Bool) (au nu mu:Nat) (tu:NI) (n4:Bool) (aw nw mw:Nat) (tw:NI):St533→Option (St533⊕Rt533):=q532 n1 ap np mp tp n2 aq nq mq tq n3 au nu mu tu n4 aw nw mw tw
noncomputable def p533 (n1:Bool) (ap np mp:Nat) (tp:NI) (n2:Bool) (aq nq mq:Nat) (tq:NI) (n3:Bool) (au nu mu:Nat) (tu:NI) (n4:Bool) (aw nw mw:Nat) (tw:NI):Option (St533⊕Rt533):=p532 n1 ap np mp tp n2 aq nq mq tq n3 au nu mu tu n4 aw nw mw tw
def Te533:Prop:=fR (decide ((ap+np≤mp∧np≤1000000)∧aq+nq≤mq∧nq≤1000000)) (fR (S.fY n1 np (FS tp ap) n2 nq (FS tq aq)) (fR (decide ((au+nu≤mu∧nu≤1000000)∧aw+nw≤mw∧nw≤1000000)) (fR (S.fY n3 nu (FS tu au) n4 nw (FS tw aw)) (fR ((nu:Int)==0) (fT (.tup [.agg [.tf false,.nils,.tf false,.nils],.int .i64 13]) (c532_e_2 mp tp mq tq mu tu mw tw) 10) (fR (S.fj n1 np (FS tp ap) n4 nw (FS tw aw)) (fR (decide (((ap+np≤mp∧np≤1000000)∧aw+nw≤mw∧nw≤1000000)∧(S.fV n1 np (FS tp ap))=true∧(S.fV n4 nw (FS tw aw))=true∧(S.fj n1 np (FS tp ap) n4 nw (FS tw aw))=true)) (fR (S.fj n2 nq (FS tq aq) n3 nu (FS tu au)) (fR (decide (((aq+nq≤mq∧nq≤1000000)∧au+nu≤mu∧nu≤1000000)∧(S.fV n2 nq (FS tq aq))=true∧(S.fV n3 nu (FS tu au))=true∧(S.fj n2 nq (FS tq aq) n3 nu (FS tu au))=true)) (fR (c532_e_1 n1 ap np tp n2 aq nq tq n3 au nu tu n4 aw nw tw) (fT (.tup [.agg [.bool (c532_e_0 n1 ap np tp n2 aq nq tq n3 au nu tu n4 aw nw tw).1,.own 22 1 (c532_e_0 n1 ap np tp n2 aq nq tq n3 au nu tu n4 aw nw tw).2.2.1.length,.bool (c532_e_0 n1 ap np tp n2 aq nq tq n3 au nu tu n4 aw nw tw).2.1,.own 23 1 (c532_e_0 n1 ap np tp n2 aq nq tq n3 au nu tu n4 aw nw tw).2.2.2.length],.int .i64 0]) ([[(3,false,CB mw tw),(2,false,CB mu tu),(1,false,CB mq tq),(0,false,CB mp tp),(23,true,CI (c532_e_0 n1 ap np tp n2 aq nq tq n3 au nu tu n4 aw nw tw).2.2.2),(22,true,CI (c532_e_0 n1 ap np tp n2 aq nq tq n3 au nu tu n4 aw nw tw).2.2.1)]]) 24) False) False) (fR (decide (((aq+nq≤mq∧nq≤1000000)∧au+nu≤mu∧nu≤1000000)∧(S.fV n2 nq (FS tq aq))=true∧(S.fV n3 nu (FS tu au))=true∧(S.fj n2 nq (FS tq aq) n3 nu (FS tu au))=false)) (fT (.tup [.agg [.tf false,.nils,.tf false,.nils],.int .i64 3]) (c532_e_2 mp tp mq tq mu tu mw tw) 21) False)) False) (fR (decide (((ap+np≤mp∧np≤1000000)∧aw+nw≤mw∧nw≤1000000)∧(S.fV n1 np (FS tp ap))=true∧(S.fV n4 nw (FS tw aw))=true∧(S.fj n1 np (FS tp ap) n4 nw (FS tw aw))=false)) (fT (.tup [.agg [.tf false,.nils,.tf false,.nils],.int .i64 3]) (c532_e_2 mp tp mq tq mu tu mw tw) 18) False))) (fT (.tup [.agg [.tf false,.nils,.tf false,.nils],.int .i64 1]) (c532_e_2 mp tp mq tq mu tu mw tw) 9)) False) (fT (.tup [.agg [.tf false,.nils,.tf false,.nils],.int .i64 1]) (c532_e_2 mp tp mq tq mu tu mw tw) 8)) False
theorem te533:run cond Tryz.env true (xR8 cond) false 400 ⟨33,[.cd (zU Tryz.f33).body],z8 0 [.agg [.bool n1,.loose ⟨0,1,ap,0⟩ np,.bool n2,.loose ⟨1,1,aq,0⟩ nq],.agg [.bool n3,.loose ⟨2,1,au,0⟩ nu,.bool n4,.loose ⟨3,1,aw,0⟩ nw]],[[],[(0,(false,CB mp tp)),(1,(false,CB mq tq)),(2,(false,CB mu tu)),(3,(false,CB mw tw))]],4⟩ (zr 4 [] fS fT)=
 Te533 cond fT n1 ap np mp tp n2 aq nq mq tq n3 au nu mu tu n4 aw nw mw tw:=by kernel_rfl
noncomputable abbrev J533:Rt533→zS:=fun r=> [yC (4+1) ((N533) r)++ [(0,(false,CB mp tp)),(1,(false,CB mq tq)),(2,(false,CB mu tu)),(3,(false,CB mw tw))]]
attribute [local irreducible] Int.subNatNat in
theorem a533 {r:Rt533} (h:zY ((q533 n1 ap np mp tp n2 aq nq mq tq n3 au nu mu tu n4 aw nw mw tw)) ((p533 n1 ap np mp tp n2 aq nq mq tq n3 au nu mu tu n4 aw nw mw tw)) r):zn Tryz.prog 33 [.agg [.bool n1,.loose ⟨0,1,ap,0⟩ np,.bool n2,.loose ⟨1,1,aq,0⟩ nq],.agg [.bool n3,.loose ⟨2,1,au,0⟩ nu,.bool n4,.loose ⟨3,1,aw,0⟩ nw]] [[(0,(false,CB mp tp)),(1,(false,CB mq tq)),(2,(false,CB mu tu)),(3,(false,CB mw tw))]] 4 ((V533) r) ((J533 mp tp mq tq mu tu mw tw) r) 400∧HB Tryz.prog 33:=by
 refine wP Tryz.envOk Tryz.mixed tC ((I533)) ((V533)) (J533 mp tp mq tq mu tu mw tw) (fn:=zU Tryz.f33) (n:=400) rfl (by decide) (by simp) (zW rfl) ?_ h
 · intro fS fT x hS hR h
   refine Holds.eq (te533 fS fT n1 ap np mp tp n2 aq nq mq tq n3 au nu mu tu n4 aw nw mw tw) ?_
   unfold Te533
   unfold p533 p532 at h
   refine zA h (fun c0 h=>zA h (fun c1 h=>zA h (fun c2 h=>zA h (fun c3 h=>zA h (fun c4 h=> ?_) (fun c4 h=>zA h (fun c5 h=>zA h (fun c6 h=>zA h (fun c7 h=>zA h (fun c8 h=>zA h (fun c9 h=>zV hR _ h (fun n=>bif Nat.beq n 5 then 22 else bif Nat.beq n 6 then 23 else n) rfl rfl rfl (zk ⟨(zc ⟨(zj rfl),(zX (zD rfl) rfl rfl),(zj rfl),(zX (zD rfl) rfl rfl),trivial⟩),(zI rfl),trivial⟩) rfl (zL (zD rfl) rfl (Nat.le_of_eq rfl) (zN (fun _ _=>rfl) zM) (zL (zD rfl) rfl (Nat.le_of_eq rfl) (zN (fun _ _=>rfl) zM) (zB (zC rfl) rfl rfl (zB (zC rfl) rfl rfl (zB (zC rfl) rfl rfl (zB (zC rfl) rfl rfl zE))))))) (fun c9 h=> ?_)) (fun c8 h=> ?_)) (fun c7 h=>zA h (fun c8 h=> ?_) (fun c8 h=> ?_))) (fun c6 h=> ?_)) (fun c5 h=>zA h (fun c6 h=> ?_) (fun c6 h=> ?_)))) (fun c3 h=> ?_)) (fun c2 h=> ?_)) (fun c1 h=> ?_)) (fun c0 h=> ?_)
   all_goals first
     |exact zF h
     |exact zV hR _ h (fun n=>bif Nat.beq n 5 then 399 else bif Nat.beq n 6 then 398 else n) rfl rfl rfl (zk ⟨(zc ⟨(zR rfl),(zO rfl),(zR rfl),(zO rfl),trivial⟩),(zI rfl),trivial⟩) rfl (zT (zD rfl) (za rfl) (zT (zD rfl) (za rfl) (zB (zC rfl) rfl rfl (zB (zC rfl) rfl rfl (zB (zC rfl) rfl rfl (zB (zC rfl) rfl rfl zE))))))
end
noncomputable def k533:Con:=⟨33,[.agg [.plain (.bool),.list [.int .i64],.plain (.bool),.list [.int .i64]],.agg [.plain (.bool),.list [.int .i64],.plain (.bool),.list [.int .i64]]],w518 (fun n1 ap np mp tp n2 aq nq mq tq n3 au nu mu tu n4 aw nw mw tw=>decide (((ap+np≤mp∧np≤1000000)∧aq+nq≤mq∧nq≤1000000)∧(au+nu≤mu∧nu≤1000000)∧aw+nw≤mw∧nw≤1000000)),w518 (fun n1 ap np mp tp n2 aq nq mq tq n3 au nu mu tu n4 aw nw mw tw=>(V533) (S.eN n1 np (FS tp ap) n2 nq (FS tq aq) n3 nu (FS tu au) n4 nw (FS tw aw))),w518 (fun n1 ap np mp tp n2 aq nq mq tq n3 au nu mu tu n4 aw nw mw tw=>(N533) (S.eN n1 np (FS tp ap) n2 nq (FS tq aq) n3 nu (FS tu au) n4 nw (FS tw aw))),fun _ _=> .dead⟩
theorem s533 (n1:Bool) (ap np mp:Nat) (tp:Nat→Int) (n2:Bool) (aq nq mq:Nat) (tq:Nat→Int) (n3:Bool) (au nu mu:Nat) (tu:Nat→Int) (n4:Bool) (aw nw mw:Nat) (tw:Nat→Int) (hp:((ap+np≤mp∧np≤1000000)∧aq+nq≤mq∧nq≤1000000)∧(au+nu≤mu∧nu≤1000000)∧aw+nw≤mw∧nw≤1000000):zY ((q533 n1 ap np mp tp n2 aq nq mq tq n3 au nu mu tu n4 aw nw mw tw)) ((p533 n1 ap np mp tp n2 aq nq mq tq n3 au nu mu tu n4 aw nw mw tw)) (((S.eN n1 np (fun j=>tp (j+ap)) n2 nq (fun j=>tq (j+aq)) n3 nu (fun j=>tu (j+au)) n4 nw (fun j=>tw (j+aw))).1,(S.eN n1 np (fun j=>tp (j+ap)) n2 nq (fun j=>tq (j+aq)) n3 nu (fun j=>tu (j+au)) n4 nw (fun j=>tw (j+aw))).2.1,(S.eN n1 np (fun j=>tp (j+ap)) n2 nq (fun j=>tq (j+aq)) n3 nu (fun j=>tu (j+au)) n4 nw (fun j=>tw (j+aw))).2.2.1,(S.eN n1 np (fun j=>tp (j+ap)) n2 nq (fun j=>tq (j+aq)) n3 nu (fun j=>tu (j+au)) n4 nw (fun j=>tw (j+aw))).2.2.2.1,(S.eN n1 np (fun j=>tp (j+ap)) n2 nq (fun j=>tq (j+aq)) n3 nu (fun j=>tu (j+au)) n4 nw (fun j=>tw (j+aw))).2.2.2.2)):=s532 n1 ap np mp tp n2 aq nq mq tq n3 au nu mu tu n4 aw nw mw tw hp
theorem k533_ok:k533.ok Tryz.prog:=by
 intro x hx
 obtain ⟨⟨n1,⟨ap,np,mp,tp,_⟩,n2,⟨aq,nq,mq,tq,_⟩,_⟩,⟨n3,⟨au,nu,mu,tu,_⟩,n4,⟨aw,nw,mw,tw,_⟩,_⟩,_⟩:=x
 obtain ⟨h1,h2⟩:=a533 n1 ap np mp tp n2 aq nq mq tq n3 au nu mu tu n4 aw nw mw tw (s533 n1 ap np mp tp n2 aq nq mq tq n3 au nu mu tu n4 aw nw mw tw (zm hx rfl))
 exact ⟨⟨400,(by decide:4+1+2≤400),h1⟩,h2⟩
namespace S
noncomputable def fIdx (s:ByteArray) (c:Int):Int:=firstIdx s c.toNat.toUInt8
end S
set_option maxHeartbeats 400000 in
theorem jc (s:ByteArray) (c:Int) (w:World):Calls Tryz.prog 151 #[.string s,.int .u8 c] w fun e w'=>e= .returned (.int .i64 (S.fIdx s c))∧w=w':=by
 have hd: ∀ W:World,(callFunc 160 #[.string s,.int .u8 c]).run Tryz.prog W= .ok (.value (.int .i64 (firstIdx s c.toNat.toUInt8))) W:=fun W=>by
  rw [run_callFunc_indexByte Tryz.func160 (by kernel_rfl) (by kernel_rfl) (by kernel_rfl) (by kernel_rfl),run_indexByte_string]; rfl
 go_enter Tryz.func151,Tryz.ntmps151
 go_wp2
 go_ret
 exact ⟨rfl,rfl⟩
noncomputable def k93:Con:=⟨151,[.one (.plain .str),.one (.plain (.int .u8))],fun _=>true,fun x=> .int .i64 (S.fIdx x.1 x.2.1),fun _=> [],fun _ _=> .dead⟩
theorem k93_ok:k93.ok Tryz.prog:=by
 intro x hx
 obtain ⟨s,c,_⟩:=x
 refine ⟨⟨1,Nat.le_refl _,fun σ w vals hv hs hn=> ?_⟩,Tryz.f151,Tryz.func151,by kernel_rfl,by kernel_rfl⟩
 have e:vals= #[.string s,.int .u8 c]:=by
  obtain ⟨l⟩:=vals
  cases hv with
  | cons _ _ _ _ h1 hl=>
   cases hl with
   |cons _ _ _ _ h2 hl=>
    cases hl
    cases h1; cases h2; rfl
 rw [e]
 refine (jc s c w).mono fun e w' h=> ?_
 obtain ⟨he,hw⟩:=h
 subst hw
 exact ⟨_,σ,he,⟨.int _ _,hs,Mono.refl σ,fun _ _=>rfl,Frm.refl w _⟩⟩
noncomputable def xIX (fR:Bool→Prop→Prop→Prop):Ext:=y2 fR [k93]
theorem gb:yT Tryz.prog (xIX cond):=yH ⟨k93_ok,trivial⟩
noncomputable def k512:Con:=⟨12,[],fun _=>true,fun _=> .bool true,fun _=> [],fun _ _=> .dead⟩
theorem te512 (fS:KS) (fT:KR):run cond Tryz.env true (xIX cond) false 4000 ⟨12,[.cd (zU Tryz.f12).body],[],[[],[]],0⟩ (zr 0 [] fS fT)=fT (.tf true) [[]] 860:=by kernel_rfl
theorem k512_ok:k512.ok Tryz.prog:=my (fn:=zU Tryz.f12) (hi:=861) (n:=4000) Tryz.envOk Tryz.mixed gb rfl (by decide) (by decide:Nat.ble 860 861=true) te512
noncomputable def xRA (fR:Bool→Prop→Prop→Prop):Ext:=y2 fR [k512,k518,k522,k526,k527,k528,k529,k530,k531,k532,k533]
theorem gf:yT Tryz.prog (xRA cond):=yH ⟨k512_ok,k518_ok,k522_ok,k526_ok,k527_ok,k528_ok,k529_ok,k530_ok,k531_ok,k532_ok,k533_ok,trivial⟩
theorem vj {L M:List Int} {c1 c2:Bool}:S.ft c1 L.length (fun j=>S.at' L j) c2 M.length (fun j=>S.at' M j) c1 L.length (fun j=>S.at' L j) c2 M.length (fun j=>S.at' M j)=true:=by
 unfold S.ft
 rw [rU,rU]; rfl
theorem km {a c:Int} (hc:c≠0) (la:(a.natAbs:Int)<S.pw 80) (lc:(c.natAbs:Int)<S.pw 80):(S.fx a c).2.2.2.1.length≤80∧(S.fx a c).2.2.2.2.length≤80:=by
 have h1:=iL (a:=a) hc
 have h2:=iI (a:=a) hc
 exact ⟨zw (by omega),zw (by omega)⟩
structure vy (e:Bool×Bool×Int×List Int×List Int):Prop where
 l1:e.2.2.2.1.length≤80
 l2:e.2.2.2.2.length≤80
 ok:e.2.2.1=0→S.fY e.1 e.2.2.2.1.length (fun j=>S.at' e.2.2.2.1 j) e.2.1 e.2.2.2.2.length (fun j=>S.at' e.2.2.2.2 j)=true
theorem ui {k:Int} (h:k≠0):vy (false,false,k,[],[]):=⟨Nat.zero_le _,Nat.zero_le _,fun e=>absurd e h⟩
theorem pJ {a c:Int} (hc:c≠0) (fa:S.fl a=true) (fc:S.fl c=true):vy (S.fx a c):=by
 have la:=p5 fa
 have lc:=p5 fc
 obtain ⟨h1,h2⟩:=km hc la lc
 have n1:=iL (a:=a) hc
 have n2:=iI (a:=a) hc
 have dp:=lZ (a:=a) hc
 refine ⟨h1,h2,fun _=>yf.mpr ?_⟩
 have o1:=ic (v:=S.rn a c) (by omega)
 have o2:=pL (r:=S.rd a c) (by omega) (by omega)
 refine ⟨o1.1,o2.1,rfl,yc dp,?_⟩
 have e1:S.val (S.fx a c).2.2.2.1.length (fun j=>S.at' (S.fx a c).2.2.2.1 j)=((S.rn a c).natAbs:Int):=zq (by omega)
 have e2:S.val (S.fx a c).2.2.2.2.length (fun j=>S.at' (S.fx a c).2.2.2.2 j)=S.rd a c:=zq (by omega)
 rw [e1,e2]
 have:=kX (a:=a) hc
 unfold S.fh at this ⊢
 unfold Int.gcd at this ⊢
 rw [Int.natAbs_natCast]
 exact this
theorem pl {a c a' c':Int} (h:c*c'≠0):vy (S.eE a c a' c'):=by
 unfold S.eE
 split
 · rename_i f; exact pJ h f.2.2.1 f.2.2.2
 · exact ui (by decide)
theorem ph {a c a' c':Int} (h:c*c'≠0):vy (S.eF a c a' c'):=by
 unfold S.eF
 split
 · rename_i f; exact pJ h f.1 f.2
 · exact ui (by decide)
theorem tv {g:Int→Int→Int→Int→Bool×Bool×Int×List Int×List Int} (hg: ∀ a c a' c',0<c→0<c'→vy (g a c a' c')) {n1:Bool} {n:Nat} {t:Nat→Int} {n2:Bool} {m:Nat} {u:Nat→Int} {n3:Bool} {n':Nat} {t':Nat→Int} {n4:Bool} {m':Nat} {u':Nat→Int}:vy (S.opR g n1 n t n2 m u n3 n' t' n4 m' u'):=by
 unfold S.opR
 split
 · rename_i h
   obtain ⟨-,a2,a3,a4,-⟩:=yf.mp h.1
   obtain ⟨-,b2,b3,b4,-⟩:=yf.mp h.2
   exact hg _ _ _ _ (xI a2 a3 a4) (xI b2 b3 b4)
 · exact ui (by decide)
section
variable {n1:Bool} {n:Nat} {t:Nat→Int} {n2:Bool} {m:Nat} {u:Nat→Int} {n3:Bool} {n':Nat} {t':Nat→Int} {n4:Bool} {m':Nat} {u':Nat→Int}
theorem mO:vy (S.eJ n1 n t n2 m u n3 n' t' n4 m' u'):=tv fun a c a' c' h1 h2=>pl (by have:=Int.mul_pos h1 h2; omega)
theorem mS:vy (S.eK n1 n t n2 m u n3 n' t' n4 m' u'):=tv fun a c a' c' h1 h2=>pl (by have:=Int.mul_pos h1 h2; omega)
theorem mV:vy (S.eM n1 n t n2 m u n3 n' t' n4 m' u'):=tv fun a c a' c' h1 h2=>ph (by have:=Int.mul_pos h1 h2; omega)
theorem mF:vy (S.eN n1 n t n2 m u n3 n' t' n4 m' u'):=tv fun a c a' c' h1 h2=>by
 unfold S.eI
 split
 · exact ui (by decide)
 · rename_i h; exact ph (Int.mul_ne_zero (by omega) h)
end
section
variable (fR:TT) (fS:KS) (fT:KR) (n1:Bool) (ap np mp:Nat) (tp:NI) (n2:Bool) (aq nq mq:Nat) (tq:NI) (n3:Bool) (au nu mu:Nat) (tu:NI) (n4:Bool) (aw nw mw:Nat) (tw:NI)
noncomputable abbrev c506_e_0:=S.eN n1 np (fun j=>tp (j+ap)) n2 nq (fun j=>tq (j+aq)) n3 nu (fun j=>tu (j+au)) n4 nw fun j=>tw (j+aw)
noncomputable abbrev c506_e_1:=S.eM n1 np (fun j=>tp (j+ap)) n2 nq (fun j=>tq (j+aq)) n3 nu (fun j=>tu (j+au)) n4 nw fun j=>tw (j+aw)
noncomputable abbrev c506_e_2:=S.eK n1 np (fun j=>tp (j+ap)) n2 nq (fun j=>tq (j+aq)) n3 nu (fun j=>tu (j+au)) n4 nw fun j=>tw (j+aw)
noncomputable abbrev c506_e_3:=decide (((0+(c506_e_0 n1 ap np tp n2 aq nq tq n3 au nu tu n4 aw nw tw).2.2.2.1.length≤(c506_e_0 n1 ap np tp n2 aq nq tq n3 au nu tu n4 aw nw tw).2.2.2.1.length∧(c506_e_0 n1 ap np tp n2 aq nq tq n3 au nu tu n4 aw nw tw).2.2.2.1.length≤1000000)∧0+(c506_e_0 n1 ap np tp n2 aq nq tq n3 au nu tu n4 aw nw tw).2.2.2.2.length≤(c506_e_0 n1 ap np tp n2 aq nq tq n3 au nu tu n4 aw nw tw).2.2.2.2.length∧(c506_e_0 n1 ap np tp n2 aq nq tq n3 au nu tu n4 aw nw tw).2.2.2.2.length≤1000000)∧(0+(c506_e_0 n1 ap np tp n2 aq nq tq n3 au nu tu n4 aw nw tw).2.2.2.1.length≤(c506_e_0 n1 ap np tp n2 aq nq tq n3 au nu tu n4 aw nw tw).2.2.2.1.length∧(c506_e_0 n1 ap np tp n2 aq nq tq n3 au nu tu n4 aw nw tw).2.2.2.1.length≤1000000)∧0+(c506_e_0 n1 ap np tp n2 aq nq tq n3 au nu tu n4 aw nw tw).2.2.2.2.length≤(c506_e_0 n1 ap np tp n2 aq nq tq n3 au nu tu n4 aw nw tw).2.2.2.2.length∧(c506_e_0 n1 ap np tp n2 aq nq tq n3 au nu tu n4 aw nw tw).2.2.2.2.length≤1000000)
noncomputable abbrev c506_e_4:=S.ft (c506_e_0 n1 ap np tp n2 aq nq tq n3 au nu tu n4 aw nw tw).1 (c506_e_0 n1 ap np tp n2 aq nq tq n3 au nu tu n4 aw nw tw).2.2.2.1.length (fun j=>S.at' (c506_e_0 n1 ap np tp n2 aq nq tq n3 au nu tu n4 aw nw tw).2.2.2.1 j) (c506_e_0 n1 ap np tp n2 aq nq tq n3 au nu tu n4 aw nw tw).2.1 (c506_e_0 n1 ap np tp n2 aq nq tq n3 au nu tu n4 aw nw tw).2.2.2.2.length (fun j=>S.at' (c506_e_0 n1 ap np tp n2 aq nq tq n3 au nu tu n4 aw nw tw).2.2.2.2 j) (c506_e_0 n1 ap np tp n2 aq nq tq n3 au nu tu n4 aw nw tw).1 (c506_e_0 n1 ap np tp n2 aq nq tq n3 au nu tu n4 aw nw tw).2.2.2.1.length (fun j=>S.at' (c506_e_0 n1 ap np tp n2 aq nq tq n3 au nu tu n4 aw nw tw).2.2.2.1 j) (c506_e_0 n1 ap np tp n2 aq nq tq n3 au nu tu n4 aw nw tw).2.1 (c506_e_0 n1 ap np tp n2 aq nq tq n3 au nu tu n4 aw nw tw).2.2.2.2.length fun j=>S.at' (c506_e_0 n1 ap np tp n2 aq nq tq n3 au nu tu n4 aw nw tw).2.2.2.2 j
noncomputable abbrev c506_e_5:= [[(3,false,Blk.cols mw [Col.int .i64 tw]),(2,false,Blk.cols mu [Col.int .i64 tu]),(1,false,Blk.cols mq [Col.int .i64 tq]),(0,false,Blk.cols mp [Col.int .i64 tp])]]
noncomputable abbrev c506_e_6:=S.eJ n1 np (fun j=>tp (j+ap)) n2 nq (fun j=>tq (j+aq)) n3 nu (fun j=>tu (j+au)) n4 nw fun j=>tw (j+aw)
noncomputable abbrev c506_e_7:=decide (((0+(c506_e_1 n1 ap np tp n2 aq nq tq n3 au nu tu n4 aw nw tw).2.2.2.1.length≤(c506_e_1 n1 ap np tp n2 aq nq tq n3 au nu tu n4 aw nw tw).2.2.2.1.length∧(c506_e_1 n1 ap np tp n2 aq nq tq n3 au nu tu n4 aw nw tw).2.2.2.1.length≤1000000)∧0+(c506_e_1 n1 ap np tp n2 aq nq tq n3 au nu tu n4 aw nw tw).2.2.2.2.length≤(c506_e_1 n1 ap np tp n2 aq nq tq n3 au nu tu n4 aw nw tw).2.2.2.2.length∧(c506_e_1 n1 ap np tp n2 aq nq tq n3 au nu tu n4 aw nw tw).2.2.2.2.length≤1000000)∧(0+(c506_e_1 n1 ap np tp n2 aq nq tq n3 au nu tu n4 aw nw tw).2.2.2.1.length≤(c506_e_1 n1 ap np tp n2 aq nq tq n3 au nu tu n4 aw nw tw).2.2.2.1.length∧(c506_e_1 n1 ap np tp n2 aq nq tq n3 au nu tu n4 aw nw tw).2.2.2.1.length≤1000000)∧0+(c506_e_1 n1 ap np tp n2 aq nq tq n3 au nu tu n4 aw nw tw).2.2.2.2.length≤(c506_e_1 n1 ap np tp n2 aq nq tq n3 au nu tu n4 aw nw tw).2.2.2.2.length∧(c506_e_1 n1 ap np tp n2 aq nq tq n3 au nu tu n4 aw nw tw).2.2.2.2.length≤1000000)
noncomputable abbrev c506_e_8:=decide ((0+(c506_e_0 n1 ap np tp n2 aq nq tq n3 au nu tu n4 aw nw tw).2.2.2.1.length≤(c506_e_0 n1 ap np tp n2 aq nq tq n3 au nu tu n4 aw nw tw).2.2.2.1.length∧(c506_e_0 n1 ap np tp n2 aq nq tq n3 au nu tu n4 aw nw tw).2.2.2.1.length≤1000000)∧0+(c506_e_0 n1 ap np tp n2 aq nq tq n3 au nu tu n4 aw nw tw).2.2.2.2.length≤(c506_e_0 n1 ap np tp n2 aq nq tq n3 au nu tu n4 aw nw tw).2.2.2.2.length∧(c506_e_0 n1 ap np tp n2 aq nq tq n3 au nu tu n4 aw nw tw).2.2.2.2.length≤1000000)
noncomputable abbrev c506_e_9:=S.ft (c506_e_1 n1 ap np tp n2 aq nq tq n3 au nu tu n4 aw nw tw).1 (c506_e_1 n1 ap np tp n2 aq nq tq n3 au nu tu n4 aw nw tw).2.2.2.1.length (fun j=>S.at' (c506_e_1 n1 ap np tp n2 aq nq tq n3 au nu tu n4 aw nw tw).2.2.2.1 j) (c506_e_1 n1 ap np tp n2 aq nq tq n3 au nu tu n4 aw nw tw).2.1 (c506_e_1 n1 ap np tp n2 aq nq tq n3 au nu tu n4 aw nw tw).2.2.2.2.length (fun j=>S.at' (c506_e_1 n1 ap np tp n2 aq nq tq n3 au nu tu n4 aw nw tw).2.2.2.2 j) (c506_e_1 n1 ap np tp n2 aq nq tq n3 au nu tu n4 aw nw tw).1 (c506_e_1 n1 ap np tp n2 aq nq tq n3 au nu tu n4 aw nw tw).2.2.2.1.length (fun j=>S.at' (c506_e_1 n1 ap np tp n2 aq nq tq n3 au nu tu n4 aw nw tw).2.2.2.1 j) (c506_e_1 n1 ap np tp n2 aq nq tq n3 au nu tu n4 aw nw tw).2.1 (c506_e_1 n1 ap np tp n2 aq nq tq n3 au nu tu n4 aw nw tw).2.2.2.2.length fun j=>S.at' (c506_e_1 n1 ap np tp n2 aq nq tq n3 au nu tu n4 aw nw tw).2.2.2.2 j
noncomputable abbrev c506_e_10:=S.fY (c506_e_0 n1 ap np tp n2 aq nq tq n3 au nu tu n4 aw nw tw).1 (c506_e_0 n1 ap np tp n2 aq nq tq n3 au nu tu n4 aw nw tw).2.2.2.1.length (fun j=>S.at' (c506_e_0 n1 ap np tp n2 aq nq tq n3 au nu tu n4 aw nw tw).2.2.2.1 j) (c506_e_0 n1 ap np tp n2 aq nq tq n3 au nu tu n4 aw nw tw).2.1 (c506_e_0 n1 ap np tp n2 aq nq tq n3 au nu tu n4 aw nw tw).2.2.2.2.length fun j=>S.at' (c506_e_0 n1 ap np tp n2 aq nq tq n3 au nu tu n4 aw nw tw).2.2.2.2 j
noncomputable abbrev c506_e_11:=decide (((0+(c506_e_2 n1 ap np tp n2 aq nq tq n3 au nu tu n4 aw nw tw).2.2.2.1.length≤(c506_e_2 n1 ap np tp n2 aq nq tq n3 au nu tu n4 aw nw tw).2.2.2.1.length∧(c506_e_2 n1 ap np tp n2 aq nq tq n3 au nu tu n4 aw nw tw).2.2.2.1.length≤1000000)∧0+(c506_e_2 n1 ap np tp n2 aq nq tq n3 au nu tu n4 aw nw tw).2.2.2.2.length≤(c506_e_2 n1 ap np tp n2 aq nq tq n3 au nu tu n4 aw nw tw).2.2.2.2.length∧(c506_e_2 n1 ap np tp n2 aq nq tq n3 au nu tu n4 aw nw tw).2.2.2.2.length≤1000000)∧(0+(c506_e_2 n1 ap np tp n2 aq nq tq n3 au nu tu n4 aw nw tw).2.2.2.1.length≤(c506_e_2 n1 ap np tp n2 aq nq tq n3 au nu tu n4 aw nw tw).2.2.2.1.length∧(c506_e_2 n1 ap np tp n2 aq nq tq n3 au nu tu n4 aw nw tw).2.2.2.1.length≤1000000)∧0+(c506_e_2 n1 ap np tp n2 aq nq tq n3 au nu tu n4 aw nw tw).2.2.2.2.length≤(c506_e_2 n1 ap np tp n2 aq nq tq n3 au nu tu n4 aw nw tw).2.2.2.2.length∧(c506_e_2 n1 ap np tp n2 aq nq tq n3 au nu tu n4 aw nw tw).2.2.2.2.length≤1000000)
noncomputable abbrev c506_e_12:=decide ((0+(c506_e_1 n1 ap np tp n2 aq nq tq n3 au nu tu n4 aw nw tw).2.2.2.1.length≤(c506_e_1 n1 ap np tp n2 aq nq tq n3 au nu tu n4 aw nw tw).2.2.2.1.length∧(c506_e_1 n1 ap np tp n2 aq nq tq n3 au nu tu n4 aw nw tw).2.2.2.1.length≤1000000)∧0+(c506_e_1 n1 ap np tp n2 aq nq tq n3 au nu tu n4 aw nw tw).2.2.2.2.length≤(c506_e_1 n1 ap np tp n2 aq nq tq n3 au nu tu n4 aw nw tw).2.2.2.2.length∧(c506_e_1 n1 ap np tp n2 aq nq tq n3 au nu tu n4 aw nw tw).2.2.2.2.length≤1000000)
noncomputable abbrev c506_e_13:=S.ft (c506_e_2 n1 ap np tp n2 aq nq tq n3 au nu tu n4 aw nw tw).1 (c506_e_2 n1 ap np tp n2 aq nq tq n3 au nu tu n4 aw nw tw).2.2.2.1.length (fun j=>S.at' (c506_e_2 n1 ap np tp n2 aq nq tq n3 au nu tu n4 aw nw tw).2.2.2.1 j) (c506_e_2 n1 ap np tp n2 aq nq tq n3 au nu tu n4 aw nw tw).2.1 (c506_e_2 n1 ap np tp n2 aq nq tq n3 au nu tu n4 aw nw tw).2.2.2.2.length (fun j=>S.at' (c506_e_2 n1 ap np tp n2 aq nq tq n3 au nu tu n4 aw nw tw).2.2.2.2 j) (c506_e_2 n1 ap np tp n2 aq nq tq n3 au nu tu n4 aw nw tw).1 (c506_e_2 n1 ap np tp n2 aq nq tq n3 au nu tu n4 aw nw tw).2.2.2.1.length (fun j=>S.at' (c506_e_2 n1 ap np tp n2 aq nq tq n3 au nu tu n4 aw nw tw).2.2.2.1 j) (c506_e_2 n1 ap np tp n2 aq nq tq n3 au nu tu n4 aw nw tw).2.1 (c506_e_2 n1 ap np tp n2 aq nq tq n3 au nu tu n4 aw nw tw).2.2.2.2.length fun j=>S.at' (c506_e_2 n1 ap np tp n2 aq nq tq n3 au nu tu n4 aw nw tw).2.2.2.2 j
noncomputable abbrev c506_e_14:=S.fY (c506_e_1 n1 ap np tp n2 aq nq tq n3 au nu tu n4 aw nw tw).1 (c506_e_1 n1 ap np tp n2 aq nq tq n3 au nu tu n4 aw nw tw).2.2.2.1.length (fun j=>S.at' (c506_e_1 n1 ap np tp n2 aq nq tq n3 au nu tu n4 aw nw tw).2.2.2.1 j) (c506_e_1 n1 ap np tp n2 aq nq tq n3 au nu tu n4 aw nw tw).2.1 (c506_e_1 n1 ap np tp n2 aq nq tq n3 au nu tu n4 aw nw tw).2.2.2.2.length fun j=>S.at' (c506_e_1 n1 ap np tp n2 aq nq tq n3 au nu tu n4 aw nw tw).2.2.2.2 j
noncomputable abbrev c506_e_15:=decide (((ap+np≤mp∧np≤1000000)∧aq+nq≤mq∧nq≤1000000)∧(au+nu≤mu∧nu≤1000000)∧aw+nw≤mw∧nw≤1000000)
noncomputable abbrev c506_e_16:=decide (((0+(c506_e_6 n1 ap np tp n2 aq nq tq n3 au nu tu n4 aw nw tw).2.2.2.1.length≤(c506_e_6 n1 ap np tp n2 aq nq tq n3 au nu tu n4 aw nw tw).2.2.2.1.length∧(c506_e_6 n1 ap np tp n2 aq nq tq n3 au nu tu n4 aw nw tw).2.2.2.1.length≤1000000)∧0+(c506_e_6 n1 ap np tp n2 aq nq tq n3 au nu tu n4 aw nw tw).2.2.2.2.length≤(c506_e_6 n1 ap np tp n2 aq nq tq n3 au nu tu n4 aw nw tw).2.2.2.2.length∧(c506_e_6 n1 ap np tp n2 aq nq tq n3 au nu tu n4 aw nw tw).2.2.2.2.length≤1000000)∧(0+(c506_e_6 n1 ap np tp n2 aq nq tq n3 au nu tu n4 aw nw tw).2.2.2.1.length≤(c506_e_6 n1 ap np tp n2 aq nq tq n3 au nu tu n4 aw nw tw).2.2.2.1.length∧(c506_e_6 n1 ap np tp n2 aq nq tq n3 au nu tu n4 aw nw tw).2.2.2.1.length≤1000000)∧0+(c506_e_6 n1 ap np tp n2 aq nq tq n3 au nu tu n4 aw nw tw).2.2.2.2.length≤(c506_e_6 n1 ap np tp n2 aq nq tq n3 au nu tu n4 aw nw tw).2.2.2.2.length∧(c506_e_6 n1 ap np tp n2 aq nq tq n3 au nu tu n4 aw nw tw).2.2.2.2.length≤1000000)
noncomputable abbrev c506_e_17:=decide ((0+(c506_e_2 n1 ap np tp n2 aq nq tq n3 au nu tu n4 aw nw tw).2.2.2.1.length≤(c506_e_2 n1 ap np tp n2 aq nq tq n3 au nu tu n4 aw nw tw).2.2.2.1.length∧(c506_e_2 n1 ap np tp n2 aq nq tq n3 au nu tu n4 aw nw tw).2.2.2.1.length≤1000000)∧0+(c506_e_2 n1 ap np tp n2 aq nq tq n3 au nu tu n4 aw nw tw).2.2.2.2.length≤(c506_e_2 n1 ap np tp n2 aq nq tq n3 au nu tu n4 aw nw tw).2.2.2.2.length∧(c506_e_2 n1 ap np tp n2 aq nq tq n3 au nu tu n4 aw nw tw).2.2.2.2.length≤1000000)
noncomputable abbrev c506_e_18:=S.ft (c506_e_6 n1 ap np tp n2 aq nq tq n3 au nu tu n4 aw nw tw).1 (c506_e_6 n1 ap np tp n2 aq nq tq n3 au nu tu n4 aw nw tw).2.2.2.1.length (fun j=>S.at' (c506_e_6 n1 ap np tp n2 aq nq tq n3 au nu tu n4 aw nw tw).2.2.2.1 j) (c506_e_6 n1 ap np tp n2 aq nq tq n3 au nu tu n4 aw nw tw).2.1 (c506_e_6 n1 ap np tp n2 aq nq tq n3 au nu tu n4 aw nw tw).2.2.2.2.length (fun j=>S.at' (c506_e_6 n1 ap np tp n2 aq nq tq n3 au nu tu n4 aw nw tw).2.2.2.2 j) (c506_e_6 n1 ap np tp n2 aq nq tq n3 au nu tu n4 aw nw tw).1 (c506_e_6 n1 ap np tp n2 aq nq tq n3 au nu tu n4 aw nw tw).2.2.2.1.length (fun j=>S.at' (c506_e_6 n1 ap np tp n2 aq nq tq n3 au nu tu n4 aw nw tw).2.2.2.1 j) (c506_e_6 n1 ap np tp n2 aq nq tq n3 au nu tu n4 aw nw tw).2.1 (c506_e_6 n1 ap np tp n2 aq nq tq n3 au nu tu n4 aw nw tw).2.2.2.2.length fun j=>S.at' (c506_e_6 n1 ap np tp n2 aq nq tq n3 au nu tu n4 aw nw tw).2.2.2.2 j
noncomputable abbrev c506_e_19:=S.fY (c506_e_2 n1 ap np tp n2 aq nq tq n3 au nu tu n4 aw nw tw).1 (c506_e_2 n1 ap np tp n2 aq nq tq n3 au nu tu n4 aw nw tw).2.2.2.1.length (fun j=>S.at' (c506_e_2 n1 ap np tp n2 aq nq tq n3 au nu tu n4 aw nw tw).2.2.2.1 j) (c506_e_2 n1 ap np tp n2 aq nq tq n3 au nu tu n4 aw nw tw).2.1 (c506_e_2 n1 ap np tp n2 aq nq tq n3 au nu tu n4 aw nw tw).2.2.2.2.length fun j=>S.at' (c506_e_2 n1 ap np tp n2 aq nq tq n3 au nu tu n4 aw nw tw).2.2.2.2 j
noncomputable abbrev c506_e_20:=(c506_e_0 n1 ap np tp n2 aq nq tq n3 au nu tu n4 aw nw tw).2.2.1 != (c506_e_0 n1 ap np tp n2 aq nq tq n3 au nu tu n4 aw nw tw).2.2.1
noncomputable abbrev c506_e_21:=decide ((0+(c506_e_6 n1 ap np tp n2 aq nq tq n3 au nu tu n4 aw nw tw).2.2.2.1.length≤(c506_e_6 n1 ap np tp n2 aq nq tq n3 au nu tu n4 aw nw tw).2.2.2.1.length∧(c506_e_6 n1 ap np tp n2 aq nq tq n3 au nu tu n4 aw nw tw).2.2.2.1.length≤1000000)∧0+(c506_e_6 n1 ap np tp n2 aq nq tq n3 au nu tu n4 aw nw tw).2.2.2.2.length≤(c506_e_6 n1 ap np tp n2 aq nq tq n3 au nu tu n4 aw nw tw).2.2.2.2.length∧(c506_e_6 n1 ap np tp n2 aq nq tq n3 au nu tu n4 aw nw tw).2.2.2.2.length≤1000000)
noncomputable abbrev c506_e_22:=S.fY (c506_e_6 n1 ap np tp n2 aq nq tq n3 au nu tu n4 aw nw tw).1 (c506_e_6 n1 ap np tp n2 aq nq tq n3 au nu tu n4 aw nw tw).2.2.2.1.length (fun j=>S.at' (c506_e_6 n1 ap np tp n2 aq nq tq n3 au nu tu n4 aw nw tw).2.2.2.1 j) (c506_e_6 n1 ap np tp n2 aq nq tq n3 au nu tu n4 aw nw tw).2.1 (c506_e_6 n1 ap np tp n2 aq nq tq n3 au nu tu n4 aw nw tw).2.2.2.2.length fun j=>S.at' (c506_e_6 n1 ap np tp n2 aq nq tq n3 au nu tu n4 aw nw tw).2.2.2.2 j
noncomputable abbrev c506_e_23:=(c506_e_1 n1 ap np tp n2 aq nq tq n3 au nu tu n4 aw nw tw).2.2.1 != (c506_e_1 n1 ap np tp n2 aq nq tq n3 au nu tu n4 aw nw tw).2.2.1
abbrev St506:=Empty
abbrev Rt506:=Bool
noncomputable def V506 (r:Rt506):PV:= .bool r
noncomputable def N506 (r:Rt506):List Blk:= []
noncomputable def I506:St506→Hd:=fun s=>s.elim
noncomputable def q506 (n1:Bool) (ap np mp:Nat) (tp:NI) (n2:Bool) (aq nq mq:Nat) (tq:NI) (n3:Bool) (au nu mu:Nat) (tu:NI) (n4:Bool) (aw nw mw:Nat) (tw:NI):St506→Option (St506⊕Rt506):=fun s=>s.elim
noncomputable abbrev d506_2 (n1:Bool) (ap np mp:Nat) (tp:NI) (n2:Bool) (aq nq mq:Nat) (tq:NI) (n3:Bool) (au nu mu:Nat) (tu:NI) (n4:Bool) (aw nw mw:Nat) (tw:NI):Option (St506⊕Rt506):=(bif (c506_e_20 n1 ap np tp n2 aq nq tq n3 au nu tu n4 aw nw tw) then (some (.inr false)) else (bif (c506_e_3 n1 ap np tp n2 aq nq tq n3 au nu tu n4 aw nw tw) then (bif (c506_e_4 n1 ap np tp n2 aq nq tq n3 au nu tu n4 aw nw tw) then (bif ((c506_e_0 n1 ap np tp n2 aq nq tq n3 au nu tu n4 aw nw tw).2.2.1==0) then (bif (c506_e_8 n1 ap np tp n2 aq nq tq n3 au nu tu n4 aw nw tw) then (bif (c506_e_10 n1 ap np tp n2 aq nq tq n3 au nu tu n4 aw nw tw) then (some (.inr true)) else (some (.inr false))) else none) else (some (.inr true))) else (some (.inr false))) else none))
noncomputable abbrev d506_0 (n1:Bool) (ap np mp:Nat) (tp:NI) (n2:Bool) (aq nq mq:Nat) (tq:NI) (n3:Bool) (au nu mu:Nat) (tu:NI) (n4:Bool) (aw nw mw:Nat) (tw:NI):Option (St506⊕Rt506):=(bif (c506_e_23 n1 ap np tp n2 aq nq tq n3 au nu tu n4 aw nw tw) then (some (.inr false)) else (bif (c506_e_7 n1 ap np tp n2 aq nq tq n3 au nu tu n4 aw nw tw) then (bif (c506_e_9 n1 ap np tp n2 aq nq tq n3 au nu tu n4 aw nw tw) then (bif ((c506_e_1 n1 ap np tp n2 aq nq tq n3 au nu tu n4 aw nw tw).2.2.1==0) then (bif (c506_e_12 n1 ap np tp n2 aq nq tq n3 au nu tu n4 aw nw tw) then (bif (c506_e_14 n1 ap np tp n2 aq nq tq n3 au nu tu n4 aw nw tw) then (d506_2 n1 ap np mp tp n2 aq nq mq tq n3 au nu mu tu n4 aw nw mw tw) else (some (.inr false))) else none) else (d506_2 n1 ap np mp tp n2 aq nq mq tq n3 au nu mu tu n4 aw nw mw tw)) else (some (.inr false))) else none))
noncomputable abbrev d506_1 (n1:Bool) (ap np mp:Nat) (tp:NI) (n2:Bool) (aq nq mq:Nat) (tq:NI) (n3:Bool) (au nu mu:Nat) (tu:NI) (n4:Bool) (aw nw mw:Nat) (tw:NI):Option (St506⊕Rt506):=(bif ((c506_e_2 n1 ap np tp n2 aq nq tq n3 au nu tu n4 aw nw tw).2.2.1 != (c506_e_2 n1 ap np tp n2 aq nq tq n3 au nu tu n4 aw nw tw).2.2.1) then (some (.inr false)) else (bif (c506_e_11 n1 ap np tp n2 aq nq tq n3 au nu tu n4 aw nw tw) then (bif (c506_e_13 n1 ap np tp n2 aq nq tq n3 au nu tu n4 aw nw tw) then (bif ((c506_e_2 n1 ap np tp n2 aq nq tq n3 au nu tu n4 aw nw tw).2.2.1==0) then (bif (c506_e_17 n1 ap np tp n2 aq nq tq n3 au nu tu n4 aw nw tw) then (bif (c506_e_19 n1 ap np tp n2 aq nq tq n3 au nu tu n4 aw nw tw) then (d506_0 n1 ap np mp tp n2 aq nq mq tq n3 au nu mu tu n4 aw nw mw tw) else (some (.inr false))) else none) else (d506_0 n1 ap np mp tp n2 aq nq mq tq n3 au nu mu tu n4 aw nw mw tw)) else (some (.inr false))) else none))
noncomputable def p506 (n1:Bool) (ap np mp:Nat) (tp:NI) (n2:Bool) (aq nq mq:Nat) (tq:NI) (n3:Bool) (au nu mu:Nat) (tu:NI) (n4:Bool) (aw nw mw:Nat) (tw:NI):Option (St506⊕Rt506):=bif (lim .i64 ((0:Int)+(np:Int))) then (bif (lim .i64 ((0:Int)+(np:Int)+(nq:Int))) then (bif (lim .i64 ((0:Int)+(np:Int)+(nq:Int)+(nu:Int))) then (bif (lim .i64 ((0:Int)+(np:Int)+(nq:Int)+(nu:Int)+(nw:Int))) then (bif (decide ((0:Int)+(np:Int)+(nq:Int)+(nu:Int)+(nw:Int)≤100)) then (bif (c506_e_15 ap np mp aq nq mq au nu mu aw nw mw) then (bif ((c506_e_6 n1 ap np tp n2 aq nq tq n3 au nu tu n4 aw nw tw).2.2.1 != (c506_e_6 n1 ap np tp n2 aq nq tq n3 au nu tu n4 aw nw tw).2.2.1) then (some (.inr false)) else (bif (c506_e_16 n1 ap np tp n2 aq nq tq n3 au nu tu n4 aw nw tw) then (bif (c506_e_18 n1 ap np tp n2 aq nq tq n3 au nu tu n4 aw nw tw) then (bif ((c506_e_6 n1 ap np tp n2 aq nq tq n3 au nu tu n4 aw nw tw).2.2.1==0) then (bif (c506_e_21 n1 ap np tp n2 aq nq tq n3 au nu tu n4 aw nw tw) then (bif (c506_e_22 n1 ap np tp n2 aq nq tq n3 au nu tu n4 aw nw tw) then (d506_1 n1 ap np mp tp n2 aq nq mq tq n3 au nu mu tu n4 aw nw mw tw) else (some (.inr false))) else none) else (d506_1 n1 ap np mp tp n2 aq nq mq tq n3 au nu mu tu n4 aw nw mw tw)) else (some (.inr false))) else none)) else none) else (some (.inr true))) else none) else none) else none) else none
noncomputable abbrev g506_1:Prop:=(fR (c506_e_15 ap np mp aq nq mq au nu mu aw nw mw) (fR (c506_e_15 ap np mp aq nq mq au nu mu aw nw mw) (fR (c506_e_20 n1 ap np tp n2 aq nq tq n3 au nu tu n4 aw nw tw) (fT (PV.tf false) (c506_e_5 mp tp mq tq mu tu mw tw) 54) (fR (c506_e_3 n1 ap np tp n2 aq nq tq n3 au nu tu n4 aw nw tw) (fR (c506_e_4 n1 ap np tp n2 aq nq tq n3 au nu tu n4 aw nw tw) (fR ((c506_e_0 n1 ap np tp n2 aq nq tq n3 au nu tu n4 aw nw tw).2.2.1==0) (fR (c506_e_8 n1 ap np tp n2 aq nq tq n3 au nu tu n4 aw nw tw) (fR (c506_e_10 n1 ap np tp n2 aq nq tq n3 au nu tu n4 aw nw tw) (fT (PV.tf true) (c506_e_5 mp tp mq tq mu tu mw tw) 56) (fT (PV.tf false) (c506_e_5 mp tp mq tq mu tu mw tw) 56)) False) (fT (PV.tf true) (c506_e_5 mp tp mq tq mu tu mw tw) 55)) (fT (PV.tf false) (c506_e_5 mp tp mq tq mu tu mw tw) 55)) False)) False) False)
noncomputable abbrev g506_2:Prop:=(fR (c506_e_15 ap np mp aq nq mq au nu mu aw nw mw) (fR (c506_e_15 ap np mp aq nq mq au nu mu aw nw mw) (fR (c506_e_20 n1 ap np tp n2 aq nq tq n3 au nu tu n4 aw nw tw) (fT (PV.tf false) (c506_e_5 mp tp mq tq mu tu mw tw) 53) (fR (c506_e_3 n1 ap np tp n2 aq nq tq n3 au nu tu n4 aw nw tw) (fR (c506_e_4 n1 ap np tp n2 aq nq tq n3 au nu tu n4 aw nw tw) (fR ((c506_e_0 n1 ap np tp n2 aq nq tq n3 au nu tu n4 aw nw tw).2.2.1==0) (fR (c506_e_8 n1 ap np tp n2 aq nq tq n3 au nu tu n4 aw nw tw) (fR (c506_e_10 n1 ap np tp n2 aq nq tq n3 au nu tu n4 aw nw tw) (fT (PV.tf true) (c506_e_5 mp tp mq tq mu tu mw tw) 55) (fT (PV.tf false) (c506_e_5 mp tp mq tq mu tu mw tw) 55)) False) (fT (PV.tf true) (c506_e_5 mp tp mq tq mu tu mw tw) 54)) (fT (PV.tf false) (c506_e_5 mp tp mq tq mu tu mw tw) 54)) False)) False) False)
noncomputable abbrev g506_0:Prop:=(fR (c506_e_15 ap np mp aq nq mq au nu mu aw nw mw) (fR (c506_e_15 ap np mp aq nq mq au nu mu aw nw mw) (fR (c506_e_23 n1 ap np tp n2 aq nq tq n3 au nu tu n4 aw nw tw) (fT (PV.tf false) (c506_e_5 mp tp mq tq mu tu mw tw) 43) (fR (c506_e_7 n1 ap np tp n2 aq nq tq n3 au nu tu n4 aw nw tw) (fR (c506_e_9 n1 ap np tp n2 aq nq tq n3 au nu tu n4 aw nw tw) (fR ((c506_e_1 n1 ap np tp n2 aq nq tq n3 au nu tu n4 aw nw tw).2.2.1==0) (fR (c506_e_12 n1 ap np tp n2 aq nq tq n3 au nu tu n4 aw nw tw) (fR (c506_e_14 n1 ap np tp n2 aq nq tq n3 au nu tu n4 aw nw tw) (g506_1 fR fT n1 ap np mp tp n2 aq nq mq tq n3 au nu mu tu n4 aw nw mw tw) (fT (PV.tf false) (c506_e_5 mp tp mq tq mu tu mw tw) 45)) False) (g506_2 fR fT n1 ap np mp tp n2 aq nq mq tq n3 au nu mu tu n4 aw nw mw tw)) (fT (PV.tf false) (c506_e_5 mp tp mq tq mu tu mw tw) 44)) False)) False) False)
def Te506:Prop:=fR (lim .i64 ((0:Int)+(np:Int))) (fR (lim .i64 ((0:Int)+(np:Int)+(nq:Int))) (fR (lim .i64 ((0:Int)+(np:Int)+(nq:Int)+(nu:Int))) (fR (lim .i64 ((0:Int)+(np:Int)+(nq:Int)+(nu:Int)+(nw:Int))) (fR (decide ((0:Int)+(np:Int)+(nq:Int)+(nu:Int)+(nw:Int)≤100)) (fR (c506_e_15 ap np mp aq nq mq au nu mu aw nw mw) (fR (c506_e_15 ap np mp aq nq mq au nu mu aw nw mw) (fR ((c506_e_6 n1 ap np tp n2 aq nq tq n3 au nu tu n4 aw nw tw).2.2.1 != (c506_e_6 n1 ap np tp n2 aq nq tq n3 au nu tu n4 aw nw tw).2.2.1) (fT (.tf false) (c506_e_5 mp tp mq tq mu tu mw tw) 22) (fR (c506_e_16 n1 ap np tp n2 aq nq tq n3 au nu tu n4 aw nw tw) (fR (c506_e_18 n1 ap np tp n2 aq nq tq n3 au nu tu n4 aw nw tw) (fR ((c506_e_6 n1 ap np tp n2 aq nq tq n3 au nu tu n4 aw nw tw).2.2.1==0) (fR (c506_e_21 n1 ap np tp n2 aq nq tq n3 au nu tu n4 aw nw tw) (fR (c506_e_22 n1 ap np tp n2 aq nq tq n3 au nu tu n4 aw nw tw) (fR (c506_e_15 ap np mp aq nq mq au nu mu aw nw mw) (fR (c506_e_15 ap np mp aq nq mq au nu mu aw nw mw) (fR ((c506_e_2 n1 ap np tp n2 aq nq tq n3 au nu tu n4 aw nw tw).2.2.1 != (c506_e_2 n1 ap np tp n2 aq nq tq n3 au nu tu n4 aw nw tw).2.2.1) (fT (.tf false) (c506_e_5 mp tp mq tq mu tu mw tw) 33) (fR (c506_e_11 n1 ap np tp n2 aq nq tq n3 au nu tu n4 aw nw tw) (fR (c506_e_13 n1 ap np tp n2 aq nq tq n3 au nu tu n4 aw nw tw) (fR ((c506_e_2 n1 ap np tp n2 aq nq tq n3 au nu tu n4 aw nw tw).2.2.1==0) (fR (c506_e_17 n1 ap np tp n2 aq nq tq n3 au nu tu n4 aw nw tw) (fR (c506_e_19 n1 ap np tp n2 aq nq tq n3 au nu tu n4 aw nw tw) (fR (c506_e_15 ap np mp aq nq mq au nu mu aw nw mw) (fR (c506_e_15 ap np mp aq nq mq au nu mu aw nw mw) (fR (c506_e_23 n1 ap np tp n2 aq nq tq n3 au nu tu n4 aw nw tw) (fT (.tf false) (c506_e_5 mp tp mq tq mu tu mw tw) 44) (fR (c506_e_7 n1 ap np tp n2 aq nq tq n3 au nu tu n4 aw nw tw) (fR (c506_e_9 n1 ap np tp n2 aq nq tq n3 au nu tu n4 aw nw tw) (fR ((c506_e_1 n1 ap np tp n2 aq nq tq n3 au nu tu n4 aw nw tw).2.2.1==0) (fR (c506_e_12 n1 ap np tp n2 aq nq tq n3 au nu tu n4 aw nw tw) (fR (c506_e_14 n1 ap np tp n2 aq nq tq n3 au nu tu n4 aw nw tw) (fR (c506_e_15 ap np mp aq nq mq au nu mu aw nw mw) (fR (c506_e_15 ap np mp aq nq mq au nu mu aw nw mw) (fR (c506_e_20 n1 ap np tp n2 aq nq tq n3 au nu tu n4 aw nw tw) (fT (.tf false) (c506_e_5 mp tp mq tq mu tu mw tw) 55) (fR (c506_e_3 n1 ap np tp n2 aq nq tq n3 au nu tu n4 aw nw tw) (fR (c506_e_4 n1 ap np tp n2 aq nq tq n3 au nu tu n4 aw nw tw) (fR ((c506_e_0 n1 ap np tp n2 aq nq tq n3 au nu tu n4 aw nw tw).2.2.1==0) (fR (c506_e_8 n1 ap np tp n2 aq nq tq n3 au nu tu n4 aw nw tw) (fR (c506_e_10 n1 ap np tp n2 aq nq tq n3 au nu tu n4 aw nw tw) (fT (.tf true) (c506_e_5 mp tp mq tq mu tu mw tw) 57) (fT (.tf false) (c506_e_5 mp tp mq tq mu tu mw tw) 57)) False) (fT (.tf true) (c506_e_5 mp tp mq tq mu tu mw tw) 56)) (fT (.tf false) (c506_e_5 mp tp mq tq mu tu mw tw) 56)) False)) False) False) (fT (.tf false) (c506_e_5 mp tp mq tq mu tu mw tw) 46)) False) (g506_1 fR fT n1 ap np mp tp n2 aq nq mq tq n3 au nu mu tu n4 aw nw mw tw)) (fT (.tf false) (c506_e_5 mp tp mq tq mu tu mw tw) 45)) False)) False) False) (fT (.tf false) (c506_e_5 mp tp mq tq mu tu mw tw) 35)) False) (g506_0 fR fT n1 ap np mp tp n2 aq nq mq tq n3 au nu mu tu n4 aw nw mw tw)) (fT (.tf false) (c506_e_5 mp tp mq tq mu tu mw tw) 34)) False)) False) False) (fT (.tf false) (c506_e_5 mp tp mq tq mu tu mw tw) 24)) False) (fR (c506_e_15 ap np mp aq nq mq au nu mu aw nw mw) (fR (c506_e_15 ap np mp aq nq mq au nu mu aw nw mw) (fR ((c506_e_2 n1 ap np tp n2 aq nq tq n3 au nu tu n4 aw nw tw).2.2.1 != (c506_e_2 n1 ap np tp n2 aq nq tq n3 au nu tu n4 aw nw tw).2.2.1) (fT (.tf false) (c506_e_5 mp tp mq tq mu tu mw tw) 32) (fR (c506_e_11 n1 ap np tp n2 aq nq tq n3 au nu tu n4 aw nw tw) (fR (c506_e_13 n1 ap np tp n2 aq nq tq n3 au nu tu n4 aw nw tw) (fR ((c506_e_2 n1 ap np tp n2 aq nq tq n3 au nu tu n4 aw nw tw).2.2.1==0) (fR (c506_e_17 n1 ap np tp n2 aq nq tq n3 au nu tu n4 aw nw tw) (fR (c506_e_19 n1 ap np tp n2 aq nq tq n3 au nu tu n4 aw nw tw) (g506_0 fR fT n1 ap np mp tp n2 aq nq mq tq n3 au nu mu tu n4 aw nw mw tw) (fT (.tf false) (c506_e_5 mp tp mq tq mu tu mw tw) 34)) False) (fR (c506_e_15 ap np mp aq nq mq au nu mu aw nw mw) (fR (c506_e_15 ap np mp aq nq mq au nu mu aw nw mw) (fR (c506_e_23 n1 ap np tp n2 aq nq tq n3 au nu tu n4 aw nw tw) (fT (.tf false) (c506_e_5 mp tp mq tq mu tu mw tw) 42) (fR (c506_e_7 n1 ap np tp n2 aq nq tq n3 au nu tu n4 aw nw tw) (fR (c506_e_9 n1 ap np tp n2 aq nq tq n3 au nu tu n4 aw nw tw) (fR ((c506_e_1 n1 ap np tp n2 aq nq tq n3 au nu tu n4 aw nw tw).2.2.1==0) (fR (c506_e_12 n1 ap np tp n2 aq nq tq n3 au nu tu n4 aw nw tw) (fR (c506_e_14 n1 ap np tp n2 aq nq tq n3 au nu tu n4 aw nw tw) (g506_2 fR fT n1 ap np mp tp n2 aq nq mq tq n3 au nu mu tu n4 aw nw mw tw) (fT (.tf false) (c506_e_5 mp tp mq tq mu tu mw tw) 44)) False) (fR (c506_e_15 ap np mp aq nq mq au nu mu aw nw mw) (fR (c506_e_15 ap np mp aq nq mq au nu mu aw nw mw) (fR (c506_e_20 n1 ap np tp n2 aq nq tq n3 au nu tu n4 aw nw tw) (fT (.tf false) (c506_e_5 mp tp mq tq mu tu mw tw) 52) (fR (c506_e_3 n1 ap np tp n2 aq nq tq n3 au nu tu n4 aw nw tw) (fR (c506_e_4 n1 ap np tp n2 aq nq tq n3 au nu tu n4 aw nw tw) (fR ((c506_e_0 n1 ap np tp n2 aq nq tq n3 au nu tu n4 aw nw tw).2.2.1==0) (fR (c506_e_8 n1 ap np tp n2 aq nq tq n3 au nu tu n4 aw nw tw) (fR (c506_e_10 n1 ap np tp n2 aq nq tq n3 au nu tu n4 aw nw tw) (fT (.tf true) (c506_e_5 mp tp mq tq mu tu mw tw) 54) (fT (.tf false) (c506_e_5 mp tp mq tq mu tu mw tw) 54)) False) (fT (.tf true) (c506_e_5 mp tp mq tq mu tu mw tw) 53)) (fT (.tf false) (c506_e_5 mp tp mq tq mu tu mw tw) 53)) False)) False) False)) (fT (.tf false) (c506_e_5 mp tp mq tq mu tu mw tw) 43)) False)) False) False)) (fT (.tf false) (c506_e_5 mp tp mq tq mu tu mw tw) 33)) False)) False) False)) (fT (.tf false) (c506_e_5 mp tp mq tq mu tu mw tw) 23)) False)) False) False) (fT (.tf true) (c506_e_5 mp tp mq tq mu tu mw tw) 13)) False) False) False) False
theorem te506:run cond Tryz.env true (xRA cond) false 400 ⟨6,[.cd (zU Tryz.f6).body],z8 0 [.agg [.bool n1,.loose ⟨0,1,ap,0⟩ np,.bool n2,.loose ⟨1,1,aq,0⟩ nq],.agg [.bool n3,.loose ⟨2,1,au,0⟩ nu,.bool n4,.loose ⟨3,1,aw,0⟩ nw]],[[],[(0,(false,CB mp tp)),(1,(false,CB mq tq)),(2,(false,CB mu tu)),(3,(false,CB mw tw))]],4⟩ (zr 4 [] fS fT)=
 Te506 cond fT n1 ap np mp tp n2 aq nq mq tq n3 au nu mu tu n4 aw nw mw tw:=by kernel_rfl
noncomputable abbrev J506:Rt506→zS:=fun r=> [yC (4+1) ((N506) r)++ [(0,(false,CB mp tp)),(1,(false,CB mq tq)),(2,(false,CB mu tu)),(3,(false,CB mw tw))]]
attribute [local irreducible] Int.subNatNat in
theorem a506 {r:Rt506} (h:zY ((q506 n1 ap np mp tp n2 aq nq mq tq n3 au nu mu tu n4 aw nw mw tw)) ((p506 n1 ap np mp tp n2 aq nq mq tq n3 au nu mu tu n4 aw nw mw tw)) r):zn Tryz.prog 6 [.agg [.bool n1,.loose ⟨0,1,ap,0⟩ np,.bool n2,.loose ⟨1,1,aq,0⟩ nq],.agg [.bool n3,.loose ⟨2,1,au,0⟩ nu,.bool n4,.loose ⟨3,1,aw,0⟩ nw]] [[(0,(false,CB mp tp)),(1,(false,CB mq tq)),(2,(false,CB mu tu)),(3,(false,CB mw tw))]] 4 ((V506) r) ((J506 mp tp mq tq mu tu mw tw) r) 400∧HB Tryz.prog 6:=by
 refine wP Tryz.envOk Tryz.mixed gf ((I506)) ((V506)) (J506 mp tp mq tq mu tu mw tw) (fn:=zU Tryz.f6) (n:=400) rfl (by decide) (by simp) (zW rfl) ?_ h
 · intro fS fT x hS hR h
   refine Holds.eq (te506 fS fT n1 ap np mp tp n2 aq nq mq tq n3 au nu mu tu n4 aw nw mw tw) ?_
   unfold Te506
   unfold p506 at h
   refine zA h (fun c0 h=>zA h (fun c1 h=>zA h (fun c2 h=>zA h (fun c3 h=>zA h (fun c4 h=>zA h (fun c5 h=>zJ c5 (zA h (fun c6 h=> ?_) (fun c6 h=>zA h (fun c7 h=>zA h (fun c8 h=>zA h (fun c9 h=>zA h (fun c10 h=>zA h (fun c11 h=>zJ c5 (zJ c5 (zA h (fun c12 h=> ?_) (fun c12 h=>zA h (fun c13 h=>zA h (fun c14 h=>zA h (fun c15 h=>zA h (fun c16 h=>zA h (fun c17 h=>zJ c5 (zJ c5 (zA h (fun c18 h=> ?_) (fun c18 h=>zA h (fun c19 h=>zA h (fun c20 h=>zA h (fun c21 h=>zA h (fun c22 h=>zA h (fun c23 h=>zJ c5 (zJ c5 (zA h (fun c24 h=> ?_) (fun c24 h=>zA h (fun c25 h=>zA h (fun c26 h=>zA h (fun c27 h=>zA h (fun c28 h=>zA h (fun c29 h=> ?_) (fun c29 h=> ?_)) (fun c28 h=> ?_)) (fun c27 h=> ?_)) (fun c26 h=> ?_)) (fun c25 h=> ?_))))) (fun c23 h=> ?_)) (fun c22 h=> ?_)) (fun c21 h=>zJ c5 (zJ c5 (zA h (fun c22 h=> ?_) (fun c22 h=>zA h (fun c23 h=>zA h (fun c24 h=>zA h (fun c25 h=>zA h (fun c26 h=>zA h (fun c27 h=> ?_) (fun c27 h=> ?_)) (fun c26 h=> ?_)) (fun c25 h=> ?_)) (fun c24 h=> ?_)) (fun c23 h=> ?_)))))) (fun c20 h=> ?_)) (fun c19 h=> ?_))))) (fun c17 h=> ?_)) (fun c16 h=> ?_)) (fun c15 h=>zJ c5 (zJ c5 (zA h (fun c16 h=> ?_) (fun c16 h=>zA h (fun c17 h=>zA h (fun c18 h=>zA h (fun c19 h=>zA h (fun c20 h=>zA h (fun c21 h=>zJ c5 (zJ c5 (zA h (fun c22 h=> ?_) (fun c22 h=>zA h (fun c23 h=>zA h (fun c24 h=>zA h (fun c25 h=>zA h (fun c26 h=>zA h (fun c27 h=> ?_) (fun c27 h=> ?_)) (fun c26 h=> ?_)) (fun c25 h=> ?_)) (fun c24 h=> ?_)) (fun c23 h=> ?_))))) (fun c21 h=> ?_)) (fun c20 h=> ?_)) (fun c19 h=>zJ c5 (zJ c5 (zA h (fun c20 h=> ?_) (fun c20 h=>zA h (fun c21 h=>zA h (fun c22 h=>zA h (fun c23 h=>zA h (fun c24 h=>zA h (fun c25 h=> ?_) (fun c25 h=> ?_)) (fun c24 h=> ?_)) (fun c23 h=> ?_)) (fun c22 h=> ?_)) (fun c21 h=> ?_)))))) (fun c18 h=> ?_)) (fun c17 h=> ?_)))))) (fun c14 h=> ?_)) (fun c13 h=> ?_))))) (fun c11 h=> ?_)) (fun c10 h=> ?_)) (fun c9 h=>zJ c5 (zJ c5 (zA h (fun c10 h=> ?_) (fun c10 h=>zA h (fun c11 h=>zA h (fun c12 h=>zA h (fun c13 h=>zA h (fun c14 h=>zA h (fun c15 h=>zJ c5 (zJ c5 (zA h (fun c16 h=> ?_) (fun c16 h=>zA h (fun c17 h=>zA h (fun c18 h=>zA h (fun c19 h=>zA h (fun c20 h=>zA h (fun c21 h=>zJ c5 (zJ c5 (zA h (fun c22 h=> ?_) (fun c22 h=>zA h (fun c23 h=>zA h (fun c24 h=>zA h (fun c25 h=>zA h (fun c26 h=>zA h (fun c27 h=> ?_) (fun c27 h=> ?_)) (fun c26 h=> ?_)) (fun c25 h=> ?_)) (fun c24 h=> ?_)) (fun c23 h=> ?_))))) (fun c21 h=> ?_)) (fun c20 h=> ?_)) (fun c19 h=>zJ c5 (zJ c5 (zA h (fun c20 h=> ?_) (fun c20 h=>zA h (fun c21 h=>zA h (fun c22 h=>zA h (fun c23 h=>zA h (fun c24 h=>zA h (fun c25 h=> ?_) (fun c25 h=> ?_)) (fun c24 h=> ?_)) (fun c23 h=> ?_)) (fun c22 h=> ?_)) (fun c21 h=> ?_)))))) (fun c18 h=> ?_)) (fun c17 h=> ?_))))) (fun c15 h=> ?_)) (fun c14 h=> ?_)) (fun c13 h=>zJ c5 (zJ c5 (zA h (fun c14 h=> ?_) (fun c14 h=>zA h (fun c15 h=>zA h (fun c16 h=>zA h (fun c17 h=>zA h (fun c18 h=>zA h (fun c19 h=>zJ c5 (zJ c5 (zA h (fun c20 h=> ?_) (fun c20 h=>zA h (fun c21 h=>zA h (fun c22 h=>zA h (fun c23 h=>zA h (fun c24 h=>zA h (fun c25 h=> ?_) (fun c25 h=> ?_)) (fun c24 h=> ?_)) (fun c23 h=> ?_)) (fun c22 h=> ?_)) (fun c21 h=> ?_))))) (fun c19 h=> ?_)) (fun c18 h=> ?_)) (fun c17 h=>zJ c5 (zJ c5 (zA h (fun c18 h=> ?_) (fun c18 h=>zA h (fun c19 h=>zA h (fun c20 h=>zA h (fun c21 h=>zA h (fun c22 h=>zA h (fun c23 h=> ?_) (fun c23 h=> ?_)) (fun c22 h=> ?_)) (fun c21 h=> ?_)) (fun c20 h=> ?_)) (fun c19 h=> ?_)))))) (fun c16 h=> ?_)) (fun c15 h=> ?_)))))) (fun c12 h=> ?_)) (fun c11 h=> ?_)))))) (fun c8 h=> ?_)) (fun c7 h=> ?_)))) (fun c5 h=> ?_)) (fun c4 h=> ?_)) (fun c3 h=> ?_)) (fun c2 h=> ?_)) (fun c1 h=> ?_)) (fun c0 h=> ?_)
   all_goals first
     |exact zV hR _ h (fun n=>n) rfl rfl rfl (zR rfl) rfl (zB (zC rfl) rfl rfl (zB (zC rfl) rfl rfl (zB (zC rfl) rfl rfl (zB (zC rfl) rfl rfl zE))))
     |exact zF h
end
noncomputable def k506:Con:=⟨6,[.agg [.plain (.bool),.list [.int .i64],.plain (.bool),.list [.int .i64]],.agg [.plain (.bool),.list [.int .i64],.plain (.bool),.list [.int .i64]]],w518 (fun n1 ap np mp tp n2 aq nq mq tq n3 au nu mu tu n4 aw nw mw tw=>decide (((ap+np≤mp∧np≤reachBytes)∧aq+nq≤mq∧nq≤reachBytes)∧(au+nu≤mu∧nu≤reachBytes)∧aw+nw≤mw∧nw≤reachBytes)),w518 (fun n1 ap np mp tp n2 aq nq mq tq n3 au nu mu tu n4 aw nw mw tw=>(V506) (true)),w518 (fun n1 ap np mp tp n2 aq nq mq tq n3 au nu mu tu n4 aw nw mw tw=>(N506) (true)),fun _ _=> .dead⟩
theorem ot (n1:Bool) (ap np mp:Nat) (tp:Nat→Int) (n2:Bool) (aq nq mq:Nat) (tq:Nat→Int) (n3:Bool) (au nu mu:Nat) (tu:Nat→Int) (n4:Bool) (aw nw mw:Nat) (tw:Nat→Int) (hp:((ap+np≤mp∧np≤1000000)∧aq+nq≤mq∧nq≤1000000)∧(au+nu≤mu∧nu≤1000000)∧aw+nw≤mw∧nw≤1000000):zY ((q506 n1 ap np mp tp n2 aq nq mq tq n3 au nu mu tu n4 aw nw mw tw)) (d506_2 n1 ap np mp tp n2 aq nq mq tq n3 au nu mu tu n4 aw nw mw tw) true:=by
 unfold d506_2
 simp only [-eq_self,c506_e_0,c506_e_1,c506_e_2,c506_e_3,c506_e_4,c506_e_5,c506_e_6,c506_e_7,c506_e_8,c506_e_9,c506_e_10,c506_e_11,c506_e_12,c506_e_13,c506_e_14,c506_e_15,c506_e_16,c506_e_17,c506_e_18,c506_e_19,c506_e_20,c506_e_21,c506_e_22,c506_e_23]
 obtain ⟨l1,l2,hv⟩:=mF (n1:=n1) (n:=np) (t:=(fun j=>tp (j+ap))) (n2:=n2) (m:=nq) (u:=(fun j=>tq (j+aq))) (n3:=n3) (n':=nu) (t':=(fun j=>tu (j+au))) (n4:=n4) (m':=nw) (u':=(fun j=>tw (j+aw)))
 with_reducible refine zb (bne_self_eq_false _) ?_
 with_reducible refine zH (decide_eq_true ⟨⟨⟨by omega,by omega⟩,by omega,by omega⟩,⟨by omega,by omega⟩,by omega,by omega⟩) ?_
 with_reducible refine zH vj ?_
 by_cases h0:(S.eN n1 np (fun j=>tp (j+ap)) n2 nq (fun j=>tq (j+aq)) n3 nu (fun j=>tu (j+au)) n4 nw (fun j=>tw (j+aw))).2.2.1=0
 · with_reducible refine zH (beq_iff_eq.mpr h0) ?_
   with_reducible refine zH (decide_eq_true ⟨⟨by omega,by omega⟩,by omega,by omega⟩) ?_
   with_reducible refine zH (hv h0) ?_
   exact zG.mpr rfl
 · with_reducible refine zb (beq_eq_false_iff_ne.mpr h0) ?_
   exact zG.mpr rfl
theorem nn (n1:Bool) (ap np mp:Nat) (tp:Nat→Int) (n2:Bool) (aq nq mq:Nat) (tq:Nat→Int) (n3:Bool) (au nu mu:Nat) (tu:Nat→Int) (n4:Bool) (aw nw mw:Nat) (tw:Nat→Int) (hp:((ap+np≤mp∧np≤1000000)∧aq+nq≤mq∧nq≤1000000)∧(au+nu≤mu∧nu≤1000000)∧aw+nw≤mw∧nw≤1000000):zY ((q506 n1 ap np mp tp n2 aq nq mq tq n3 au nu mu tu n4 aw nw mw tw)) (d506_0 n1 ap np mp tp n2 aq nq mq tq n3 au nu mu tu n4 aw nw mw tw) true:=by
 unfold d506_0
 simp only [-eq_self,c506_e_0,c506_e_1,c506_e_2,c506_e_3,c506_e_4,c506_e_5,c506_e_6,c506_e_7,c506_e_8,c506_e_9,c506_e_10,c506_e_11,c506_e_12,c506_e_13,c506_e_14,c506_e_15,c506_e_16,c506_e_17,c506_e_18,c506_e_19,c506_e_20,c506_e_21,c506_e_22,c506_e_23]
 obtain ⟨l1,l2,hv⟩:=mV (n1:=n1) (n:=np) (t:=(fun j=>tp (j+ap))) (n2:=n2) (m:=nq) (u:=(fun j=>tq (j+aq))) (n3:=n3) (n':=nu) (t':=(fun j=>tu (j+au))) (n4:=n4) (m':=nw) (u':=(fun j=>tw (j+aw)))
 with_reducible refine zb (bne_self_eq_false _) ?_
 with_reducible refine zH (decide_eq_true ⟨⟨⟨by omega,by omega⟩,by omega,by omega⟩,⟨by omega,by omega⟩,by omega,by omega⟩) ?_
 with_reducible refine zH vj ?_
 by_cases h0:(S.eM n1 np (fun j=>tp (j+ap)) n2 nq (fun j=>tq (j+aq)) n3 nu (fun j=>tu (j+au)) n4 nw (fun j=>tw (j+aw))).2.2.1=0
 · with_reducible refine zH (beq_iff_eq.mpr h0) ?_
   with_reducible refine zH (decide_eq_true ⟨⟨by omega,by omega⟩,by omega,by omega⟩) ?_
   with_reducible refine zH (hv h0) ?_
   exact ot n1 ap np mp tp n2 aq nq mq tq n3 au nu mu tu n4 aw nw mw tw hp
 · with_reducible refine zb (beq_eq_false_iff_ne.mpr h0) ?_
   exact ot n1 ap np mp tp n2 aq nq mq tq n3 au nu mu tu n4 aw nw mw tw hp
theorem nX (n1:Bool) (ap np mp:Nat) (tp:Nat→Int) (n2:Bool) (aq nq mq:Nat) (tq:Nat→Int) (n3:Bool) (au nu mu:Nat) (tu:Nat→Int) (n4:Bool) (aw nw mw:Nat) (tw:Nat→Int) (hp:((ap+np≤mp∧np≤1000000)∧aq+nq≤mq∧nq≤1000000)∧(au+nu≤mu∧nu≤1000000)∧aw+nw≤mw∧nw≤1000000):zY ((q506 n1 ap np mp tp n2 aq nq mq tq n3 au nu mu tu n4 aw nw mw tw)) (d506_1 n1 ap np mp tp n2 aq nq mq tq n3 au nu mu tu n4 aw nw mw tw) true:=by
 unfold d506_1
 simp only [-eq_self,c506_e_0,c506_e_1,c506_e_2,c506_e_3,c506_e_4,c506_e_5,c506_e_6,c506_e_7,c506_e_8,c506_e_9,c506_e_10,c506_e_11,c506_e_12,c506_e_13,c506_e_14,c506_e_15,c506_e_16,c506_e_17,c506_e_18,c506_e_19,c506_e_20,c506_e_21,c506_e_22,c506_e_23]
 obtain ⟨l1,l2,hv⟩:=mS (n1:=n1) (n:=np) (t:=(fun j=>tp (j+ap))) (n2:=n2) (m:=nq) (u:=(fun j=>tq (j+aq))) (n3:=n3) (n':=nu) (t':=(fun j=>tu (j+au))) (n4:=n4) (m':=nw) (u':=(fun j=>tw (j+aw)))
 with_reducible refine zb (bne_self_eq_false _) ?_
 with_reducible refine zH (decide_eq_true ⟨⟨⟨by omega,by omega⟩,by omega,by omega⟩,⟨by omega,by omega⟩,by omega,by omega⟩) ?_
 with_reducible refine zH vj ?_
 by_cases h0:(S.eK n1 np (fun j=>tp (j+ap)) n2 nq (fun j=>tq (j+aq)) n3 nu (fun j=>tu (j+au)) n4 nw (fun j=>tw (j+aw))).2.2.1=0
 · with_reducible refine zH (beq_iff_eq.mpr h0) ?_
   with_reducible refine zH (decide_eq_true ⟨⟨by omega,by omega⟩,by omega,by omega⟩) ?_
   with_reducible refine zH (hv h0) ?_
   exact nn n1 ap np mp tp n2 aq nq mq tq n3 au nu mu tu n4 aw nw mw tw hp
 · with_reducible refine zb (beq_eq_false_iff_ne.mpr h0) ?_
   exact nn n1 ap np mp tp n2 aq nq mq tq n3 au nu mu tu n4 aw nw mw tw hp
theorem s506 (n1:Bool) (ap np mp:Nat) (tp:Nat→Int) (n2:Bool) (aq nq mq:Nat) (tq:Nat→Int) (n3:Bool) (au nu mu:Nat) (tu:Nat→Int) (n4:Bool) (aw nw mw:Nat) (tw:Nat→Int) (hp:((ap+np≤mp∧np≤reachBytes)∧aq+nq≤mq∧nq≤reachBytes)∧(au+nu≤mu∧nu≤reachBytes)∧aw+nw≤mw∧nw≤reachBytes):zY ((q506 n1 ap np mp tp n2 aq nq mq tq n3 au nu mu tu n4 aw nw mw tw)) ((p506 n1 ap np mp tp n2 aq nq mq tq n3 au nu mu tu n4 aw nw mw tw)) (true):=by
 obtain ⟨⟨⟨hp1,hp2⟩,hp3,hp4⟩,⟨hp5,hp6⟩,hp7,hp8⟩:=hp
 unfold reachBytes at hp2 hp4 hp6 hp8
 unfold p506
 with_reducible refine zH (by rw [y3]; exact decide_eq_true (by omega)) ?_
 with_reducible refine zH (by rw [y3]; exact decide_eq_true (by omega)) ?_
 with_reducible refine zH (by rw [y3]; exact decide_eq_true (by omega)) ?_
 with_reducible refine zH (by rw [y3]; exact decide_eq_true (by omega)) ?_
 by_cases hs:0+(np:Int)+nq+nu+nw≤100
 rotate_left
 · with_reducible refine zb (decide_eq_false hs) ?_
   exact zG.mpr rfl
 with_reducible refine zH (decide_eq_true hs) ?_
 have hp:((ap+np≤mp∧np≤1000000)∧aq+nq≤mq∧nq≤1000000)∧(au+nu≤mu∧nu≤1000000)∧aw+nw≤mw∧nw≤1000000:=⟨⟨⟨hp1,by omega⟩,hp3,by omega⟩,⟨hp5,by omega⟩,hp7,by omega⟩
 simp only [-eq_self,c506_e_0,c506_e_1,c506_e_2,c506_e_3,c506_e_4,c506_e_5,c506_e_6,c506_e_7,c506_e_8,c506_e_9,c506_e_10,c506_e_11,c506_e_12,c506_e_13,c506_e_14,c506_e_15,c506_e_16,c506_e_17,c506_e_18,c506_e_19,c506_e_20,c506_e_21,c506_e_22,c506_e_23]
 with_reducible refine zH (decide_eq_true hp) ?_
 obtain ⟨l1,l2,hv⟩:=mO (n1:=n1) (n:=np) (t:=(fun j=>tp (j+ap))) (n2:=n2) (m:=nq) (u:=(fun j=>tq (j+aq))) (n3:=n3) (n':=nu) (t':=(fun j=>tu (j+au))) (n4:=n4) (m':=nw) (u':=(fun j=>tw (j+aw)))
 with_reducible refine zb (bne_self_eq_false _) ?_
 with_reducible refine zH (decide_eq_true ⟨⟨⟨by omega,by omega⟩,by omega,by omega⟩,⟨by omega,by omega⟩,by omega,by omega⟩) ?_
 with_reducible refine zH vj ?_
 by_cases h0:(S.eJ n1 np (fun j=>tp (j+ap)) n2 nq (fun j=>tq (j+aq)) n3 nu (fun j=>tu (j+au)) n4 nw (fun j=>tw (j+aw))).2.2.1=0
 · with_reducible refine zH (beq_iff_eq.mpr h0) ?_
   with_reducible refine zH (decide_eq_true ⟨⟨by omega,by omega⟩,by omega,by omega⟩) ?_
   with_reducible refine zH (hv h0) ?_
   exact nX n1 ap np mp tp n2 aq nq mq tq n3 au nu mu tu n4 aw nw mw tw hp
 · with_reducible refine zb (beq_eq_false_iff_ne.mpr h0) ?_
   exact nX n1 ap np mp tp n2 aq nq mq tq n3 au nu mu tu n4 aw nw mw tw hp
theorem k506_ok:k506.ok Tryz.prog:=by
 intro x hx
 obtain ⟨⟨n1,⟨ap,np,mp,tp,_⟩,n2,⟨aq,nq,mq,tq,_⟩,_⟩,⟨n3,⟨au,nu,mu,tu,_⟩,n4,⟨aw,nw,mw,tw,_⟩,_⟩,_⟩:=x
 obtain ⟨h1,h2⟩:=a506 n1 ap np mp tp n2 aq nq mq tq n3 au nu mu tu n4 aw nw mw tw (s506 n1 ap np mp tp n2 aq nq mq tq n3 au nu mu tu n4 aw nw mw tw (zm hx rfl))
 exact ⟨⟨400,(by decide:4+1+0≤400),h1⟩,h2⟩
theorem pre506 {x:SsI k506.ss} (hx:sX k506.ss x) (hz:uc reachBytes k506.ss x):k506.pre (ssj k506.ss x)=true:=by
 obtain ⟨⟨b0,⟨n,t,u'⟩,b1,⟨m,t2,u2⟩,u3⟩,⟨b2,⟨n3,t3,u3'⟩,b3,⟨m3,t4,u4'⟩,u5⟩,u4⟩:=x
 obtain ⟨⟨-,hn,-,hm,-⟩,⟨-,hn',-,hm',-⟩,-⟩:=hz
 exact decide_eq_true ⟨⟨⟨Nat.le_of_eq (Nat.zero_add _),hn⟩,Nat.le_of_eq (Nat.zero_add _),hm⟩,⟨Nat.le_of_eq (Nat.zero_add _),hn'⟩,Nat.le_of_eq (Nat.zero_add _),hm'⟩
end Go.Ev
