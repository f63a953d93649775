/-
  The parts that the statement needs, 5 of 5.
-/
import Derived.Test.YtblfgknonjogfaaGreatDoorZ5034
namespace Go.Ev
open Go.Proofs
open Go.RowKit
set_option linter.unusedVariables false
set_option linter.unusedSimpArgs false
set_option maxRecDepth 100000
theorem te503 (test:TT) (Kst:KS) (Kret:KR) (v d:Int) (n1:Bool) (ap np mp:Nat) (tp:NI) (n2:Bool) (aq nq mq:Nat) (tq:NI):run test Tryz.env true (xR6 test) true 400 ⟨3,[.cd (mkFn Tryz.f3).body],argT 0 [.int .i64 v,.int .i64 d,.agg [.bool n1,.loose ⟨0,1,ap,0⟩ np,.bool n2,.loose ⟨1,1,aq,0⟩ nq]],[[],[(0,(false,.cols mp [.int .i64 tp])),(1,(false,.cols mq [.int .i64 tq]))]],2⟩ (proj 2 [] Kst Kret)=
  Te503 test Kst Kret v d n1 ap np mp tp n2 aq nq mq tq:=by kernel_rfl
noncomputable abbrev J503 (v:Int) (d:Int) (n1:Bool) (ap np mp:Nat) (tp:NI) (n2:Bool) (aq nq mq:Nat) (tq:NI):Rt503→Heap:=fun r=> [newL (2+1) ((N503 v d n1 ap np mp tp n2 aq nq mq tq) r)++ [(0,(false,.cols mp [.int .i64 tp])),(1,(false,.cols mq [.int .i64 tq]))]]
attribute [local irreducible] Int.subNatNat in
theorem be503 (v d:Int) (n1:Bool) (ap np mp:Nat) (tp:NI) (n2:Bool) (aq nq mq:Nat) (tq:NI) (Kst:KS) (Kret:KR) (x:St503⊕Rt503) (hS:HS 2 400 ((I503 v d n1 ap np mp tp n2 aq nq mq tq)) Kst x) (hR:HR 2 400 ((V503 v d n1 ap np mp tp n2 aq nq mq tq)) (J503 v d n1 ap np mp tp n2 aq nq mq tq) Kret x) (h:p503 v d n1 ap np mp tp n2 aq nq mq tq=some x):Te503 cond Kst Kret v d n1 ap np mp tp n2 aq nq mq tq:=by
  unfold Te503
  unfold p503 at h
  refine cond_yes rfl (cond_yes rfl (cond_yes rfl (cond_yes rfl (cond_yes rfl (bif_split h (fun c0 h=>cond_yes rfl (cond_yes rfl (cond_yes rfl (bif_split h (fun c1 h=>cond_yes rfl (cond_no rfl (bif_split h (fun c2 h=>bif_split h (fun c3 h=>cond_yes c3 (cond_yes rfl (cond_yes rfl (bif_split h (fun c4 h=>cond_yes rfl (cond_yes rfl (cond_yes c4 (bif_split h (fun c5 h=>bif_split h (fun c6 h=>bif_split h (fun c7 h=>bif_split h (fun c8 h=>bif_split h (fun c9 h=>bif_split h (fun c10 h=> ?_) (fun c10 h=> ?_)) (fun c9 h=> ?_)) (fun c8 h=> ?_)) (fun c7 h=> ?_)) (fun c6 h=> ?_)) (fun c5 h=> ?_))))) (fun c4 h=> ?_))))) (fun c3 h=> ?_)) (fun c2 h=>cond_yes rfl (cond_yes rfl (ret_at hR _ h (fun n=>n) rfl rfl rfl (rn_bool_tf rfl) rfl (entl_bor (use_lo rfl) rfl rfl (entl_bor (use_lo rfl) rfl rfl entl_nil)))))))) (fun c1 h=> ?_))))) (fun c0 h=> ?_))))))
  all_goals first
    |exact no_some h
    |exact ret_at hR _ h (fun n=>n) rfl rfl rfl (rn_bool_tf rfl) rfl (entl_bor (use_lo rfl) rfl rfl (entl_bor (use_lo rfl) rfl rfl entl_nil))
theorem a503 (v d:Int) (n1:Bool) (ap np mp:Nat) (tp:NI) (n2:Bool) (aq nq mq:Nat) (tq:NI) {r:Rt503} (h:Goes ((q503 v d n1 ap np mp tp n2 aq nq mq tq)) ((p503 v d n1 ap np mp tp n2 aq nq mq tq)) r):CallR Tryz.prog 3 [.int .i64 v,.int .i64 d,.agg [.bool n1,.loose ⟨0,1,ap,0⟩ np,.bool n2,.loose ⟨1,1,aq,0⟩ nq]] [[(0,(false,.cols mp [.int .i64 tp])),(1,(false,.cols mq [.int .i64 tq]))]] 2 ((V503 v d n1 ap np mp tp n2 aq nq mq tq) r) ((J503 v d n1 ap np mp tp n2 aq nq mq tq) r) 400∧ ∃ F,Tryz.prog.funcs[3]? =some F∧F.body.isSome=true∧(F.name== "runtime.NumGoroutine")=false:=by
  refine dec_calls (f:=3) (lo:=2) (hi:=400) Tryz.envOk Tryz.mixed xR6_ok ((I503 v d n1 ap np mp tp n2 aq nq mq tq)) ((V503 v d n1 ap np mp tp n2 aq nq mq tq)) (J503 v d n1 ap np mp tp n2 aq nq mq tq) (fn:=mkFn Tryz.f3) (ts:= []) (n:=400) rfl (by decide) (by simp) (names_of rfl) ?_ ?_ ?_ h
  · intro s; exact s.elim
  · intro Kst Kret x hS hR h
    exact Holds.eq (te503 cond Kst Kret v d n1 ap np mp tp n2 aq nq mq tq) (be503 v d n1 ap np mp tp n2 aq nq mq tq Kst Kret x hS hR h)
  · intro Kst Kret x hS hR s h; exact s.elim
noncomputable abbrev w503 {α:Type} (g:Int→Int→Bool→Nat→Nat→Nat→(Nat→Int)→Bool→Nat→Nat→Nat→(Nat→Int)→α) (x:Int×Int×(Bool×(Nat×Nat×Nat×(Nat→Int)×Unit)×Bool×(Nat×Nat×Nat×(Nat→Int)×Unit)×Unit)×Unit):α:=g x.1 x.2.1 x.2.2.1.1 x.2.2.1.2.1.1 x.2.2.1.2.1.2.1 x.2.2.1.2.1.2.2.1 x.2.2.1.2.1.2.2.2.1 x.2.2.1.2.2.1 x.2.2.1.2.2.2.1.1 x.2.2.1.2.2.2.1.2.1 x.2.2.1.2.2.2.1.2.2.1 x.2.2.1.2.2.2.1.2.2.2.1
noncomputable def k503:Con:=⟨3,[.one (.plain (.int .i64)),.one (.plain (.int .i64)),.agg [.plain (.bool),.list [.int .i64],.plain (.bool),.list [.int .i64]]],w503 (fun v d n1 ap np mp tp n2 aq nq mq tq=>decide (((-9223372036854775808≤v∧v≤9223372036854775807)∧ -9223372036854775808≤d∧d≤9223372036854775807)∧(ap+np≤mp∧np≤reachBytes)∧aq+nq≤mq∧nq≤reachBytes)),w503 (fun v d n1 ap np mp tp n2 aq nq mq tq=>(V503 v d n1 ap np mp tp n2 aq nq mq tq) (true)),w503 (fun v d n1 ap np mp tp n2 aq nq mq tq=>(N503 v d n1 ap np mp tp n2 aq nq mq tq) (true)),fun _ _=> .dead⟩
theorem s503 (v d:Int) (n1:Bool) (ap np mp:Nat) (tp:Nat→Int) (n2:Bool) (aq nq mq:Nat) (tq:Nat→Int) (hp:((-9223372036854775808≤v∧v≤9223372036854775807)∧ -9223372036854775808≤d∧d≤9223372036854775807)∧(ap+np≤mp∧np≤reachBytes)∧aq+nq≤mq∧nq≤reachBytes):Goes ((q503 v d n1 ap np mp tp n2 aq nq mq tq)) ((p503 v d n1 ap np mp tp n2 aq nq mq tq)) (true):=by
  obtain ⟨⟨hp1,hp2⟩,⟨hp3,hp4⟩,hp5,hp6⟩:=hp
  unfold reachBytes at hp4 hp6
  obtain ⟨l1,l2⟩:=ofR_len (v:=v) (d:=d)
  obtain ⟨l3,l4⟩:=mkR_len (n1:=n1) (n:=np) (t:=(fun j=>tp (j+ap))) (n2:=n2) (m:=nq) (u:=(fun j=>tq (j+aq)))
  unfold p503
  with_reducible refine goes_ok (by rw [lim64]; exact decide_eq_true (by omega)) ?_
  with_reducible refine goes_ok (by rw [lim64]; exact decide_eq_true (by omega)) ?_
  by_cases h0:0+(np:Int)+nq≤170
  rotate_left
  · with_reducible refine goes_no (decide_eq_false h0) ?_
    exact goes_inr.mpr rfl
  with_reducible refine goes_ok (decide_eq_true h0) ?_
  simp only [-eq_self,c503_e_0,c503_e_1,c503_e_2,c503_e_3,c503_e_4,c503_e_5]
  with_reducible refine goes_ok (decide_eq_true ⟨hp1,hp2⟩) ?_
  with_reducible refine goes_ok (decide_eq_true ⟨⟨hp3,by omega⟩,hp5,by omega⟩) ?_
  with_reducible refine goes_ok (beq_self_eq_true _) ?_
  with_reducible refine goes_ok (decide_eq_true ⟨⟨⟨by omega,by omega⟩,by omega,by omega⟩,⟨by omega,by omega⟩,by omega,by omega⟩) ?_
  with_reducible refine goes_ok samR_self ?_
  with_reducible refine goes_ok (beq_self_eq_true _) ?_
  with_reducible refine goes_ok (decide_eq_true ⟨⟨⟨by omega,by omega⟩,by omega,by omega⟩,⟨by omega,by omega⟩,by omega,by omega⟩) ?_
  with_reducible refine goes_ok samR_self ?_
  exact goes_inr.mpr rfl
theorem k503_ok:k503.ok Tryz.prog:=by
  intro x hx
  obtain ⟨v,d,⟨n1,⟨ap,np,mp,tp,_⟩,n2,⟨aq,nq,mq,tq,_⟩,_⟩,_⟩:=x
  obtain ⟨h1,h2⟩:=a503 v d n1 ap np mp tp n2 aq nq mq tq (s503 v d n1 ap np mp tp n2 aq nq mq tq (of_dec hx rfl))
  exact ⟨⟨400,(by decide:2+1+0≤400),h1⟩,h2⟩
theorem pre503 {x:SsI k503.ss} (hx:ssFits k503.ss x) (hz:ssSmall reachBytes k503.ss x):k503.pre (ssj k503.ss x)=true:=by
  obtain ⟨v,d,⟨b0,⟨n,t,u'⟩,b1,⟨m,t2,u2⟩,u3⟩,u4⟩:=x
  obtain ⟨h1,h2,-⟩:=hx
  obtain ⟨-,-,⟨-,hn,-,hm,-⟩,-⟩:=hz
  exact decide_eq_true ⟨⟨h1,h2⟩,⟨Nat.le_of_eq (Nat.zero_add _),hn⟩,Nat.le_of_eq (Nat.zero_add _),hm⟩
end Go.Ev
