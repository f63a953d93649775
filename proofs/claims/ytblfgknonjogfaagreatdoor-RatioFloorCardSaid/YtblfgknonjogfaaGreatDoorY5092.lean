/-
  The tQ that the statement needs, 2 of 4.
-/
import Derived.Test.YtblfgknonjogfaaGreatDoorY5091
namespace Go.Ev
open Go.Proofs
open Go.RowKit
set_option linter.unusedVariables false
set_option linter.unusedSimpArgs false
set_option maxRecDepth 100000
noncomputable def k50:Con:=⟨89,[.agg [.plain (.bool),.list [.int .i64]],.agg [.plain (.bool),.list [.int .i64]]],w48 (fun n1 ap np mp tp n2 aq nq mq tq=>decide ((ap+np≤mp∧aq+nq≤mq)∧(np≤1000∧nq≤1000)∧S.fF np (FS tp ap)=true∧S.fF nq (FS tq aq)=true)),w48 (fun n1 ap np mp tp n2 aq nq mq tq=>(V50) (S.fP (S.sv n1 (S.val np (FS tp ap))+S.sv n2 (S.val nq (FS tq aq))))),w48 (fun n1 ap np mp tp n2 aq nq mq tq=>(N50) (S.fP (S.sv n1 (S.val np (FS tp ap))+S.sv n2 (S.val nq (FS tq aq))))),fun _ _=> .dead⟩
theorem s50 (n1:Bool) (ap np mp:Nat) (tp:Nat→Int) (n2:Bool) (aq nq mq:Nat) (tq:Nat→Int) (hp:(ap+np≤mp∧aq+nq≤mq)∧(np≤1000∧nq≤1000)∧S.fF np (fun j=>tp (j+ap))=true∧S.fF nq (fun j=>tq (j+aq))=true):zX ((q50 n1 ap np mp tp n2 aq nq mq tq)) ((p50 n1 ap np mp tp n2 aq nq mq tq)) ((S.fP (S.sv n1 (S.val np (fun j=>tp (j+ap)))+S.sv n2 (S.val nq (fun j=>tq (j+aq))))).1,(S.fP (S.sv n1 (S.val np (fun j=>tp (j+ap)))+S.sv n2 (S.val nq (fun j=>tq (j+aq))))).2):=by
 have hp':=hp
 obtain ⟨⟨hp1,hp2⟩,⟨hp3,hp4⟩,g1,g2⟩:=hp
 have v1:=yU (zj g1)
 have v2:=yU (zj g2)
 have lz:= @yy
 have hC:S.fV (S.val np (fun j=>tp (j+ap))) (S.val nq (fun j=>tq (j+aq)))≥0↔(S.val nq (fun j=>tq (j+aq)))≤(S.val np (fun j=>tp (j+ap))):=by
  unfold S.fV
  (repeat' split)<;>omega
 have c1:(ap+np≤mp∧np≤1000000∧aq+nq≤mq∧nq≤1000000∧S.fF np (fun j=>tp (j+ap))=true∧S.fF nq (fun j=>tq (j+aq))=true):=⟨hp1,by omega,hp2,by omega,g1,g2⟩
 have cd: ∀ v:Int,0≤v→(S.fG (S.fX v).length fun j=>S.at' (S.fX v) j)=true:=fun v _=>zj yH
 have cl: ∀ v:Int,v≤(S.val np (fun j=>tp (j+ap)))+(S.val nq (fun j=>tq (j+aq)))→(S.fX v).length≤1000000:=fun v hv=>by
  have h:=z7 (v:=v) (n:=1001) (by have q1:=yF (zj g1) (show np≤1000 by omega); have q2:=yF (zj g2) (show nq≤1000 by omega); have e:S.pw 1001=1000000*S.pw 1000:=rfl; omega)
  omega
 unfold p50
 have same: ∀ v:Int,∀ neg:Bool,0≤v→v≤(S.val np (fun j=>tp (j+ap)))+(S.val nq (fun j=>tq (j+aq)))→zX (q50 n1 ap np mp tp n2 aq nq mq tq) (bif decide (0+(S.fX v).length≤(S.fX v).length∧(S.fX v).length≤1000000∧(S.fG (S.fX v).length fun j=>S.at' (S.fX v) j)=true) then some (.inr (S.fW neg (S.val (S.fX v).length fun j=>S.at' (S.fX v) j),S.fX (S.val (S.fX v).length fun j=>S.at' (S.fX v) j))) else none) ((S.fP (S.sv neg v)).1,(S.fP (S.sv neg v)).2):=fun v neg hv hv2=>by
  rw [decide_eq_true (⟨Nat.le_of_eq (Nat.zero_add _),cl v hv2,cd v hv⟩),cond_true,z4 hv,qb hv]
  exact zG.mpr rfl
 cases n1
 · cases n2
   · rw [t6]
     have s:=same ((S.val np (fun j=>tp (j+ap)))+(S.val nq (fun j=>tq (j+aq)))) false (by omega) (Int.le_refl _)
     simp only [cond_true,cond_false,decide_eq_true hp',Bool.false_eq_true,S.fg]
     exact s
   · have e:S.sv false (S.val np (fun j=>tp (j+ap)))+S.sv true (S.val nq (fun j=>tq (j+aq)))=S.sv false ((S.val np (fun j=>tp (j+ap)))-(S.val nq (fun j=>tq (j+aq)))):=wR
     have e':S.sv false (S.val np (fun j=>tp (j+ap)))+S.sv true (S.val nq (fun j=>tq (j+aq)))=S.sv true ((S.val nq (fun j=>tq (j+aq)))-(S.val np (fun j=>tp (j+ap)))):=by rw [Int.add_comm]; exact wR
     simp only [cond_true,cond_false,decide_eq_true c1]
     by_cases hc:(S.val nq (fun j=>tq (j+aq)))≤(S.val np (fun j=>tp (j+ap)))
     · rw [decide_eq_true (hC.mpr hc),e]
       simp only [cond_true,decide_eq_true (⟨⟨hp1,hp2⟩,⟨hp3,hp4⟩,g1,g2,hc⟩:(ap+np≤mp∧aq+nq≤mq)∧(np≤1000∧nq≤1000)∧S.fF np (fun j=>tp (j+ap))=true∧S.fF nq (fun j=>tq (j+aq))=true∧(S.val nq (fun j=>tq (j+aq)))≤(S.val np (fun j=>tp (j+ap))))]
       exact same _ false (by omega) (by omega)
     · rw [decide_eq_false (fun h=>hc (hC.mp h)),e']
       simp only [cond_false,cond_true,decide_eq_true (⟨⟨hp2,hp1⟩,⟨hp4,hp3⟩,g2,g1,by omega⟩:(aq+nq≤mq∧ap+np≤mp)∧(nq≤1000∧np≤1000)∧S.fF nq (fun j=>tq (j+aq))=true∧S.fF np (fun j=>tp (j+ap))=true∧(S.val np (fun j=>tp (j+ap)))≤(S.val nq (fun j=>tq (j+aq))))]
       exact same _ true (by omega) (by omega)
 · cases n2
   · have e:S.sv true (S.val np (fun j=>tp (j+ap)))+S.sv false (S.val nq (fun j=>tq (j+aq)))=S.sv true ((S.val np (fun j=>tp (j+ap)))-(S.val nq (fun j=>tq (j+aq)))):=wR
     have e':S.sv true (S.val np (fun j=>tp (j+ap)))+S.sv false (S.val nq (fun j=>tq (j+aq)))=S.sv false ((S.val nq (fun j=>tq (j+aq)))-(S.val np (fun j=>tp (j+ap)))):=by rw [Int.add_comm]; exact wR
     simp only [cond_true,cond_false,decide_eq_true c1]
     by_cases hc:(S.val nq (fun j=>tq (j+aq)))≤(S.val np (fun j=>tp (j+ap)))
     · rw [decide_eq_true (hC.mpr hc),e]
       simp only [cond_true,decide_eq_true (⟨⟨hp1,hp2⟩,⟨hp3,hp4⟩,g1,g2,hc⟩:(ap+np≤mp∧aq+nq≤mq)∧(np≤1000∧nq≤1000)∧S.fF np (fun j=>tp (j+ap))=true∧S.fF nq (fun j=>tq (j+aq))=true∧(S.val nq (fun j=>tq (j+aq)))≤(S.val np (fun j=>tp (j+ap))))]
       exact same _ true (by omega) (by omega)
     · rw [decide_eq_false (fun h=>hc (hC.mp h)),e']
       simp only [cond_false,cond_true,decide_eq_true (⟨⟨hp2,hp1⟩,⟨hp4,hp3⟩,g2,g1,by omega⟩:(aq+nq≤mq∧ap+np≤mp)∧(nq≤1000∧np≤1000)∧S.fF nq (fun j=>tq (j+aq))=true∧S.fF np (fun j=>tp (j+ap))=true∧(S.val np (fun j=>tp (j+ap)))≤(S.val nq (fun j=>tq (j+aq))))]
       exact same _ false (by omega) (by omega)
   · rw [t6]
     have s:=same ((S.val np (fun j=>tp (j+ap)))+(S.val nq (fun j=>tq (j+aq)))) true (by omega) (Int.le_refl _)
     simp only [cond_true,cond_false,decide_eq_true hp',Bool.false_eq_true,S.fg]
     exact s
theorem k50_ok:k50.ok Tryz.prog:=by
 intro x hx
 obtain ⟨⟨n1,⟨ap,np,mp,tp,_⟩,_⟩,⟨n2,⟨aq,nq,mq,tq,_⟩,_⟩,_⟩:=x
 obtain ⟨h1,h2⟩:=a50 n1 ap np mp tp n2 aq nq mq tq (s50 n1 ap np mp tp n2 aq nq mq tq (zo hx rfl))
 exact ⟨⟨400,(by decide:2+1+1≤400),h1⟩,h2⟩
noncomputable def xD (g9:Bool→Prop→Prop→Prop):Ext:=xK g9 [k69,k65,k69v,k65v,k60,k61,k44,k73,k55,k45,k58,k56,k59,k46,k18,k19,k48,k50]
theorem lI:yZ Tryz.prog (xD cond):=yN ⟨k69_ok,k65_ok,k69v_ok,k65v_ok,k60_ok,k61_ok,k44_ok,k73_ok,k55_ok,k45_ok,k58_ok,k56_ok,k59_ok,k46_ok,k18_ok,k19_ok,k48_ok,k50_ok,trivial⟩
theorem yP {ng:Bool} {n:Nat} {t:Nat→Int} (h:S.fE ng n t=true):n≤80∧S.fF n t=true:=⟨(y5.mp h).1,(y5.mp h).2.1⟩
theorem lJ {v:Int}:S.fa v=if (S.fP v).2.length>80 then (false,3,[]) else ((S.fP v).1,0,(S.fP v).2):=rfl
section
variable (g9:TT) (fA:KS) (fC:KR) (n1:Bool) (ap np mp:Nat) (tp:NI) (n2:Bool) (aq nq mq:Nat) (tq:NI)
abbrev St23:=Empty
abbrev Rt23:=Bool×Int×List Int
noncomputable def V23 (r:Rt23):PV:= .tup [.agg [.bool r.1,.own 3 1 r.2.2.length],.int .i64 r.2.1]
noncomputable def N23 (r:Rt23):List Blk:= [CI r.2.2]
noncomputable def I23:St23→Hd:=fun s=>s.elim
noncomputable def q23 (n1:Bool) (ap np mp:Nat) (tp:NI) (n2:Bool) (aq nq mq:Nat) (tq:NI):St23→Option (St23⊕Rt23):=fun s=>s.elim
noncomputable def p23 (n1:Bool) (ap np mp:Nat) (tp:NI) (n2:Bool) (aq nq mq:Nat) (tq:NI):Option (St23⊕Rt23):=bif (decide (ap+np≤mp∧np≤1000000)) then (bif (S.fE n1 np fun j=>tp (j+ap)) then (bif (decide (aq+nq≤mq∧nq≤1000000)) then (bif (S.fE n2 nq fun j=>tq (j+aq)) then (bif (decide ((ap+np≤mp∧aq+nq≤mq)∧(np≤1000∧nq≤1000)∧(S.fF np fun j=>tp (j+ap))=true∧(S.fF nq fun j=>tq (j+aq))=true)) then (bif (decide ((↑((Prod.snd (S.fP (S.sv n1 (S.val np fun j=>tp (j+ap))+S.sv n2 (S.val nq fun j=>tq (j+aq))))).length):Int)>80)) then (some (.inr (false,(3:Int),[]))) else (some (.inr (Prod.fst (S.fP (S.sv n1 (S.val np fun j=>tp (j+ap))+S.sv n2 (S.val nq fun j=>tq (j+aq)))),(0:Int),Prod.snd (S.fP (S.sv n1 (S.val np fun j=>tp (j+ap))+S.sv n2 (S.val nq fun j=>tq (j+aq)))))))) else none) else (some (.inr (false,(1:Int),[])))) else none) else (some (.inr (false,(1:Int),[])))) else none
def Te23:Prop:=g9 (decide (ap+np≤mp∧np≤1000000)) (g9 (S.fE n1 np (FS tp ap)) (g9 (decide (aq+nq≤mq∧nq≤1000000)) (g9 (S.fE n2 nq (FS tq aq)) (g9 (decide ((ap+np≤mp∧aq+nq≤mq)∧(np≤1000∧nq≤1000)∧(S.fF np (FS tp ap))=true∧(S.fF nq (FS tq aq))=true)) (g9 (decide ((↑((S.fP (S.sv n1 (S.val np (FS tp ap))+S.sv n2 (S.val nq (FS tq aq)))).2.length):Int)>80)) (fC (.tup [.agg [.tf false,.nils],.int .i64 3]) ([[(1,false,CB mq tq),(0,false,CB mp tp)]]) 11) (fC (.tup [.agg [.bool (S.fP (S.sv n1 (S.val np (FS tp ap))+S.sv n2 (S.val nq (FS tq aq)))).1,.own 8 1 (S.fP (S.sv n1 (S.val np (FS tp ap))+S.sv n2 (S.val nq (FS tq aq)))).2.length],.int .i64 0]) ([[(1,false,CB mq tq),(0,false,CB mp tp),(8,true,CI (S.fP (S.sv n1 (S.val np (FS tp ap))+S.sv n2 (S.val nq (FS tq aq)))).2)]]) 11)) False) (fC (.tup [.agg [.tf false,.nils],.int .i64 1]) ([[(1,false,CB mq tq),(0,false,CB mp tp)]]) 7)) False) (fC (.tup [.agg [.tf false,.nils],.int .i64 1]) ([[(1,false,CB mq tq),(0,false,CB mp tp)]]) 6)) False
theorem te23:run g9 Tryz.env true (xD g9) true 400 ⟨42,[.cd (zS Tryz.f42).body],yD 0 [.agg [.bool n1,.loose ⟨0,1,ap,0⟩ np],.agg [.bool n2,.loose ⟨1,1,aq,0⟩ nq]],[[],[(0,(false,CB mp tp)),(1,(false,CB mq tq))]],2⟩ (zq 2 [] fA fC)=
 Te23 g9 fC n1 ap np mp tp n2 aq nq mq tq:=by kernel_rfl
noncomputable abbrev J23:Rt23→zQ:=fun r=> [yJ (2+1) ((N23) r)++ [(0,(false,CB mp tp)),(1,(false,CB mq tq))]]
attribute [local irreducible] Int.subNatNat in
theorem a23 {r:Rt23} (h:zX ((q23 n1 ap np mp tp n2 aq nq mq tq)) ((p23 n1 ap np mp tp n2 aq nq mq tq)) r):zn Tryz.prog 42 [.agg [.bool n1,.loose ⟨0,1,ap,0⟩ np],.agg [.bool n2,.loose ⟨1,1,aq,0⟩ nq]] [[(0,(false,CB mp tp)),(1,(false,CB mq tq))]] 2 ((V23) r) ((J23 mp tp mq tq) r) 400∧HB Tryz.prog 42:=by
 refine zf Tryz.envOk Tryz.mixed lI ((I23)) ((V23)) (J23 mp tp mq tq) (fn:=zS Tryz.f42) (ts:= []) (n:=400) rfl (by decide) (by simp) (zV rfl) ?_ ?_ ?_ h
 · intro s; exact s.elim
 · intro fA fC x hS hR h
   refine Holds.eq (te23 cond fA fC n1 ap np mp tp n2 aq nq mq tq) ?_
   unfold Te23
   unfold p23 at h
   refine zA h (fun c0 h=>zA h (fun c1 h=>zA h (fun c2 h=>zA h (fun c3 h=>zA h (fun c4 h=>zA h (fun c5 h=> ?_) (fun c5 h=>zU hR _ h (fun n=>bif Nat.beq n 3 then 8 else n) rfl rfl rfl (zm ⟨(zg ⟨(zu rfl),(zZ (zD rfl) rfl rfl),trivial⟩),(zH rfl),trivial⟩) rfl (zL (zD rfl) rfl (Nat.le_of_eq rfl) (zO (fun _ _=>rfl) zP) (zB (zC rfl) rfl rfl (zB (zC rfl) rfl rfl zE))))) (fun c4 h=> ?_)) (fun c3 h=> ?_)) (fun c2 h=> ?_)) (fun c1 h=> ?_)) (fun c0 h=> ?_)
   all_goals first
     |exact zU hR _ h (fun n=>bif Nat.beq n 3 then 399 else n) rfl rfl rfl (zm ⟨(zg ⟨(zR rfl),(zT rfl),trivial⟩),(zH rfl),trivial⟩) rfl (zY (zD rfl) (zc rfl) (zB (zC rfl) rfl rfl (zB (zC rfl) rfl rfl zE)))
     |exact zF h
 · intro fA fC x hS hR s h; exact s.elim
end
theorem s23 (n1:Bool) (ap np mp:Nat) (tp:Nat→Int) (n2:Bool) (aq nq mq:Nat) (tq:Nat→Int) (hp:(ap+np≤mp∧np≤1000000)∧aq+nq≤mq∧nq≤1000000):zX ((q23 n1 ap np mp tp n2 aq nq mq tq)) ((p23 n1 ap np mp tp n2 aq nq mq tq)) (((S.fM n1 np (fun j=>tp (j+ap)) n2 nq (fun j=>tq (j+aq))).1,(S.fM n1 np (fun j=>tp (j+ap)) n2 nq (fun j=>tq (j+aq))).2.1,(S.fM n1 np (fun j=>tp (j+ap)) n2 nq (fun j=>tq (j+aq))).2.2)):=by
 obtain ⟨⟨hp1,hp2⟩,hp3,hp4⟩:=hp
 unfold S.fM
 by_cases g1:S.fE n1 np (fun j=>tp (j+ap))=true
 · obtain ⟨l1,k1⟩:=yP g1
   by_cases g2:S.fE n2 nq (fun j=>tq (j+aq))=true
   · obtain ⟨l2,k2⟩:=yP g2
     have hq:(ap+np≤mp∧aq+nq≤mq)∧(np≤1000∧nq≤1000)∧S.fF np (fun j=>tp (j+ap))=true∧S.fF nq (fun j=>tq (j+aq))=true:=⟨⟨hp1,hp3⟩,⟨by omega,by omega⟩,k1,k2⟩
     have v2:=yU (zj k2)
     rw [if_pos ⟨g1,g2⟩,lJ]
     unfold p23
     cases n2<;>
     (simp only [cond_true,cond_false,Bool.not_true,Bool.not_false,g1,g2,decide_eq_true (⟨hp1,hp2⟩:ap+np≤mp∧np≤1000000),decide_eq_true (⟨hp3,hp4⟩:aq+nq≤mq∧nq≤1000000),decide_eq_true hq]
      generalize S.fP _=B
      by_cases hl:B.2.length>80
      · rw [if_pos hl]
        rw [decide_eq_true (by omega:((B.2.length:Nat):Int)>80),cond_true]
        exact zG.mpr rfl
      · rw [if_neg hl]
        rw [decide_eq_false (by omega: ¬ ((B.2.length:Nat):Int)>80),cond_false]
        exact zG.mpr rfl)
   · rw [if_neg (fun h=>g2 h.2)]
     have g2:=Bool.not_eq_true _ ▸ g2
     unfold p23
     cases n2<;>simp only [cond_true,cond_false,g1,g2,decide_eq_true (⟨hp1,hp2⟩:ap+np≤mp∧np≤1000000),decide_eq_true (⟨hp3,hp4⟩:aq+nq≤mq∧nq≤1000000)]<;>exact zG.mpr rfl
 · rw [if_neg (fun h=>g1 h.1)]
   have g1:=Bool.not_eq_true _ ▸ g1
   unfold p23
   simp only [cond_true,cond_false,g1,decide_eq_true (⟨hp1,hp2⟩:ap+np≤mp∧np≤1000000)]
   exact zG.mpr rfl
theorem vk: ∀ {k i:Nat},S.fD (fun _=>0) i k=0
  |0,_=>rfl
  |k+1,i=>by simp only [S.fD]; rw [vk]; rfl
theorem wn {R:List Int} {n p:Nat} {v:Int} (hR:R.length=n) (hd: ∀ j,j<n→0≤S.at' R j∧S.at' R j<1000000) (hv:0≤v∧v<1000000): ∀ j,j<n→0≤S.at' (S.fJ n fun j=>bif Nat.beq j p then v else S.at' R j) j∧S.at' (S.fJ n fun j=>bif Nat.beq j p then v else S.at' R j) j<1000000:=fun j hj=>by
 rw [y7 hj]
 by_cases h:j=p
 · subst h; rw [Nat.beq_refl,cond_true]; exact hv
 · rw [ot h,cond_false]; exact hd j hj
theorem zw {R:List Int} {n p j:Nat} {v:Int} (hj:j<n):S.at' (S.fJ n fun j=>bif Nat.beq j p then v else S.at' R j) j=if j=p then v else S.at' R j:=by
 rw [y7 hj]
 by_cases h:j=p
 · subst h; rw [Nat.beq_refl,cond_true,if_pos rfl]
 · rw [ot h,cond_false,if_neg h]
theorem kE: ∀ {a b:Nat},S.pw (a+b)=S.pw a*S.pw b
  |a,0=>by show S.pw a=S.pw a*1; rw [Int.mul_one]
  |a,b+1=>by
   show 1000000*S.pw (a+b)=S.pw a*(1000000*S.pw b)
   rw [kE,Int.mul_left_comm]
theorem qV {a b:Nat} {v w:Int} (hv:0≤v∧v<S.pw a) (hw:0≤w∧w<S.pw b):0≤v*w∧v*w<S.pw (a+b):=by
 refine ⟨Int.mul_nonneg hv.1 hw.1,?_⟩
 rw [kE]
 have h1:v*w≤v*S.pw b:=Int.mul_le_mul_of_nonneg_left (by omega) hv.1
 have h2:v*S.pw b<S.pw a*S.pw b:=Int.mul_lt_mul_of_pos_right hv.2 xJ
 omega
theorem lN {x:Int} (h:0≤x∧x<1000000000000):0≤Int.tmod x 1000000∧Int.tmod x 1000000<1000000∧0≤Int.tdiv x 1000000∧Int.tdiv x 1000000<1000000∧x=Int.tmod x 1000000+1000000*Int.tdiv x 1000000:=by
 rw [tmB h.1,tdB h.1]
 omega
theorem uf {x y:Int} (hx:0≤x∧x<1000000) (hy:0≤y∧y<1000000):0≤x*y∧x*y≤999998000001:=by
 refine ⟨Int.mul_nonneg hx.1 hy.1,?_⟩
 have h1:x*y≤999999*y:=Int.mul_le_mul_of_nonneg_right (by omega) hy.1
 omega
section
variable (g9:TT) (fA:KS) (fC:KR) (ap np mp:Nat) (tp:NI) (aq nq mq:Nat) (tq:NI)
inductive St52 where
 |h0 (x0:Int) (x1:List Int)
 |h1 (x0:Int) (x1:Int) (x2:Int) (x3:Int) (x4:Int) (x5:List Int)
abbrev Rt52:=List Int
noncomputable def V52 (r:Rt52):PV:= .own 3 1 r.length
noncomputable def N52 (r:Rt52):List Blk:= [CI r]
noncomputable def I52:St52→Hd
  | .h0 x0 x1=>⟨hd Tryz.f112 0,[.loose ⟨1,1,aq,0⟩ nq,
 .own 2 1 x1.length,.unk,.unk,.unk,
 .loose ⟨0,1,ap,0⟩ np,.int .i64 (np:Int),
 .int .i64 x0,.unk,.unk,.unk],[[(2,(true,CI x1))],[(0,(false,CB mp tp)),(1,(false,CB mq tq))]],3⟩
  | .h1 x0 x1 x2 x3 x4 x5=>⟨hd Tryz.f112 1,[.loose ⟨1,1,aq,0⟩ nq,
 .own 2 1 x5.length,.int .i64 x0,.int .i64 x1,
 .int .i64 x2,.loose ⟨0,1,ap,0⟩ np,
 .int .i64 (np:Int),.int .i64 x3,
 .loose ⟨1,1,aq,0⟩ nq,.int .i64 (nq:Int),
 .int .i64 x4],[[(2,(true,CI x5))],[(0,(false,CB mp tp)),(1,(false,CB mq tq))]],3⟩
noncomputable def q52 (ap np mp:Nat) (tp:NI) (aq nq mq:Nat) (tq:NI):St52→Option (St52⊕Rt52)| .h0 x0 x1=>bif (decide (x0<(np:Int))) then (bif (decide ((0:Int)≤x0∧x0<(np:Int))) then (bif (decide (x0.toNat+ap<mp)) then (some (.inl (.h1 x0 (tp (x0.toNat+ap)) ((0:Int)) x0 ((0:Int)) x1))) else none) else none) else (bif (decide (x1.length≤x1.length)) then (bif (decide (x1.length≤1000000)) then (some (.inr (S.trim (S.fJ x1.length fun j=>S.at' x1 j)))) else none) else none)| .h1 x0 x1 x2 x3 x4 x5=>bif (decide (x4<(nq:Int))) then (bif (decide ((0:Int)≤x4∧x4<(nq:Int))) then (bif (decide (x4.toNat+aq<mq)) then (bif (lim .i64 (x0+x4)) then (bif (decide ((0:Int)≤x0+x4∧x0+x4<(↑(x5.length):Int))) then (bif (decide ((x0+x4).toNat<x5.length)) then (bif (lim .i64 (x1*tq (x4.toNat+aq))) then (bif (lim .i64 (S.at' x5 (x0+x4).toNat+x1*tq (x4.toNat+aq))) then (bif (lim .i64 (x2+(S.at' x5 (x0+x4).toNat+x1*tq (x4.toNat+aq)))) then (bif (lim .i64 (Int.tdiv (x2+(S.at' x5 (x0+x4).toNat+x1*tq (x4.toNat+aq))) (1000000:Int))) then (bif (lim .i64 (x4+1)) then (some (.inl (.h1 x0 x1 (Int.tdiv (x2+(S.at' x5 (x0+x4).toNat+x1*tq (x4.toNat+aq))) (1000000:Int)) x3 (x4+1) (S.fJ x5.length fun j=>bif Nat.beq j (x0+x4).toNat then Int.tmod (x2+(S.at' x5 (x0+x4).toNat+x1*tq (x4.toNat+aq))) (1000000:Int) else S.at' x5 j)))) else none) else none) else none) else none) else none) else none) else none) else none) else none) else none) else (bif (lim .i64 (x0+(nq:Int))) then (bif (decide ((0:Int)≤x0+(nq:Int)∧x0+(nq:Int)<(↑(x5.length):Int))) then (bif (decide ((x0+(nq:Int)).toNat<x5.length)) then (bif (lim .i64 (x3+1)) then (some (.inl (.h0 (x3+1) (S.fJ x5.length fun j=>bif Nat.beq j (x0+(nq:Int)).toNat then x2 else S.at' x5 j)))) else none) else none) else none) else none)
noncomputable def p52 (ap np mp:Nat) (tp:NI) (aq nq mq:Nat) (tq:NI):Option (St52⊕Rt52):=bif ((np:Int)==0) then (some (.inr [])) else (bif ((nq:Int)==0) then (some (.inr [])) else (bif (lim .i64 ((np:Int)+(nq:Int))) then (bif (decide ((0:Int)≤(np:Int)+(nq:Int)∧(np:Int)+(nq:Int)≤(np:Int)+(nq:Int)∧(np:Int)+(nq:Int)≤1000000)) then (some (.inl (.h0 ((0:Int)) (S.fJ ((np:Int)+(nq:Int)).toNat fun j=>0)))) else none) else none))
def Te52:Prop:=g9 ((np:Int)==0) (fC (.nils) ([[(1,false,CB mq tq),(0,false,CB mp tp)]]) 2) (g9 ((nq:Int)==0) (fC (.nils) ([[(1,false,CB mq tq),(0,false,CB mp tp)]]) 2) (g9 (lim .i64 ((np:Int)+(nq:Int))) (g9 (decide ((0:Int)≤(np:Int)+(nq:Int)∧(np:Int)+(nq:Int)≤(np:Int)+(nq:Int)∧(np:Int)+(nq:Int)≤1000000)) (fA (hd Tryz.f112 0) ([.loose ⟨1,1,aq,0⟩ nq,.own 2 1 ((np:Int)+(nq:Int)).toNat,.unk,.unk,.unk,.loose ⟨0,1,ap,0⟩ np,.int .i64 (np:Int),.int .i64 0,.unk,.unk,.unk]) ([[(1,false,CB mq tq),(0,false,CB mp tp),(2,true,.cols ((np:Int)+(nq:Int)).toNat [.int .i64 fun (x:Nat)=>0])]]) 3) False) False))
theorem te52:run g9 Tryz.env true (xD g9) true 400 ⟨112,[.cd (zS Tryz.f112).body],yD 0 [.loose ⟨0,1,ap,0⟩ np,.loose ⟨1,1,aq,0⟩ nq],[[],[(0,(false,CB mp tp)),(1,(false,CB mq tq))]],2⟩ (zq 2 [1,5,6,7,8,25,26,27,32,33,34] fA fC)=
 Te52 g9 fA fC ap np mp tp aq nq mq tq:=by kernel_rfl
def T52_0 (x0:Int) (x1:List Int):Prop:=g9 (decide (x0<(np:Int))) (g9 (decide ((0:Int)≤x0∧x0<(np:Int))) (g9 (decide (x0.toNat+ap<mp)) (fA (hd Tryz.f112 1) ([.loose ⟨1,1,aq,0⟩ nq,.own 2 1 x1.length,.int .i64 x0,.int .i64 (tp (x0.toNat+ap)),.int .i64 0,.loose ⟨0,1,ap,0⟩ np,.int .i64 (np:Int),.int .i64 x0,.loose ⟨1,1,aq,0⟩ nq,.int .i64 (nq:Int),.int .i64 0]) ([[(1,false,CB mq tq),(0,false,CB mp tp),(2,true,CI x1)]]) 3) False) False) (g9 (decide (x1.length≤x1.length)) (g9 (decide (x1.length≤1000000)) (fC (.own 2 1 (S.trim (S.fJ x1.length fun j=>S.at' x1 j)).length) ([[(1,false,CB mq tq),(0,false,CB mp tp),(2,true,CI (S.trim (S.fJ x1.length fun j=>S.at' x1 j)))]]) 4) False) False)
theorem t52_0 (x0:Int) (x1:List Int):run g9 Tryz.env true (xD g9) true 400 ⟨112,hd Tryz.f112 0,yc [1,5,6,7,8,25,26,27,32,33,34] [.loose ⟨1,1,aq,0⟩ nq,
 .own 2 1 x1.length,.unk,.unk,.unk,
 .loose ⟨0,1,ap,0⟩ np,.int .i64 (np:Int),
 .int .i64 x0,.unk,.unk,.unk],[[(2,(true,CI x1))],[(0,(false,CB mp tp)),(1,(false,CB mq tq))]],3⟩ (zq 2 [1,5,6,7,8,25,26,27,32,33,34] fA fC)=
  T52_0 g9 fA fC ap np mp tp aq nq mq tq x0 x1:=by kernel_rfl
def T52_1 (x0 x1 x2 x3 x4:Int) (x5:List Int):Prop:=g9 (decide (x4<(nq:Int))) (g9 (decide ((0:Int)≤x4∧x4<(nq:Int))) (g9 (decide (x4.toNat+aq<mq)) (g9 (lim .i64 (x0+x4)) (g9 (decide ((0:Int)≤x0+x4∧x0+x4<(↑(x5.length):Int))) (g9 (decide ((x0+x4).toNat<x5.length)) (g9 (lim .i64 (x1*tq (x4.toNat+aq))) (g9 (lim .i64 (S.at' x5 (x0+x4).toNat+x1*tq (x4.toNat+aq))) (g9 (lim .i64 (x2+(S.at' x5 (x0+x4).toNat+x1*tq (x4.toNat+aq)))) (g9 (lim .i64 (x0+x4)) (g9 false False (g9 (decide ((0:Int)≤x0+x4∧x0+x4<(↑(x5.length):Int))) (g9 (decide ((x0+x4).toNat<x5.length)) (g9 false False (g9 (lim .i64 (Int.tdiv (x2+(S.at' x5 (x0+x4).toNat+x1*tq (x4.toNat+aq))) (1000000:Int))) (g9 (lim .i64 (x4+1)) (fA (hd Tryz.f112 1) ([.loose ⟨1,1,aq,0⟩ nq,.own 2 1 x5.length,.int .i64 x0,.int .i64 x1,.int .i64 (Int.tdiv (x2+(S.at' x5 (x0+x4).toNat+x1*tq (x4.toNat+aq))) (1000000:Int)),.loose ⟨0,1,ap,0⟩ np,.int .i64 (np:Int),.int .i64 x3,.loose ⟨1,1,aq,0⟩ nq,.int .i64 (nq:Int),.int .i64 (x4+1)]) ([[(1,false,CB mq tq),(0,false,CB mp tp),(2,true,.cols x5.length [.int .i64 fun j=>bif Nat.beq j (x0+x4).toNat then Int.tmod (x2+(S.at' x5 (x0+x4).toNat+x1*tq (x4.toNat+aq))) (1000000:Int) else S.at' x5 j])]]) 3) False) False)) False) False)) False) False) False) False) False) False) False) False) False) (g9 (lim .i64 (x0+(nq:Int))) (g9 (decide ((0:Int)≤x0+(nq:Int)∧x0+(nq:Int)<(↑(x5.length):Int))) (g9 (decide ((x0+(nq:Int)).toNat<x5.length)) (g9 (lim .i64 (x3+1)) (fA (hd Tryz.f112 0) ([.loose ⟨1,1,aq,0⟩ nq,.own 2 1 x5.length,.int .i64 x0,.int .i64 x1,.int .i64 x2,.loose ⟨0,1,ap,0⟩ np,.int .i64 (np:Int),.int .i64 (x3+1),.loose ⟨1,1,aq,0⟩ nq,.int .i64 (nq:Int),.int .i64 x4]) ([[(1,false,CB mq tq),(0,false,CB mp tp),(2,true,.cols x5.length [.int .i64 fun j=>bif Nat.beq j (x0+(nq:Int)).toNat then x2 else S.at' x5 j])]]) 3) False) False) False) False)
theorem t52_1 (x0 x1 x2 x3 x4:Int) (x5:List Int):run g9 Tryz.env true (xD g9) true 400 ⟨112,hd Tryz.f112 1,yc [1,5,6,7,8,25,26,27,32,33,34] [.loose ⟨1,1,aq,0⟩ nq,
 .own 2 1 x5.length,.int .i64 x0,.int .i64 x1,
 .int .i64 x2,.loose ⟨0,1,ap,0⟩ np,
 .int .i64 (np:Int),.int .i64 x3,
 .loose ⟨1,1,aq,0⟩ nq,.int .i64 (nq:Int),
 .int .i64 x4],[[(2,(true,CI x5))],[(0,(false,CB mp tp)),(1,(false,CB mq tq))]],3⟩ (zq 2 [1,5,6,7,8,25,26,27,32,33,34] fA fC)=
  T52_1 g9 fA ap np mp tp aq nq mq tq x0 x1 x2 x3 x4 x5:=by kernel_rfl
noncomputable abbrev J52:Rt52→zQ:=fun r=> [yJ (2+1) ((N52) r)++ [(0,(false,CB mp tp)),(1,(false,CB mq tq))]]
attribute [local irreducible] Int.subNatNat in
theorem a52 {r:Rt52} (h:zX ((q52 ap np mp tp aq nq mq tq)) ((p52 ap np mp tp aq nq mq tq)) r):zn Tryz.prog 112 [.loose ⟨0,1,ap,0⟩ np,.loose ⟨1,1,aq,0⟩ nq] [[(0,(false,CB mp tp)),(1,(false,CB mq tq))]] 2 ((V52) r) ((J52 mp tp mq tq) r) 400∧HB Tryz.prog 112:=by
 refine zf Tryz.envOk Tryz.mixed lI ((I52 ap np mp tp aq nq mq tq)) ((V52)) (J52 mp tp mq tq) (fn:=zS Tryz.f112) (ts:= [1,5,6,7,8,25,26,27,32,33,34]) (n:=400) rfl (by decide) (by simp) (zV rfl) ?_ ?_ ?_ h
 · intro s; cases s<;>exact ⟨ym _ _,by simp [I52],zV rfl,Nat.le_of_ble_eq_true rfl⟩
 · intro fA fC x hS hR h
   refine Holds.eq (te52 cond fA fC ap np mp tp aq nq mq tq) ?_
   unfold Te52
   unfold p52 at h
   exact zA h (fun c0 h=>zU hR _ h (fun n=>bif Nat.beq n 3 then 399 else n) rfl rfl rfl (zT rfl) rfl (zY (zD rfl) (zc rfl) (zB (zC rfl) rfl rfl (zB (zC rfl) rfl rfl zE)))) (fun c0 h=>zA h (fun c1 h=>zU hR _ h (fun n=>bif Nat.beq n 3 then 399 else n) rfl rfl rfl (zT rfl) rfl (zY (zD rfl) (zc rfl) (zB (zC rfl) rfl rfl (zB (zC rfl) rfl rfl zE)))) (fun c1 h=>zA h (fun c2 h=>zA h (fun c3 h=>zb hS _ h (fun n=>bif Nat.beq n 2 then 2 else n) rfl rfl rfl ⟨(zM (zC rfl) rfl rfl rfl),⟨(zZ (zD rfl) rfl zW),⟨(zh _),⟨(zh _),⟨(zh _),⟨(zM (zC rfl) rfl rfl rfl),⟨(zH rfl),⟨(zH rfl),⟨(zh _),⟨(zh _),⟨(zh _),trivial⟩⟩⟩⟩⟩⟩⟩⟩⟩⟩⟩ rfl (zL (zD rfl) rfl (Nat.le_of_eq zW) (zO (fun _ hj=>z3 (fun (t:Int)=>t) hj) zP) (zB (zC rfl) rfl rfl (zB (zC rfl) rfl rfl zE)))) (fun c3 h=>zF h)) (fun c2 h=>zF h)))
 · intro fA fC x hS hR s h
   cases s with
   |h0 x0 x1=>
    refine Holds.eq (t52_0 cond fA fC ap np mp tp aq nq mq tq x0 x1) ?_
    unfold T52_0
    rw [q52] at h
    exact zA h (fun c0 h=>zA h (fun c1 h=>zA h (fun c2 h=>zb hS _ h (fun n=>bif Nat.beq n 2 then 2 else n) rfl rfl rfl ⟨(zM (zC rfl) rfl rfl rfl),⟨(zZ (zD rfl) rfl rfl),⟨(zH rfl),⟨(zH rfl),⟨(zH rfl),⟨(zM (zC rfl) rfl rfl rfl),⟨(zH rfl),⟨(zH rfl),⟨(zM (zC rfl) rfl rfl rfl),⟨(zH rfl),⟨(zH rfl),trivial⟩⟩⟩⟩⟩⟩⟩⟩⟩⟩⟩ rfl (zL (zD rfl) rfl (Nat.le_of_eq rfl) (zO (fun _ _=>rfl) zP) (zB (zC rfl) rfl rfl (zB (zC rfl) rfl rfl zE)))) (fun c2 h=>zF h)) (fun c1 h=>zF h)) (fun c0 h=>zA h (fun c1 h=>zA h (fun c2 h=>zU hR _ h (fun n=>bif Nat.beq n 3 then 2 else n) rfl rfl rfl (zZ (zD rfl) rfl rfl) rfl (zL (zD rfl) rfl (Nat.le_of_eq rfl) (zO (fun _ _=>rfl) zP) (zB (zC rfl) rfl rfl (zB (zC rfl) rfl rfl zE)))) (fun c2 h=>zF h)) (fun c1 h=>zF h))
   |h1 x0 x1 x2 x3 x4 x5=>
    refine Holds.eq (t52_1 cond fA fC ap np mp tp aq nq mq tq x0 x1 x2 x3 x4 x5) ?_
    unfold T52_1
    rw [q52] at h
    exact zA h (fun c0 h=>zA h (fun c1 h=>zA h (fun c2 h=>zA h (fun c3 h=>zA h (fun c4 h=>zA h (fun c5 h=>zA h (fun c6 h=>zA h (fun c7 h=>zA h (fun c8 h=>zJ c3 (za rfl (zJ c4 (zJ c5 (za rfl (zA h (fun c9 h=>zA h (fun c10 h=>zb hS _ h (fun n=>bif Nat.beq n 2 then 2 else n) rfl rfl rfl ⟨(zM (zC rfl) rfl rfl rfl),⟨(zZ (zD rfl) rfl zW),⟨(zH rfl),⟨(zH rfl),⟨(zH rfl),⟨(zM (zC rfl) rfl rfl rfl),⟨(zH rfl),⟨(zH rfl),⟨(zM (zC rfl) rfl rfl rfl),⟨(zH rfl),⟨(zH rfl),trivial⟩⟩⟩⟩⟩⟩⟩⟩⟩⟩⟩ rfl (zL (zD rfl) rfl (Nat.le_of_eq zW) (zO (fun _ hj=>z3 (fun (t:Int)=>t) hj) zP) (zB (zC rfl) rfl rfl (zB (zC rfl) rfl rfl zE)))) (fun c10 h=>zF h)) (fun c9 h=>zF h))))))) (fun c8 h=>zF h)) (fun c7 h=>zF h)) (fun c6 h=>zF h)) (fun c5 h=>zF h)) (fun c4 h=>zF h)) (fun c3 h=>zF h)) (fun c2 h=>zF h)) (fun c1 h=>zF h)) (fun c0 h=>zA h (fun c1 h=>zA h (fun c2 h=>zA h (fun c3 h=>zA h (fun c4 h=>zb hS _ h (fun n=>bif Nat.beq n 2 then 2 else n) rfl rfl rfl ⟨(zM (zC rfl) rfl rfl rfl),⟨(zZ (zD rfl) rfl zW),⟨(zh _),⟨(zh _),⟨(zh _),⟨(zM (zC rfl) rfl rfl rfl),⟨(zH rfl),⟨(zH rfl),⟨(zh _),⟨(zh _),⟨(zh _),trivial⟩⟩⟩⟩⟩⟩⟩⟩⟩⟩⟩ rfl (zL (zD rfl) rfl (Nat.le_of_eq zW) (zO (fun _ hj=>z3 (fun (t:Int)=>t) hj) zP) (zB (zC rfl) rfl rfl (zB (zC rfl) rfl rfl zE)))) (fun c4 h=>zF h)) (fun c3 h=>zF h)) (fun c2 h=>zF h)) (fun c1 h=>zF h))
end
noncomputable def k52:Con:=⟨112,[.one (.list [.int .i64]),.one (.list [.int .i64])],w60 (fun ap np mp tp aq nq mq tq=>decide ((ap+np≤mp∧aq+nq≤mq)∧(np≤1000∧nq≤1000)∧S.fF np (FS tp ap)=true∧S.fF nq (FS tq aq)=true)),w60 (fun ap np mp tp aq nq mq tq=>(V52) (S.fX ((S.val np (FS tp ap))*(S.val nq (FS tq aq))))),w60 (fun ap np mp tp aq nq mq tq=>(N52) (S.fX ((S.val np (FS tp ap))*(S.val nq (FS tq aq))))),fun _ _=> .dead⟩
theorem s52i (ap np mp:Nat) (tp:Nat→Int) (aq nq mq:Nat) (tq:Nat→Int) (hp:(ap+np≤mp∧aq+nq≤mq)∧(np≤1000∧nq≤1000)∧S.fF np (fun j=>tp (j+ap))=true∧S.fF nq (fun j=>tq (j+aq))=true) (i:Nat) (hi:i<np): ∀ (k a:Nat) (c:Int) (R:List Int),a+k=nq→R.length=np+nq→(∀ j,j<np+nq→0≤S.at' R j∧S.at' R j<1000000)→(∀ j,i+nq≤j→j<np+nq→S.at' R j=0)→(0≤c∧c<1000000)→
 ∃ R':List Int,R'.length=np+nq∧(∀ j,j<np+nq→0≤S.at' R' j∧S.at' R' j<1000000)∧(∀ j,i+1+nq≤j→j<np+nq→S.at' R' j=0)∧(∀ j,j<i+a→S.at' R' j=S.at' R j)∧S.fD (S.at' R') (i+a) (np+nq-(i+a))=S.fD (S.at' R) (i+a) (np+nq-(i+a))+c+tp (i+ap)*S.fD (fun j=>tq (j+aq)) a k∧
  ∀ res:List Int,(Comes (q52 ap np mp tp aq nq mq tq) (.h0 ((i:Int)+1) R') res→Comes (q52 ap np mp tp aq nq mq tq) (.h1 (i:Int) (tp (i+ap)) c (i:Int) (a:Int) R) res):=by
 obtain ⟨⟨hp1,hp2⟩,⟨hp3,hp4⟩,g1,g2⟩:=hp
 have d1:=(zl.mp g1).1 i hi
 have d2:=(zl.mp g2).1
 (try dsimp only at d1)
 intro k
 induction k with
 | zero=>
  intro a c R ha hR hd hz hc
  obtain rfl:a=nq:=by omega
  have z0:=hz (i+a) (Nat.le_refl _) (by omega)
  refine ⟨S.fJ (np+a) (fun j=>bif Nat.beq j (i+a) then c else S.at' R j),zW,wn hR hd hc,fun j h1 h2=> ?_,fun j h1=> ?_,?_,fun res hC=> ?_⟩
  · rw [zw h2,if_neg (by omega)]; exact hz j (by omega) h2
  · rw [zw (by omega),if_neg (by omega)]
  · rw [show np+a-(i+a)=(np+a-(i+a+1))+1 by omega]
    simp only [S.fD]
    rw [zw (by omega),if_pos rfl,z0,yA (u:=S.at' R) fun j h1 h2=>by rw [zw (by omega),if_neg (by omega)]]
    omega
  · rw [← hR] at hC
    have e1:((i:Int)+a).toNat=i+a:=by omega
    apply Comes.of
    show zX _ _ _
    (first|rw [q52]|unfold q52)
    repeat' (first|with_reducible refine zN (fun h=> ?_) (fun h=> ?_)<;>(try simp only [SH,e1] at h)|exact zI.mpr (by omega))
    all_goals first|(exfalso; omega)|(rw [e1]; exact hC)
 | succ k ih=>
  intro a c R ha hR hd hz hc
  have hq:=d2 a (by omega)
  (try dsimp only at hq)
  have hm:=uf d1 hq
  have hr:=hd (i+a) (by omega)
  have ms:=lN (x:=c+(S.at' R (i+a)+tp (i+ap)*tq (a+aq))) (by omega)
  generalize hD:Int.tmod (c+(S.at' R (i+a)+tp (i+ap)*tq (a+aq))) 1000000=dg at ms
  generalize hC:Int.tdiv (c+(S.at' R (i+a)+tp (i+ap)*tq (a+aq))) 1000000=cy at ms
  obtain ⟨R',r1,r2,r3,r4,r5,r6⟩:=ih (a+1) cy (S.fJ (np+nq) fun j=>bif Nat.beq j (i+a) then dg else S.at' R j) (by omega) zW (wn hR hd (by omega)) (fun j h1 h2=>by rw [zw h2,if_neg (by omega)]; exact hz j h1 h2) (by omega)
  refine ⟨R',r1,r2,r3,fun j h1=> ?_,?_,fun res hX=> ?_⟩
  · rw [r4 j (by omega),zw (by omega),if_neg (by omega)]
  · rw [show np+nq-(i+a)=(np+nq-(i+(a+1)))+1 by omega]
    have e1:=r4 (i+a) (by omega)
    rw [zw (by omega),if_pos rfl] at e1
    have r5':S.fD (S.at' (S.fJ (np+nq) fun j=>bif Nat.beq j (i+a) then dg else S.at' R j)) (i+(a+1)) (np+nq-(i+(a+1)))=S.fD (S.at' R) (i+(a+1)) (np+nq-(i+(a+1))):=yA fun j h1 h2=>by rw [zw (by omega),if_neg (by omega)]
    rw [r5'] at r5
    simp only [S.fD]
    have ed: ∀ x:Int,tp (i+ap)*(tq (a+aq)+1000000*x)=tp (i+ap)*tq (a+aq)+1000000*(tp (i+ap)*x):=fun x=>by rw [Int.mul_add,Int.mul_left_comm]
    rw [show i+a+1=i+(a+1) by omega,r5,e1,ed]
    generalize tp (i+ap)*S.fD _ _ _=w1 at*
    generalize S.fD _ _ _=w2 at*
    (try dsimp only)
    omega
  · have r6:=r6 res hX
    rw [← hR] at r6
    have e1:((i:Int)+a).toNat=i+a:=by omega
    clear ih r5 hX
    apply Comes.of
    show zX _ _ _
    rw [q52]
    simp only [e1,Int.toNat_natCast,hD,hC]
    repeat' (first|with_reducible refine zN (fun h=> ?_) (fun h=> ?_)<;>(try simp only [SH] at h)|exact zI.mpr (by omega))
    all_goals first|(exfalso; omega)|exact r6
theorem s52' (ap np mp:Nat) (tp:Nat→Int) (aq nq mq:Nat) (tq:Nat→Int) (hp:(ap+np≤mp∧aq+nq≤mq)∧(np≤1000∧nq≤1000)∧S.fF np (fun j=>tp (j+ap))=true∧S.fF nq (fun j=>tq (j+aq))=true): ∀ (k i:Nat) (R:List Int),i+k=np→R.length=np+nq→(∀ j,j<np+nq→0≤S.at' R j∧S.at' R j<1000000)→(∀ j,i+nq≤j→j<np+nq→S.at' R j=0)→
 ∃ R':List Int,R'.length=np+nq∧(∀ j,j<np+nq→0≤S.at' R' j∧S.at' R' j<1000000)∧(∀ j,j<i→S.at' R' j=S.at' R j)∧S.fD (S.at' R') (i) (np+nq-(i))=S.fD (S.at' R) (i) (np+nq-(i))+S.fD (fun j=>tp (j+ap)) i k*(S.val nq (fun j=>tq (j+aq)))∧Comes (q52 ap np mp tp aq nq mq tq) (.h0 (i:Int) R) (S.trim R'):=by
 have hp':=hp
 obtain ⟨⟨hp1,hp2⟩,⟨hp3,hp4⟩,g1,g2⟩:=hp
 intro k
 induction k with
 |zero=>
  intro i R hi hR hd hz
  refine ⟨R,hR,hd,fun j _=>rfl,by simp only [S.fD]; rw [Int.zero_mul,Int.add_zero],?_⟩
  rw [← uc]
  apply Comes.of
  show zX _ _ _
  (first|rw [q52]|unfold q52)
  repeat' (first|with_reducible refine zN (fun h=> ?_) (fun h=> ?_)<;>(try simp only [SH] at h)|exact zI.mpr (by omega))
  all_goals first|(exfalso; omega)|exact zG.mpr rfl
 | succ k ih=>
  intro i R hi hR hd hz
  obtain ⟨R1,a1,a2,a3,a4,a5,a6⟩:=s52i ap np mp tp aq nq mq tq hp' i (by omega) nq 0 0 R (by omega) hR hd hz (by omega)
  obtain ⟨R',b1,b2,b3,b4,b5⟩:=ih (i+1) R1 (by omega) a1 a2 (fun j h1 h2=>a3 j (by omega) h2)
  have vq:S.fD (fun j=>tq (j+aq)) 0 nq=(S.val nq (fun j=>tq (j+aq))):=rfl
  rw [vq,Nat.add_zero,Int.add_zero] at a5
  refine ⟨R',b1,b2,fun j hj=>by rw [b3 j (by omega),a4 j (by omega)],?_,?_⟩
  · have e1:=b3 i (by omega)
    rw [show np+nq-i=(np+nq-(i+1))+1 by omega] at a5 ⊢
    simp only [S.fD] at a5 ⊢
    rw [e1,b4,Int.add_mul,Int.mul_assoc]
    (try dsimp only)
    generalize tp (i+ap)*(S.val nq (fun j=>tq (j+aq)))=w1 at*
    generalize S.fD (fun j=>tp (j+ap)) (i+1) k*(S.val nq (fun j=>tq (j+aq)))=w2 at*
    generalize S.fD _ _ _=w3 at*
    generalize S.fD _ _ _=w4 at*
    omega
  · have a6:=a6 _ b5
    apply Comes.of
    show zX _ _ _
    (first|rw [q52]|unfold q52)
    repeat' (first|with_reducible refine zN (fun h=> ?_) (fun h=> ?_)<;>(try simp only [SH] at h)|exact zI.mpr (by omega))
    all_goals first|(exfalso; omega)|exact a6
theorem s52 (ap np mp:Nat) (tp:Nat→Int) (aq nq mq:Nat) (tq:Nat→Int) (hp:(ap+np≤mp∧aq+nq≤mq)∧(np≤1000∧nq≤1000)∧S.fF np (fun j=>tp (j+ap))=true∧S.fF nq (fun j=>tq (j+aq))=true):zX ((q52 ap np mp tp aq nq mq tq)) ((p52 ap np mp tp aq nq mq tq)) (S.fX ((S.val np (fun j=>tp (j+ap)))*(S.val nq (fun j=>tq (j+aq))))):=by
 have hp':=hp
 obtain ⟨⟨hp1,hp2⟩,⟨hp3,hp4⟩,g1,g2⟩:=hp
 by_cases h1:np=0
 · subst h1
   have e':S.val 0 (fun j=>tp (j+ap))=0:=rfl
   rw [e',Int.zero_mul,z8]
   show zX _ _ _
   unfold p52
   repeat' (first|with_reducible refine zN (fun h=> ?_) (fun h=> ?_)<;>(try simp only [SH] at h)|exact zI.mpr (by omega))
   all_goals first|(exfalso; omega)|(exfalso; simp at*; done)|exact zG.mpr rfl
 · by_cases h2:nq=0
   · subst h2
     have e':S.val 0 (fun j=>tq (j+aq))=0:=rfl
     rw [e',Int.mul_zero,z8]
     show zX _ _ _
     unfold p52
     repeat' (first|with_reducible refine zN (fun h=> ?_) (fun h=> ?_)<;>(try simp only [SH] at h)|exact zI.mpr (by omega))
     all_goals first|(exfalso; omega)|(exfalso; simp at*; done)|exact zG.mpr rfl
   · have z: ∀ j,j<np+nq→S.at' (S.fJ (np+nq) fun _=>(0:Int)) j=0:=fun j hj=>y7 hj
     obtain ⟨R',r1,r2,r3,r4,r5⟩:=s52' ap np mp tp aq nq mq tq hp' np 0 (S.fJ (np+nq) fun _=>0) (by omega) zW (fun j hj=>by rw [z j hj]; omega) (fun j _ hj=>z j hj)
     have z2:S.fD (S.at' (S.fJ (np+nq) fun _=>(0:Int))) 0 (np+nq-0)=0:=by rw [yA (u:=fun _=>0) fun j _ hj=>z j (by omega)]; exact vk
     have vp:S.fD (fun j=>tp (j+ap)) 0 np=(S.val np (fun j=>tp (j+ap))):=rfl
     rw [z2,vp,Int.zero_add,Nat.sub_zero] at r4
     have e:S.trim R'=S.fX ((S.val np (fun j=>tp (j+ap)))*(S.val nq (fun j=>tq (j+aq)))):=by
      rw [xL fun x hx=>by obtain ⟨j,hj,rfl⟩:=List.getElem_of_mem hx; have:=r2 j (by omega); rw [tT hj] at this; exact this]
      rw [← vE,r1]
      exact congrArg S.fX r4
     rw [e] at r5
     have en:((np:Int)+nq).toNat=np+nq:=by omega
     show zX _ _ _
     unfold p52
     repeat' (first|with_reducible refine zN (fun h=> ?_) (fun h=> ?_)<;>(try simp only [SH,en] at h)|exact zI.mpr (by omega))
     all_goals first|(exfalso; omega)|(exfalso; simp at*; omega)|(rw [en]; exact r5)
theorem k52_ok:k52.ok Tryz.prog:=by
 intro x hx
 obtain ⟨⟨ap,np,mp,tp,_⟩,⟨aq,nq,mq,tq,_⟩,_⟩:=x
 obtain ⟨h1,h2⟩:=a52 ap np mp tp aq nq mq tq (s52 ap np mp tp aq nq mq tq (zo hx rfl))
 exact ⟨⟨400,(by decide:2+1+1≤400),h1⟩,h2⟩
section
variable (g9:TT) (fA:KS) (fC:KR) (ap np mp:Nat) (tp:NI) (aq nq mq:Nat) (tq:NI)
inductive St53 where
 |h0 (x0:Int) (x1:List Int)
 |h1 (x0:Int) (x1:Int) (x2:Int) (x3:List Int)
abbrev Rt53:=List Int
noncomputable def V53 (r:Rt53):PV:= .own 3 1 r.length
noncomputable def N53 (r:Rt53):List Blk:= [CI r]
noncomputable def I53:St53→Hd
  | .h0 x0 x1=>⟨hd Tryz.f109 0,[.loose ⟨0,1,ap,0⟩ np,
 .loose ⟨1,1,aq,0⟩ nq,
 .own 2 1 x1.length,.int .i64 x0,.unk,.unk],[[(2,(true,CI x1))],[(0,(false,CB mp tp)),(1,(false,CB mq tq))]],3⟩
  | .h1 x0 x1 x2 x3=>⟨hd Tryz.f109 1,[.loose ⟨0,1,ap,0⟩ np,
 .loose ⟨1,1,aq,0⟩ nq,
 .own 2 1 x3.length,.int .i64 x0,.int .i64 x1,
 .int .i64 x2],[[(2,(true,CI x3))],[(0,(false,CB mp tp)),(1,(false,CB mq tq))]],3⟩
noncomputable def q53 (ap np mp:Nat) (tp:NI) (aq nq mq:Nat) (tq:NI):St53→Option (St53⊕Rt53)| .h0 x0 x1=>bif (decide (x0<(np:Int))) then (some (.inl (.h1 x0 ((0:Int)) ((0:Int)) x1))) else (bif (decide (x1.length≤x1.length)) then (bif (decide (x1.length≤1000000)) then (some (.inr (S.trim (S.fJ x1.length fun j=>S.at' x1 j)))) else none) else none)| .h1 x0 x1 x2 x3=>bif (decide (x2<(nq:Int))) then (bif (lim .i64 (x0+x2)) then (bif (decide ((0:Int)≤x0+x2∧x0+x2<(↑(x3.length):Int))) then (bif (decide ((x0+x2).toNat<x3.length)) then (bif (decide ((0:Int)≤x0∧x0<(np:Int))) then (bif (decide (x0.toNat+ap<mp)) then (bif (decide ((0:Int)≤x2∧x2<(nq:Int))) then (bif (decide (x2.toNat+aq<mq)) then (bif (lim .i64 (tp (x0.toNat+ap)*tq (x2.toNat+aq))) then (bif (lim .i64 (S.at' x3 (x0+x2).toNat+tp (x0.toNat+ap)*tq (x2.toNat+aq))) then (bif (lim .i64 (S.at' x3 (x0+x2).toNat+tp (x0.toNat+ap)*tq (x2.toNat+aq)+x1)) then (bif (lim .i64 (Int.tdiv (S.at' x3 (x0+x2).toNat+tp (x0.toNat+ap)*tq (x2.toNat+aq)+x1) (1000000:Int))) then (bif (lim .i64 (x2+1)) then (some (.inl (.h1 x0 (Int.tdiv (S.at' x3 (x0+x2).toNat+tp (x0.toNat+ap)*tq (x2.toNat+aq)+x1) (1000000:Int)) (x2+1) (S.fJ x3.length fun j=>bif Nat.beq j (x0+x2).toNat then Int.tmod (S.at' x3 (x0+x2).toNat+tp (x0.toNat+ap)*tq (x2.toNat+aq)+x1) (1000000:Int) else S.at' x3 j)))) else none) else none) else none) else none) else none) else none) else none) else none) else none) else none) else none) else none) else (bif (decide (x1>0)) then (bif (lim .i64 (x0+x2)) then (bif (decide ((0:Int)≤x0+x2∧x0+x2<(↑(x3.length):Int))) then (bif (decide ((x0+x2).toNat<x3.length)) then (bif (decide ((0:Int)≤x0∧x0<(np:Int))) then (bif (decide (x0.toNat+ap<mp)) then (bif (lim .i64 (tp (x0.toNat+ap)*0)) then (bif (lim .i64 (S.at' x3 (x0+x2).toNat+tp (x0.toNat+ap)*0)) then (bif (lim .i64 (S.at' x3 (x0+x2).toNat+tp (x0.toNat+ap)*0+x1)) then (bif (lim .i64 (Int.tdiv (S.at' x3 (x0+x2).toNat+tp (x0.toNat+ap)*0+x1) (1000000:Int))) then (bif (lim .i64 (x2+1)) then (some (.inl (.h1 x0 (Int.tdiv (S.at' x3 (x0+x2).toNat+tp (x0.toNat+ap)*0+x1) (1000000:Int)) (x2+1) (S.fJ x3.length fun j=>bif Nat.beq j (x0+x2).toNat then Int.tmod (S.at' x3 (x0+x2).toNat+tp (x0.toNat+ap)*0+x1) (1000000:Int) else S.at' x3 j)))) else none) else none) else none) else none) else none) else none) else none) else none) else none) else none) else (bif (lim .i64 (x0+1)) then (some (.inl (.h0 (x0+1) x3))) else none))
noncomputable def p53 (ap np mp:Nat) (tp:NI) (aq nq mq:Nat) (tq:NI):Option (St53⊕Rt53):=bif (lim .i64 ((np:Int)+(nq:Int))) then (bif (lim .i64 ((np:Int)+(nq:Int)+1)) then (bif (decide ((0:Int)≤(np:Int)+(nq:Int)+1∧(np:Int)+(nq:Int)+1≤(np:Int)+(nq:Int)+1∧(np:Int)+(nq:Int)+1≤1000000)) then (some (.inl (.h0 ((0:Int)) (S.fJ ((np:Int)+(nq:Int)+1).toNat fun j=>0)))) else none) else none) else none
def Te53:Prop:=g9 (lim .i64 ((np:Int)+(nq:Int))) (g9 (lim .i64 ((np:Int)+(nq:Int)+1)) (g9 (decide ((0:Int)≤(np:Int)+(nq:Int)+1∧(np:Int)+(nq:Int)+1≤(np:Int)+(nq:Int)+1∧(np:Int)+(nq:Int)+1≤1000000)) (fA (hd Tryz.f109 0) ([.loose ⟨0,1,ap,0⟩ np,.loose ⟨1,1,aq,0⟩ nq,.own 2 1 ((np:Int)+(nq:Int)+1).toNat,.int .i64 0,.unk,.unk]) ([[(1,false,CB mq tq),(0,false,CB mp tp),(2,true,.cols ((np:Int)+(nq:Int)+1).toNat [.int .i64 fun (x:Nat)=>0])]]) 3) False) False) False
theorem te53:run g9 Tryz.env true (xD g9) true 400 ⟨109,[.cd (zS Tryz.f109).body],yD 0 [.loose ⟨0,1,ap,0⟩ np,.loose ⟨1,1,aq,0⟩ nq],[[],[(0,(false,CB mp tp)),(1,(false,CB mq tq))]],2⟩ (zq 2 [0,1,5,6,7,8] fA fC)=
 Te53 g9 fA ap np mp tp aq nq mq tq:=by kernel_rfl
def T53_0 (x0:Int) (x1:List Int):Prop:=g9 (decide (x0<(np:Int))) (fA (hd Tryz.f109 1) ([.loose ⟨0,1,ap,0⟩ np,.loose ⟨1,1,aq,0⟩ nq,.own 2 1 x1.length,.int .i64 x0,.int .i64 0,.int .i64 0]) ([[(1,false,CB mq tq),(0,false,CB mp tp),(2,true,CI x1)]]) 3) (g9 (decide (x1.length≤x1.length)) (g9 (decide (x1.length≤1000000)) (fC (.own 2 1 (S.trim (S.fJ x1.length fun j=>S.at' x1 j)).length) ([[(1,false,CB mq tq),(0,false,CB mp tp),(2,true,CI (S.trim (S.fJ x1.length fun j=>S.at' x1 j)))]]) 4) False) False)
theorem t53_0 (x0:Int) (x1:List Int):run g9 Tryz.env true (xD g9) true 400 ⟨109,hd Tryz.f109 0,yc [0,1,5,6,7,8] [.loose ⟨0,1,ap,0⟩ np,
 .loose ⟨1,1,aq,0⟩ nq,
 .own 2 1 x1.length,.int .i64 x0,.unk,.unk],[[(2,(true,CI x1))],[(0,(false,CB mp tp)),(1,(false,CB mq tq))]],3⟩ (zq 2 [0,1,5,6,7,8] fA fC)=
  T53_0 g9 fA fC ap np mp tp aq nq mq tq x0 x1:=by kernel_rfl
noncomputable abbrev u53_1_0 (x0 x1 x2:Int) (x3:List Int):=S.at' x3 (x0+x2).toNat+tp (x0.toNat+ap)*tq (x2.toNat+aq)+x1
noncomputable abbrev u53_1_1 (x0 x1 x2:Int) (x3:List Int):=S.at' x3 (x0+x2).toNat+tp (x0.toNat+ap)*(0:Int)+x1
noncomputable abbrev u53_1_2 (x0 x2:Int) (x3:List Int):=decide ((0:Int)≤x0+x2∧x0+x2<(↑(x3.length):Int))
def T53_1 (x0 x1 x2:Int) (x3:List Int):Prop:=g9 (decide (x2<(nq:Int))) (g9 (lim .i64 (x0+x2)) (g9 (u53_1_2 x0 x2 x3) (g9 (decide ((x0+x2).toNat<x3.length)) (g9 (decide ((0:Int)≤x0∧x0<(np:Int))) (g9 (decide (x0.toNat+ap<mp)) (g9 (decide (x2<(nq:Int))) (g9 (decide ((0:Int)≤x2∧x2<(nq:Int))) (g9 (decide (x2.toNat+aq<mq)) (g9 (lim .i64 (tp (x0.toNat+ap)*tq (x2.toNat+aq))) (g9 (lim .i64 (S.at' x3 (x0+x2).toNat+tp (x0.toNat+ap)*tq (x2.toNat+aq))) (g9 (lim .i64 (u53_1_0 ap tp aq tq x0 x1 x2 x3)) (g9 (lim .i64 (x0+x2)) (g9 false False (g9 (u53_1_2 x0 x2 x3) (g9 (decide ((x0+x2).toNat<x3.length)) (g9 false False (g9 (lim .i64 (Int.tdiv (u53_1_0 ap tp aq tq x0 x1 x2 x3) (1000000:Int))) (g9 (lim .i64 (x2+1)) (fA (hd Tryz.f109 1) ([.loose ⟨0,1,ap,0⟩ np,.loose ⟨1,1,aq,0⟩ nq,.own 2 1 x3.length,.int .i64 x0,.int .i64 (Int.tdiv (u53_1_0 ap tp aq tq x0 x1 x2 x3) (1000000:Int)),.int .i64 (x2+1)]) ([[(1,false,CB mq tq),(0,false,CB mp tp),(2,true,.cols x3.length [.int .i64 fun j=>bif Nat.beq j (x0+x2).toNat then Int.tmod (u53_1_0 ap tp aq tq x0 x1 x2 x3) (1000000:Int) else S.at' x3 j])]]) 3) False) False)) False) False)) False) False) False) False) False) False) (g9 (lim .i64 (tp (x0.toNat+ap)*0)) (g9 (lim .i64 (S.at' x3 (x0+x2).toNat+tp (x0.toNat+ap)*0)) (g9 (lim .i64 (u53_1_1 ap tp x0 x1 x2 x3)) (g9 (lim .i64 (x0+x2)) (g9 false False (g9 (u53_1_2 x0 x2 x3) (g9 (decide ((x0+x2).toNat<x3.length)) (g9 false False (g9 (lim .i64 (Int.tdiv (u53_1_1 ap tp x0 x1 x2 x3) (1000000:Int))) (g9 (lim .i64 (x2+1)) (fA (hd Tryz.f109 1) ([.loose ⟨0,1,ap,0⟩ np,.loose ⟨1,1,aq,0⟩ nq,.own 2 1 x3.length,.int .i64 x0,.int .i64 (Int.tdiv (u53_1_1 ap tp x0 x1 x2 x3) (1000000:Int)),.int .i64 (x2+1)]) ([[(1,false,CB mq tq),(0,false,CB mp tp),(2,true,.cols x3.length [.int .i64 fun j=>bif Nat.beq j (x0+x2).toNat then Int.tmod (u53_1_1 ap tp x0 x1 x2 x3) (1000000:Int) else S.at' x3 j])]]) 3) False) False)) False) False)) False) False) False) False)) False) False) False) False) False) (g9 (decide (x1>0)) (g9 (lim .i64 (x0+x2)) (g9 (u53_1_2 x0 x2 x3) (g9 (decide ((x0+x2).toNat<x3.length)) (g9 (decide ((0:Int)≤x0∧x0<(np:Int))) (g9 (decide (x0.toNat+ap<mp)) (g9 (decide (x2<(nq:Int))) (g9 (decide ((0:Int)≤x2∧x2<(nq:Int))) (g9 (decide (x2.toNat+aq<mq)) (g9 (lim .i64 (tp (x0.toNat+ap)*tq (x2.toNat+aq))) (g9 (lim .i64 (S.at' x3 (x0+x2).toNat+tp (x0.toNat+ap)*tq (x2.toNat+aq))) (g9 (lim .i64 (u53_1_0 ap tp aq tq x0 x1 x2 x3)) (g9 (lim .i64 (x0+x2)) (g9 false False (g9 (u53_1_2 x0 x2 x3) (g9 (decide ((x0+x2).toNat<x3.length)) (g9 false False (g9 (lim .i64 (Int.tdiv (u53_1_0 ap tp aq tq x0 x1 x2 x3) (1000000:Int))) (g9 (lim .i64 (x2+1)) (fA (hd Tryz.f109 1) ([.loose ⟨0,1,ap,0⟩ np,.loose ⟨1,1,aq,0⟩ nq,.own 2 1 x3.length,.int .i64 x0,.int .i64 (Int.tdiv (u53_1_0 ap tp aq tq x0 x1 x2 x3) (1000000:Int)),.int .i64 (x2+1)]) ([[(1,false,CB mq tq),(0,false,CB mp tp),(2,true,.cols x3.length [.int .i64 fun j=>bif Nat.beq j (x0+x2).toNat then Int.tmod (u53_1_0 ap tp aq tq x0 x1 x2 x3) (1000000:Int) else S.at' x3 j])]]) 3) False) False)) False) False)) False) False) False) False) False) False) (g9 (lim .i64 (tp (x0.toNat+ap)*0)) (g9 (lim .i64 (S.at' x3 (x0+x2).toNat+tp (x0.toNat+ap)*0)) (g9 (lim .i64 (u53_1_1 ap tp x0 x1 x2 x3)) (g9 (lim .i64 (x0+x2)) (g9 false False (g9 (u53_1_2 x0 x2 x3) (g9 (decide ((x0+x2).toNat<x3.length)) (g9 false False (g9 (lim .i64 (Int.tdiv (u53_1_1 ap tp x0 x1 x2 x3) (1000000:Int))) (g9 (lim .i64 (x2+1)) (fA (hd Tryz.f109 1) ([.loose ⟨0,1,ap,0⟩ np,.loose ⟨1,1,aq,0⟩ nq,.own 2 1 x3.length,.int .i64 x0,.int .i64 (Int.tdiv (u53_1_1 ap tp x0 x1 x2 x3) (1000000:Int)),.int .i64 (x2+1)]) ([[(1,false,CB mq tq),(0,false,CB mp tp),(2,true,.cols x3.length [.int .i64 fun j=>bif Nat.beq j (x0+x2).toNat then Int.tmod (u53_1_1 ap tp x0 x1 x2 x3) (1000000:Int) else S.at' x3 j])]]) 3) False) False)) False) False)) False) False) False) False)) False) False) False) False) False) (g9 (lim .i64 (x0+1)) (fA (hd Tryz.f109 0) ([.loose ⟨0,1,ap,0⟩ np,.loose ⟨1,1,aq,0⟩ nq,.own 2 1 x3.length,.int .i64 (x0+1),.int .i64 x1,.int .i64 x2]) ([[(1,false,CB mq tq),(0,false,CB mp tp),(2,true,CI x3)]]) 3) False))
theorem t53_1 (x0 x1 x2:Int) (x3:List Int):run g9 Tryz.env true (xD g9) true 400 ⟨109,hd Tryz.f109 1,yc [0,1,5,6,7,8] [.loose ⟨0,1,ap,0⟩ np,
 .loose ⟨1,1,aq,0⟩ nq,
 .own 2 1 x3.length,.int .i64 x0,.int .i64 x1,
 .int .i64 x2],[[(2,(true,CI x3))],[(0,(false,CB mp tp)),(1,(false,CB mq tq))]],3⟩ (zq 2 [0,1,5,6,7,8] fA fC)=
  T53_1 g9 fA ap np mp tp aq nq mq tq x0 x1 x2 x3:=by kernel_rfl
noncomputable abbrev J53:Rt53→zQ:=fun r=> [yJ (2+1) ((N53) r)++ [(0,(false,CB mp tp)),(1,(false,CB mq tq))]]
attribute [local irreducible] Int.subNatNat in
theorem a53 {r:Rt53} (h:zX ((q53 ap np mp tp aq nq mq tq)) ((p53 ap np mp tp aq nq mq tq)) r):zn Tryz.prog 109 [.loose ⟨0,1,ap,0⟩ np,.loose ⟨1,1,aq,0⟩ nq] [[(0,(false,CB mp tp)),(1,(false,CB mq tq))]] 2 ((V53) r) ((J53 mp tp mq tq) r) 400∧HB Tryz.prog 109:=by
 refine zf Tryz.envOk Tryz.mixed lI ((I53 ap np mp tp aq nq mq tq)) ((V53)) (J53 mp tp mq tq) (fn:=zS Tryz.f109) (ts:= [0,1,5,6,7,8]) (n:=400) rfl (by decide) (by simp) (zV rfl) ?_ ?_ ?_ h
 · intro s; cases s<;>exact ⟨ym _ _,by simp [I53],zV rfl,Nat.le_of_ble_eq_true rfl⟩
 · intro fA fC x hS hR h
   refine Holds.eq (te53 cond fA fC ap np mp tp aq nq mq tq) ?_
   unfold Te53
   unfold p53 at h
   exact zA h (fun c0 h=>zA h (fun c1 h=>zA h (fun c2 h=>zb hS _ h (fun n=>bif Nat.beq n 2 then 2 else n) rfl rfl rfl ⟨(zM (zC rfl) rfl rfl rfl),⟨(zM (zC rfl) rfl rfl rfl),⟨(zZ (zD rfl) rfl zW),⟨(zH rfl),⟨(zh _),⟨(zh _),trivial⟩⟩⟩⟩⟩⟩ rfl (zL (zD rfl) rfl (Nat.le_of_eq zW) (zO (fun _ hj=>z3 (fun (t:Int)=>t) hj) zP) (zB (zC rfl) rfl rfl (zB (zC rfl) rfl rfl zE)))) (fun c2 h=>zF h)) (fun c1 h=>zF h)) (fun c0 h=>zF h)
 · intro fA fC x hS hR s h
   cases s with
   |h0 x0 x1=>
    refine Holds.eq (t53_0 cond fA fC ap np mp tp aq nq mq tq x0 x1) ?_
    unfold T53_0
    rw [q53] at h
    exact zA h (fun c0 h=>zb hS _ h (fun n=>bif Nat.beq n 2 then 2 else n) rfl rfl rfl ⟨(zM (zC rfl) rfl rfl rfl),⟨(zM (zC rfl) rfl rfl rfl),⟨(zZ (zD rfl) rfl rfl),⟨(zH rfl),⟨(zH rfl),⟨(zH rfl),trivial⟩⟩⟩⟩⟩⟩ rfl (zL (zD rfl) rfl (Nat.le_of_eq rfl) (zO (fun _ _=>rfl) zP) (zB (zC rfl) rfl rfl (zB (zC rfl) rfl rfl zE)))) (fun c0 h=>zA h (fun c1 h=>zA h (fun c2 h=>zU hR _ h (fun n=>bif Nat.beq n 3 then 2 else n) rfl rfl rfl (zZ (zD rfl) rfl rfl) rfl (zL (zD rfl) rfl (Nat.le_of_eq rfl) (zO (fun _ _=>rfl) zP) (zB (zC rfl) rfl rfl (zB (zC rfl) rfl rfl zE)))) (fun c2 h=>zF h)) (fun c1 h=>zF h))
   | h1 x0 x1 x2 x3=>
    refine Holds.eq (t53_1 cond fA fC ap np mp tp aq nq mq tq x0 x1 x2 x3) ?_
    unfold T53_1
    rw [q53] at h
    refine zA h (fun c0 h=>zA h (fun c1 h=>zA h (fun c2 h=>zA h (fun c3 h=>zA h (fun c4 h=>zA h (fun c5 h=>zJ c0 (zA h (fun c6 h=>zA h (fun c7 h=>zA h (fun c8 h=>zA h (fun c9 h=>zA h (fun c10 h=>zJ c1 (za rfl (zJ c2 (zJ c3 (za rfl (zA h (fun c11 h=>zA h (fun c12 h=> ?_) (fun c12 h=> ?_)) (fun c11 h=> ?_))))))) (fun c10 h=> ?_)) (fun c9 h=> ?_)) (fun c8 h=> ?_)) (fun c7 h=> ?_)) (fun c6 h=> ?_))) (fun c5 h=> ?_)) (fun c4 h=> ?_)) (fun c3 h=> ?_)) (fun c2 h=> ?_)) (fun c1 h=> ?_)) (fun c0 h=>zA h (fun c1 h=>zA h (fun c2 h=>zA h (fun c3 h=>zA h (fun c4 h=>zA h (fun c5 h=>zA h (fun c6 h=>za c0 (zA h (fun c7 h=>zA h (fun c8 h=>zA h (fun c9 h=>zJ c2 (za rfl (zJ c3 (zJ c4 (za rfl (zA h (fun c10 h=>zA h (fun c11 h=> ?_) (fun c11 h=> ?_)) (fun c10 h=> ?_))))))) (fun c9 h=> ?_)) (fun c8 h=> ?_)) (fun c7 h=> ?_))) (fun c6 h=> ?_)) (fun c5 h=> ?_)) (fun c4 h=> ?_)) (fun c3 h=> ?_)) (fun c2 h=> ?_)) (fun c1 h=>zA h (fun c2 h=>zb hS _ h (fun n=>bif Nat.beq n 2 then 2 else n) rfl rfl rfl ⟨(zM (zC rfl) rfl rfl rfl),⟨(zM (zC rfl) rfl rfl rfl),⟨(zZ (zD rfl) rfl rfl),⟨(zH rfl),⟨(zh _),⟨(zh _),trivial⟩⟩⟩⟩⟩⟩ rfl (zL (zD rfl) rfl (Nat.le_of_eq rfl) (zO (fun _ _=>rfl) zP) (zB (zC rfl) rfl rfl (zB (zC rfl) rfl rfl zE)))) (fun c2 h=> ?_)))
    all_goals first
      |exact zF h
      |exact zb hS _ h (fun n=>bif Nat.beq n 2 then 2 else n) rfl rfl rfl ⟨(zM (zC rfl) rfl rfl rfl),⟨(zM (zC rfl) rfl rfl rfl),⟨(zZ (zD rfl) rfl zW),⟨(zH rfl),⟨(zH rfl),⟨(zH rfl),trivial⟩⟩⟩⟩⟩⟩ rfl (zL (zD rfl) rfl (Nat.le_of_eq zW) (zO (fun _ hj=>z3 (fun (t:Int)=>t) hj) zP) (zB (zC rfl) rfl rfl (zB (zC rfl) rfl rfl zE)))
end
noncomputable def k53:Con:=⟨109,[.one (.list [.int .i64]),.one (.list [.int .i64])],w60 (fun ap np mp tp aq nq mq tq=>decide ((ap+np≤mp∧aq+nq≤mq)∧(np≤1000∧nq≤1000)∧S.fG np (FS tp ap)=true∧S.fG nq (FS tq aq)=true)),w60 (fun ap np mp tp aq nq mq tq=>(V53) (S.fX ((S.val np (FS tp ap))*(S.val nq (FS tq aq))))),w60 (fun ap np mp tp aq nq mq tq=>(N53) (S.fX ((S.val np (FS tp ap))*(S.val nq (FS tq aq))))),fun _ _=> .dead⟩
theorem s53i (ap np mp:Nat) (tp:Nat→Int) (aq nq mq:Nat) (tq:Nat→Int) (hp:(ap+np≤mp∧aq+nq≤mq)∧(np≤1000∧nq≤1000)∧S.fG np (fun j=>tp (j+ap))=true∧S.fG nq (fun j=>tq (j+aq))=true) (i:Nat) (hi:i<np): ∀ (k a:Nat) (c:Int) (R:List Int),a+k=nq→R.length=np+nq+1→(∀ j,j<np+nq+1→0≤S.at' R j∧S.at' R j<1000000)→(∀ j,i+nq≤j→j<np+nq+1→S.at' R j=0)→(0≤c∧c<1000000)→
 ∃ R':List Int,R'.length=np+nq+1∧(∀ j,j<np+nq+1→0≤S.at' R' j∧S.at' R' j<1000000)∧(∀ j,i+1+nq≤j→j<np+nq+1→S.at' R' j=0)∧(∀ j,j<i+a→S.at' R' j=S.at' R j)∧S.fD (S.at' R') (i+a) (np+nq+1-(i+a))=S.fD (S.at' R) (i+a) (np+nq+1-(i+a))+c+tp (i+ap)*S.fD (fun j=>tq (j+aq)) a k∧
  ∀ res:List Int,(Comes (q53 ap np mp tp aq nq mq tq) (.h0 ((i:Int)+1) R') res→Comes (q53 ap np mp tp aq nq mq tq) (.h1 (i:Int) c (a:Int) R) res):=by
 obtain ⟨⟨hp1,hp2⟩,⟨hp3,hp4⟩,g1,g2⟩:=hp
 have d1:=yO.mp g1 i hi
 have d2:=yO.mp g2
 (try dsimp only at d1)
 intro k
 induction k with
 | zero =>
  intro a c R ha hR hd hz hc
  obtain rfl:a=nq:=by omega
  have z0:=hz (i+a) (Nat.le_refl _) (by omega)
  have e1:((i:Int)+a).toNat=i+a:=by omega
  by_cases h0:c=0
  · subst h0
    refine ⟨R,hR,hd,fun j h1 h2=>hz j (by omega) h2,fun j _=>rfl,by simp only [S.fD]; rw [Int.mul_zero]; omega,fun res hC=> ?_⟩
    apply Comes.of
    show zX _ _ _
    (first|rw [q53]|unfold q53)
    repeat' (first|with_reducible refine zN (fun h=> ?_) (fun h=> ?_)<;>(try simp only [SH,e1] at h)|exact zI.mpr (by omega))
    all_goals first|(exfalso; omega)|exact hC
  · refine ⟨S.fJ (np+a+1) (fun j=>bif Nat.beq j (i+a) then c else S.at' R j),zW,wn hR hd hc,fun j h1 h2=> ?_,fun j h1=> ?_,?_,fun res hC=> ?_⟩
    · rw [zw h2,if_neg (by omega)]; exact hz j (by omega) h2
    · rw [zw (by omega),if_neg (by omega)]
    · rw [show np+a+1-(i+a)=(np+a+1-(i+a+1))+1 by omega]
      simp only [S.fD]
      rw [zw (by omega),if_pos rfl,z0,yA (u:=S.at' R) fun j h1 h2=>by rw [zw (by omega),if_neg (by omega)]]
      omega
    · have e2:S.at' R (i+a)+tp (i+ap)*0+c=c:=by rw [z0,Int.mul_zero]; omega
      have e3:Int.tmod c 1000000=c:=by rw [tmB hc.1]; omega
      have e4:Int.tdiv c 1000000=0:=by rw [tdB hc.1]; omega
      have e5:tp (i+ap)*0=0:=Int.mul_zero _
      have hE:Comes (q53 ap np mp tp aq a mq tq) (.h1 (i:Int) 0 ((a:Int)+1) (S.fJ R.length fun j=>bif Nat.beq j (i+a) then c else S.at' R j)) res:=by
       rw [← hR] at hC
       apply Comes.of
       show zX _ _ _
       (first|rw [q53]|unfold q53)
       repeat' (first|with_reducible refine zN (fun h=> ?_) (fun h=> ?_)<;>(try simp only [SH,e1] at h)|exact zI.mpr (by omega))
       all_goals first|(exfalso; omega)|exact hC
      apply Comes.of
      show zX _ _ _
      rw [q53]
      simp only [e1,e2,e3,e4,Int.toNat_natCast]
      simp only [z0,e5]
      repeat' (first|with_reducible refine zN (fun h=> ?_) (fun h=> ?_)<;>(try simp only [SH] at h)|exact zI.mpr (by omega))
      all_goals first|(exfalso; omega)|(simp only [z0] at hE; exact hE)|exact hE
 | succ k ih=>
  intro a c R ha hR hd hz hc
  have hq:=d2 a (by omega)
  (try dsimp only at hq)
  have hm:=uf d1 hq
  have hr:=hd (i+a) (by omega)
  have ms:=lN (x:=S.at' R (i+a)+tp (i+ap)*tq (a+aq)+c) (by omega)
  generalize hD:Int.tmod (S.at' R (i+a)+tp (i+ap)*tq (a+aq)+c) 1000000=dg at ms
  generalize hC:Int.tdiv (S.at' R (i+a)+tp (i+ap)*tq (a+aq)+c) 1000000=cy at ms
  obtain ⟨R',r1,r2,r3,r4,r5,r6⟩:=ih (a+1) cy (S.fJ (np+nq+1) fun j=>bif Nat.beq j (i+a) then dg else S.at' R j) (by omega) zW (wn hR hd (by omega)) (fun j h1 h2=>by rw [zw h2,if_neg (by omega)]; exact hz j h1 h2) (by omega)
  refine ⟨R',r1,r2,r3,fun j h1=> ?_,?_,fun res hX=> ?_⟩
  · rw [r4 j (by omega),zw (by omega),if_neg (by omega)]
  · rw [show np+nq+1-(i+a)=(np+nq+1-(i+(a+1)))+1 by omega]
    have e1:=r4 (i+a) (by omega)
    rw [zw (by omega),if_pos rfl] at e1
    have r5':S.fD (S.at' (S.fJ (np+nq+1) fun j=>bif Nat.beq j (i+a) then dg else S.at' R j)) (i+(a+1)) (np+nq+1-(i+(a+1)))=S.fD (S.at' R) (i+(a+1)) (np+nq+1-(i+(a+1))):=yA fun j h1 h2=>by rw [zw (by omega),if_neg (by omega)]
    rw [r5'] at r5
    simp only [S.fD]
    have ed: ∀ x:Int,tp (i+ap)*(tq (a+aq)+1000000*x)=tp (i+ap)*tq (a+aq)+1000000*(tp (i+ap)*x):=fun x=>by rw [Int.mul_add,Int.mul_left_comm]
    rw [show i+a+1=i+(a+1) by omega,r5,e1,ed]
    generalize tp (i+ap)*S.fD _ _ _=w1 at*
    generalize S.fD _ _ _=w2 at*
    (try dsimp only)
    omega
  · have r6:=r6 res hX
    rw [← hR] at r6
    have e1:((i:Int)+a).toNat=i+a:=by omega
    clear ih r5 hX
    apply Comes.of
    show zX _ _ _
    rw [q53]
    simp only [e1,Int.toNat_natCast,hD,hC]
    repeat' (first|with_reducible refine zN (fun h=> ?_) (fun h=> ?_)<;>(try simp only [SH] at h)|exact zI.mpr (by omega))
    all_goals first|(exfalso; omega)|exact r6
theorem s53' (ap np mp:Nat) (tp:Nat→Int) (aq nq mq:Nat) (tq:Nat→Int) (hp:(ap+np≤mp∧aq+nq≤mq)∧(np≤1000∧nq≤1000)∧S.fG np (fun j=>tp (j+ap))=true∧S.fG nq (fun j=>tq (j+aq))=true): ∀ (k i:Nat) (R:List Int),i+k=np→R.length=np+nq+1→(∀ j,j<np+nq+1→0≤S.at' R j∧S.at' R j<1000000)→(∀ j,i+nq≤j→j<np+nq+1→S.at' R j=0)→
 ∃ R':List Int,R'.length=np+nq+1∧(∀ j,j<np+nq+1→0≤S.at' R' j∧S.at' R' j<1000000)∧(∀ j,j<i→S.at' R' j=S.at' R j)∧S.fD (S.at' R') (i) (np+nq+1-(i))=S.fD (S.at' R) (i) (np+nq+1-(i))+S.fD (fun j=>tp (j+ap)) i k*(S.val nq (fun j=>tq (j+aq)))∧Comes (q53 ap np mp tp aq nq mq tq) (.h0 (i:Int) R) (S.trim R'):=by
 have hp':=hp
 obtain ⟨⟨hp1,hp2⟩,⟨hp3,hp4⟩,g1,g2⟩:=hp
 intro k
 induction k with
 |zero=>
  intro i R hi hR hd hz
  refine ⟨R,hR,hd,fun j _=>rfl,by simp only [S.fD]; rw [Int.zero_mul,Int.add_zero],?_⟩
  rw [← uc]
  apply Comes.of
  show zX _ _ _
  (first|rw [q53]|unfold q53)
  repeat' (first|with_reducible refine zN (fun h=> ?_) (fun h=> ?_)<;>(try simp only [SH] at h)|exact zI.mpr (by omega))
  all_goals first|(exfalso; omega)|exact zG.mpr rfl
 | succ k ih=>
  intro i R hi hR hd hz
  obtain ⟨R1,a1,a2,a3,a4,a5,a6⟩:=s53i ap np mp tp aq nq mq tq hp' i (by omega) nq 0 0 R (by omega) hR hd hz (by omega)
  obtain ⟨R',b1,b2,b3,b4,b5⟩:=ih (i+1) R1 (by omega) a1 a2 (fun j h1 h2=>a3 j (by omega) h2)
  have vq:S.fD (fun j=>tq (j+aq)) 0 nq=(S.val nq (fun j=>tq (j+aq))):=rfl
  rw [vq,Nat.add_zero,Int.add_zero] at a5
  refine ⟨R',b1,b2,fun j hj=>by rw [b3 j (by omega),a4 j (by omega)],?_,?_⟩
  · have e1:=b3 i (by omega)
    rw [show np+nq+1-i=(np+nq+1-(i+1))+1 by omega] at a5 ⊢
    simp only [S.fD] at a5 ⊢
    rw [e1,b4,Int.add_mul,Int.mul_assoc]
    (try dsimp only)
    generalize tp (i+ap)*(S.val nq (fun j=>tq (j+aq)))=w1 at*
    generalize S.fD (fun j=>tp (j+ap)) (i+1) k*(S.val nq (fun j=>tq (j+aq)))=w2 at*
    generalize S.fD _ _ _=w3 at*
    generalize S.fD _ _ _=w4 at*
    omega
  · have a6:=a6 _ b5
    apply Comes.of
    show zX _ _ _
    (first|rw [q53]|unfold q53)
    repeat' (first|with_reducible refine zN (fun h=> ?_) (fun h=> ?_)<;>(try simp only [SH] at h)|exact zI.mpr (by omega))
    all_goals first|(exfalso; omega)|exact a6
theorem s53 (ap np mp:Nat) (tp:Nat→Int) (aq nq mq:Nat) (tq:Nat→Int) (hp:(ap+np≤mp∧aq+nq≤mq)∧(np≤1000∧nq≤1000)∧S.fG np (fun j=>tp (j+ap))=true∧S.fG nq (fun j=>tq (j+aq))=true):zX ((q53 ap np mp tp aq nq mq tq)) ((p53 ap np mp tp aq nq mq tq)) (S.fX ((S.val np (fun j=>tp (j+ap)))*(S.val nq (fun j=>tq (j+aq))))):=by
 have hp':=hp
 obtain ⟨⟨hp1,hp2⟩,⟨hp3,hp4⟩,g1,g2⟩:=hp
 have z: ∀ j,j<np+nq+1→S.at' (S.fJ (np+nq+1) fun _=>(0:Int)) j=0:=fun j hj=>y7 hj
 obtain ⟨R',r1,r2,r3,r4,r5⟩:=s53' ap np mp tp aq nq mq tq hp' np 0 (S.fJ (np+nq+1) fun _=>0) (by omega) zW (fun j hj=>by rw [z j hj]; omega) (fun j _ hj=>z j hj)
 have z2:S.fD (S.at' (S.fJ (np+nq+1) fun _=>(0:Int))) 0 (np+nq+1-0)=0:=by rw [yA (u:=fun _=>0) fun j _ hj=>z j (by omega)]; exact vk
 have vp:S.fD (fun j=>tp (j+ap)) 0 np=(S.val np (fun j=>tp (j+ap))):=rfl
 rw [z2,vp,Int.zero_add,Nat.sub_zero] at r4
 have e:S.trim R'=S.fX ((S.val np (fun j=>tp (j+ap)))*(S.val nq (fun j=>tq (j+aq)))):=by
  rw [xL fun x hx=>by obtain ⟨j,hj,rfl⟩:=List.getElem_of_mem hx; have:=r2 j (by omega); rw [tT hj] at this; exact this]
  rw [← vE,r1]
  exact congrArg S.fX r4
 rw [e] at r5
 have en:((np:Int)+nq+1).toNat=np+nq+1:=by omega
 show zX _ _ _
 unfold p53
 repeat' (first|with_reducible refine zN (fun h=> ?_) (fun h=> ?_)<;>(try simp only [SH,en] at h)|exact zI.mpr (by omega))
 all_goals first|(exfalso; omega)|(rw [en]; exact r5)
theorem k53_ok:k53.ok Tryz.prog:=by
 intro x hx
 obtain ⟨⟨ap,np,mp,tp,_⟩,⟨aq,nq,mq,tq,_⟩,_⟩:=x
 obtain ⟨h1,h2⟩:=a53 ap np mp tp aq nq mq tq (s53 ap np mp tp aq nq mq tq (zo hx rfl))
 exact ⟨⟨400,(by decide:2+1+1≤400),h1⟩,h2⟩
noncomputable def xM (g9:Bool→Prop→Prop→Prop):Ext:=xK g9 [k69,k65,k69v,k65v,k60,k61,k44,k73,k55,k45,k58,k56,k59,k46,k18,k19,k48,k50,k52,k53]
theorem gv:yZ Tryz.prog (xM cond):=yN ⟨k69_ok,k65_ok,k69v_ok,k65v_ok,k60_ok,k61_ok,k44_ok,k73_ok,k55_ok,k45_ok,k58_ok,k56_ok,k59_ok,k46_ok,k18_ok,k19_ok,k48_ok,k50_ok,k52_ok,k53_ok,trivial⟩
namespace S
def fT (n1:Bool) (n:Nat) (t:Nat→Int) (n2:Bool) (m:Nat) (u:Nat→Int):Bool:=decide (n1=n2∧fJ n t=fJ m u)
end S
section
variable {n1 n2:Bool} {n m:Nat} {t u:Nat→Int}
end
namespace S
noncomputable def fL (n1:Bool) (n:Nat) (t:Nat→Int) (n2:Bool) (m:Nat) (u:Nat→Int):Bool×Int×List Int:=if fE n1 n t=true∧fE n2 m u=true then fa (sv n1 (val n t)*sv n2 (val m u)) else (false,1,[])
end S
theorem i7 {n1 n2:Bool} {v w:Int}:S.sv n1 v*S.sv n2 w=S.sv (n1 != n2) (v*w):=by
 cases n1<;>cases n2<;>simp [S.sv,Int.neg_mul,Int.mul_neg]
theorem lX {v:Int}:((((S.fX v).length:Nat):Int)==0)=decide (v≤0):=by
 rw [Bool.eq_iff_iff,beq_iff_eq,decide_eq_true_eq]
 have:=yy (v:=v)
 omega
section
variable (g9:TT) (fA:KS) (fC:KR) (n1:Bool) (ap np mp:Nat) (tp:NI) (n2:Bool) (aq nq mq:Nat) (tq:NI)
abbrev St26:=Empty
abbrev Rt26:=Bool×Int×List Int
noncomputable def V26 (r:Rt26):PV:= .tup [.agg [.bool r.1,.own 3 1 r.2.2.length],.int .i64 r.2.1]
noncomputable def N26 (r:Rt26):List Blk:= [CI r.2.2]
noncomputable def I26:St26→Hd:=fun s=>s.elim
noncomputable def q26 (n1:Bool) (ap np mp:Nat) (tp:NI) (n2:Bool) (aq nq mq:Nat) (tq:NI):St26→Option (St26⊕Rt26):=fun s=>s.elim
noncomputable def p26 (n1:Bool) (ap np mp:Nat) (tp:NI) (n2:Bool) (aq nq mq:Nat) (tq:NI):Option (St26⊕Rt26):=bif (decide (ap+np≤mp∧np≤1000000)) then (bif (S.fE n1 np fun j=>tp (j+ap)) then (bif (decide (aq+nq≤mq∧nq≤1000000)) then (bif (S.fE n2 nq fun j=>tq (j+aq)) then (bif n1 then (bif n2 then (bif (decide ((ap+np≤mp∧aq+nq≤mq)∧(np≤1000∧nq≤1000)∧(S.fF np fun j=>tp (j+ap))=true∧(S.fF nq fun j=>tq (j+aq))=true)) then (bif ((↑((S.fX ((S.val np fun j=>tp (j+ap))*S.val nq fun j=>tq (j+aq))).length):Int)==0) then (some (.inr (false,(0:Int),[]))) else (bif (decide ((↑((S.fX ((S.val np fun j=>tp (j+ap))*S.val nq fun j=>tq (j+aq))).length):Int)>80)) then (some (.inr (false,(3:Int),[]))) else (some (.inr (false,(0:Int),S.fX ((S.val np fun j=>tp (j+ap))*S.val nq fun j=>tq (j+aq))))))) else none) else (bif (decide ((ap+np≤mp∧aq+nq≤mq)∧(np≤1000∧nq≤1000)∧(S.fF np fun j=>tp (j+ap))=true∧(S.fF nq fun j=>tq (j+aq))=true)) then (bif ((↑((S.fX ((S.val np fun j=>tp (j+ap))*S.val nq fun j=>tq (j+aq))).length):Int)==0) then (some (.inr (false,(0:Int),[]))) else (bif (decide ((↑((S.fX ((S.val np fun j=>tp (j+ap))*S.val nq fun j=>tq (j+aq))).length):Int)>80)) then (some (.inr (false,(3:Int),[]))) else (some (.inr (true,(0:Int),S.fX ((S.val np fun j=>tp (j+ap))*S.val nq fun j=>tq (j+aq))))))) else none)) else (bif n2 then (bif (decide ((ap+np≤mp∧aq+nq≤mq)∧(np≤1000∧nq≤1000)∧(S.fF np fun j=>tp (j+ap))=true∧(S.fF nq fun j=>tq (j+aq))=true)) then (bif ((↑((S.fX ((S.val np fun j=>tp (j+ap))*S.val nq fun j=>tq (j+aq))).length):Int)==0) then (some (.inr (false,(0:Int),[]))) else (bif (decide ((↑((S.fX ((S.val np fun j=>tp (j+ap))*S.val nq fun j=>tq (j+aq))).length):Int)>80)) then (some (.inr (false,(3:Int),[]))) else (some (.inr (true,(0:Int),S.fX ((S.val np fun j=>tp (j+ap))*S.val nq fun j=>tq (j+aq))))))) else none) else (bif (decide ((ap+np≤mp∧aq+nq≤mq)∧(np≤1000∧nq≤1000)∧(S.fF np fun j=>tp (j+ap))=true∧(S.fF nq fun j=>tq (j+aq))=true)) then (bif ((↑((S.fX ((S.val np fun j=>tp (j+ap))*S.val nq fun j=>tq (j+aq))).length):Int)==0) then (some (.inr (false,(0:Int),[]))) else (bif (decide ((↑((S.fX ((S.val np fun j=>tp (j+ap))*S.val nq fun j=>tq (j+aq))).length):Int)>80)) then (some (.inr (false,(3:Int),[]))) else (some (.inr (false,(0:Int),S.fX ((S.val np fun j=>tp (j+ap))*S.val nq fun j=>tq (j+aq))))))) else none))) else (some (.inr (false,(1:Int),[])))) else none) else (some (.inr (false,(1:Int),[])))) else none
noncomputable abbrev u26_e_0:=([[(1,false,Blk.cols mq [Col.int IntKind.i64 tq]),(0,false,Blk.cols mp [Col.int IntKind.i64 tp])]])
noncomputable abbrev u26_e_1:=(S.fX ((S.val np fun j=>tp (j+ap))*S.val nq fun j=>tq (j+aq))).length
noncomputable abbrev u26_e_2:=([[(1,false,Blk.cols mq [Col.int IntKind.i64 tq]),(0,false,Blk.cols mp [Col.int IntKind.i64 tp]),(8,true,Blk.cols (u26_e_1 ap np tp aq nq tq) [Col.int IntKind.i64 fun j=>S.at' (S.fX ((S.val np fun j=>tp (j+ap))*S.val nq fun j=>tq (j+aq))) j])]])
noncomputable abbrev u26_e_3:=(PV.tup [PV.agg [PV.tf false,PV.nils],PV.int IntKind.i64 (3:Int)])
noncomputable abbrev u26_e_4:=decide ((ap+np≤mp∧aq+nq≤mq)∧(np≤1000∧nq≤1000)∧(S.fF np fun j=>tp (j+ap))=true∧(S.fF nq fun j=>tq (j+aq))=true)
noncomputable abbrev u26_e_5:=(PV.tup [PV.agg [PV.tf false,PV.nils],PV.int IntKind.i64 (0:Int)])
def Te26:Prop:=g9 (decide (ap+np≤mp∧np≤1000000)) (g9 (S.fE n1 np (FS tp ap)) (g9 (decide (aq+nq≤mq∧nq≤1000000)) (g9 (S.fE n2 nq (FS tq aq)) (g9 n1 (g9 n2 (g9 (u26_e_4 ap np mp tp aq nq mq tq) (g9 ((↑(u26_e_1 ap np tp aq nq tq):Int)==0) (g9 false (fC u26_e_3 (u26_e_0 mp tp mq tq) 12) (fC u26_e_5 (u26_e_0 mp tp mq tq) 12)) (g9 (decide ((↑(u26_e_1 ap np tp aq nq tq):Int)>80)) (fC u26_e_3 (u26_e_0 mp tp mq tq) 12) (fC (.tup [.agg [.tf false,.own 8 1 (u26_e_1 ap np tp aq nq tq)],.int .i64 0]) (u26_e_2 ap np mp tp aq nq mq tq) 12))) False) (g9 (u26_e_4 ap np mp tp aq nq mq tq) (g9 ((↑(u26_e_1 ap np tp aq nq tq):Int)==0) (g9 false (fC u26_e_3 (u26_e_0 mp tp mq tq) 12) (fC u26_e_5 (u26_e_0 mp tp mq tq) 12)) (g9 (decide ((↑(u26_e_1 ap np tp aq nq tq):Int)>80)) (fC u26_e_3 (u26_e_0 mp tp mq tq) 12) (fC (.tup [.agg [.tf true,.own 8 1 (u26_e_1 ap np tp aq nq tq)],.int .i64 0]) (u26_e_2 ap np mp tp aq nq mq tq) 12))) False)) (g9 n2 (g9 (u26_e_4 ap np mp tp aq nq mq tq) (g9 ((↑(u26_e_1 ap np tp aq nq tq):Int)==0) (g9 false (fC u26_e_3 (u26_e_0 mp tp mq tq) 12) (fC u26_e_5 (u26_e_0 mp tp mq tq) 12)) (g9 (decide ((↑(u26_e_1 ap np tp aq nq tq):Int)>80)) (fC u26_e_3 (u26_e_0 mp tp mq tq) 12) (fC (.tup [.agg [.tf true,.own 8 1 (u26_e_1 ap np tp aq nq tq)],.int .i64 0]) (u26_e_2 ap np mp tp aq nq mq tq) 12))) False) (g9 (u26_e_4 ap np mp tp aq nq mq tq) (g9 ((↑(u26_e_1 ap np tp aq nq tq):Int)==0) (g9 false (fC u26_e_3 (u26_e_0 mp tp mq tq) 12) (fC u26_e_5 (u26_e_0 mp tp mq tq) 12)) (g9 (decide ((↑(u26_e_1 ap np tp aq nq tq):Int)>80)) (fC u26_e_3 (u26_e_0 mp tp mq tq) 12) (fC (.tup [.agg [.tf false,.own 8 1 (u26_e_1 ap np tp aq nq tq)],.int .i64 0]) (u26_e_2 ap np mp tp aq nq mq tq) 12))) False))) (fC (.tup [.agg [.tf false,.nils],.int .i64 1]) (u26_e_0 mp tp mq tq) 7)) False) (fC (.tup [.agg [.tf false,.nils],.int .i64 1]) (u26_e_0 mp tp mq tq) 6)) False
theorem te26:run g9 Tryz.env true (xM g9) true 400 ⟨80,[.cd (zS Tryz.f80).body],yD 0 [.agg [.bool n1,.loose ⟨0,1,ap,0⟩ np],.agg [.bool n2,.loose ⟨1,1,aq,0⟩ nq]],[[],[(0,(false,CB mp tp)),(1,(false,CB mq tq))]],2⟩ (zq 2 [] fA fC)=
 Te26 g9 fC n1 ap np mp tp n2 aq nq mq tq:=by kernel_rfl
noncomputable abbrev J26:Rt26→zQ:=fun r=> [yJ (2+1) ((N26) r)++ [(0,(false,CB mp tp)),(1,(false,CB mq tq))]]
attribute [local irreducible] Int.subNatNat in
theorem a26 {r:Rt26} (h:zX ((q26 n1 ap np mp tp n2 aq nq mq tq)) ((p26 n1 ap np mp tp n2 aq nq mq tq)) r):zn Tryz.prog 80 [.agg [.bool n1,.loose ⟨0,1,ap,0⟩ np],.agg [.bool n2,.loose ⟨1,1,aq,0⟩ nq]] [[(0,(false,CB mp tp)),(1,(false,CB mq tq))]] 2 ((V26) r) ((J26 mp tp mq tq) r) 400∧HB Tryz.prog 80:=by
 refine zf Tryz.envOk Tryz.mixed gv ((I26)) ((V26)) (J26 mp tp mq tq) (fn:=zS Tryz.f80) (ts:= []) (n:=400) rfl (by decide) (by simp) (zV rfl) ?_ ?_ ?_ h
 · intro s; exact s.elim
 · intro fA fC x hS hR h
   refine Holds.eq (te26 cond fA fC n1 ap np mp tp n2 aq nq mq tq) ?_
   unfold Te26
   unfold p26 at h
   refine zA h (fun c0 h=>zA h (fun c1 h=>zA h (fun c2 h=>zA h (fun c3 h=>zA h (fun c4 h=>zA h (fun c5 h=>zA h (fun c6 h=>zA h (fun c7 h=>za rfl (zU hR _ h (fun n=>bif Nat.beq n 3 then 399 else n) rfl rfl rfl (zm ⟨(zg ⟨(zR rfl),(zT rfl),trivial⟩),(zH rfl),trivial⟩) rfl (zY (zD rfl) (zc rfl) (zB (zC rfl) rfl rfl (zB (zC rfl) rfl rfl zE))))) (fun c7 h=>zA h (fun c8 h=> ?_) (fun c8 h=> ?_))) (fun c6 h=> ?_)) (fun c5 h=>zA h (fun c6 h=>zA h (fun c7 h=>za rfl (zU hR _ h (fun n=>bif Nat.beq n 3 then 399 else n) rfl rfl rfl (zm ⟨(zg ⟨(zR rfl),(zT rfl),trivial⟩),(zH rfl),trivial⟩) rfl (zY (zD rfl) (zc rfl) (zB (zC rfl) rfl rfl (zB (zC rfl) rfl rfl zE))))) (fun c7 h=>zA h (fun c8 h=> ?_) (fun c8 h=> ?_))) (fun c6 h=> ?_))) (fun c4 h=>zA h (fun c5 h=>zA h (fun c6 h=>zA h (fun c7 h=>za rfl (zU hR _ h (fun n=>bif Nat.beq n 3 then 399 else n) rfl rfl rfl (zm ⟨(zg ⟨(zR rfl),(zT rfl),trivial⟩),(zH rfl),trivial⟩) rfl (zY (zD rfl) (zc rfl) (zB (zC rfl) rfl rfl (zB (zC rfl) rfl rfl zE))))) (fun c7 h=>zA h (fun c8 h=> ?_) (fun c8 h=> ?_))) (fun c6 h=> ?_)) (fun c5 h=>zA h (fun c6 h=>zA h (fun c7 h=>za rfl (zU hR _ h (fun n=>bif Nat.beq n 3 then 399 else n) rfl rfl rfl (zm ⟨(zg ⟨(zR rfl),(zT rfl),trivial⟩),(zH rfl),trivial⟩) rfl (zY (zD rfl) (zc rfl) (zB (zC rfl) rfl rfl (zB (zC rfl) rfl rfl zE))))) (fun c7 h=>zA h (fun c8 h=> ?_) (fun c8 h=> ?_))) (fun c6 h=> ?_)))) (fun c3 h=> ?_)) (fun c2 h=> ?_)) (fun c1 h=> ?_)) (fun c0 h=> ?_)
   all_goals first
     |exact zU hR _ h (fun n=>bif Nat.beq n 3 then 399 else n) rfl rfl rfl (zm ⟨(zg ⟨(zR rfl),(zT rfl),trivial⟩),(zH rfl),trivial⟩) rfl (zY (zD rfl) (zc rfl) (zB (zC rfl) rfl rfl (zB (zC rfl) rfl rfl zE)))
     |exact zF h
     |exact zU hR _ h (fun n=>bif Nat.beq n 3 then 8 else n) rfl rfl rfl (zm ⟨(zg ⟨(zR rfl),(zZ (zD rfl) rfl rfl),trivial⟩),(zH rfl),trivial⟩) rfl (zL (zD rfl) rfl (Nat.le_of_eq rfl) (zO (fun _ _=>rfl) zP) (zB (zC rfl) rfl rfl (zB (zC rfl) rfl rfl zE)))
 · intro fA fC x hS hR s h; exact s.elim
end
theorem s26 (n1:Bool) (ap np mp:Nat) (tp:Nat→Int) (n2:Bool) (aq nq mq:Nat) (tq:Nat→Int) (hp:(ap+np≤mp∧np≤1000000)∧aq+nq≤mq∧nq≤1000000):zX ((q26 n1 ap np mp tp n2 aq nq mq tq)) ((p26 n1 ap np mp tp n2 aq nq mq tq)) (((S.fL n1 np (fun j=>tp (j+ap)) n2 nq (fun j=>tq (j+aq))).1,(S.fL n1 np (fun j=>tp (j+ap)) n2 nq (fun j=>tq (j+aq))).2.1,(S.fL n1 np (fun j=>tp (j+ap)) n2 nq (fun j=>tq (j+aq))).2.2)):=by
 obtain ⟨⟨hp1,hp2⟩,hp3,hp4⟩:=hp
 unfold S.fL
 by_cases g1:S.fE n1 np (fun j=>tp (j+ap))=true
 · obtain ⟨l1,k1⟩:=yP g1
   by_cases g2:S.fE n2 nq (fun j=>tq (j+aq))=true
   · obtain ⟨l2,k2⟩:=yP g2
     have hq:(ap+np≤mp∧aq+nq≤mq)∧(np≤1000∧nq≤1000)∧S.fF np (fun j=>tp (j+ap))=true∧S.fF nq (fun j=>tq (j+aq))=true:=⟨⟨hp1,hp3⟩,⟨by omega,by omega⟩,k1,k2⟩
     have hqd:(ap+np≤mp∧aq+nq≤mq)∧(np≤1000∧nq≤1000)∧S.fG np (fun j=>tp (j+ap))=true∧S.fG nq (fun j=>tq (j+aq))=true:=⟨⟨hp1,hp3⟩,⟨by omega,by omega⟩,zj k1,zj k2⟩
     have v1:=yU (zj k1)
     have v2:=yU (zj k2)
     have vm:=qV (a:=1000) (b:=1000) ⟨v1,yF (zj k1) (by omega)⟩ ⟨v2,yF (zj k2) (by omega)⟩
     have hl:=z7 vm.2
     rw [if_pos ⟨g1,g2⟩,lJ,i7,qb vm.1]
     have hz:= @yy ((S.val np (fun j=>tp (j+ap)))*(S.val nq (fun j=>tq (j+aq))))
     have ho:0+(S.fX ((S.val np (fun j=>tp (j+ap)))*(S.val nq (fun j=>tq (j+aq))))).length≤(S.fX ((S.val np (fun j=>tp (j+ap)))*(S.val nq (fun j=>tq (j+aq))))).length∧(S.fX ((S.val np (fun j=>tp (j+ap)))*(S.val nq (fun j=>tq (j+aq))))).length≤1000000∧(S.fG (S.fX ((S.val np (fun j=>tp (j+ap)))*(S.val nq (fun j=>tq (j+aq))))).length fun j=>S.at' (S.fX ((S.val np (fun j=>tp (j+ap)))*(S.val nq (fun j=>tq (j+aq))))) j)=true:=⟨by omega,by omega,zj yH⟩
     have hvl:=z4 vm.1
     unfold p26
     cases n1<;>cases n2<;>
     (simp only [cond_true,cond_false,g1,g2,bne_self_eq_false,show (true != false)=true from rfl,show (false != true)=true from rfl,decide_eq_true (⟨hp1,hp2⟩:ap+np≤mp∧np≤1000000),decide_eq_true (⟨hp3,hp4⟩:aq+nq≤mq∧nq≤1000000),decide_eq_true hq,lX,Bool.false_and,Bool.true_and]
      generalize (S.val np (fun j=>tp (j+ap)))*(S.val nq (fun j=>tq (j+aq)))=v at*
      by_cases h8:(S.fX v).length>80
      · rw [if_pos h8]
        have hv0:0<v:=by
         refine Int.not_le.mp fun h=> ?_
         rw [yX h] at h8
         exact absurd h8 (by simp)
        rw [decide_eq_false (by omega: ¬ v≤0),cond_false]
        rw [decide_eq_true (by omega:(((S.fX v).length:Nat):Int)>80),cond_true]
        exact zG.mpr rfl
      · rw [if_neg h8]
        by_cases hv0:v≤0
        · (try rw [decide_eq_false (by omega: ¬ 0<v)])
          rw [decide_eq_true hv0,cond_true,yX hv0]
          exact zG.mpr rfl
        · (try rw [decide_eq_true (by omega:0<v)])
          rw [decide_eq_false hv0,cond_false,decide_eq_false (by omega: ¬ (((S.fX v).length:Nat):Int)>80),cond_false]
          exact zG.mpr rfl)
   · rw [if_neg (fun h=>g2 h.2)]
     have g2:=Bool.not_eq_true _ ▸ g2
     unfold p26
     cases n1<;>cases n2<;>simp only [cond_true,cond_false,g1,g2,decide_eq_true (⟨hp1,hp2⟩:ap+np≤mp∧np≤1000000),decide_eq_true (⟨hp3,hp4⟩:aq+nq≤mq∧nq≤1000000)]<;>exact zG.mpr rfl
 · rw [if_neg (fun h=>g1 h.1)]
   have g1:=Bool.not_eq_true _ ▸ g1
   unfold p26
   cases n1<;>simp only [cond_true,cond_false,g1,decide_eq_true (⟨hp1,hp2⟩:ap+np≤mp∧np≤1000000)]<;>exact zG.mpr rfl
theorem pH {v:Int} (hv:(v.natAbs:Int)<S.pw 80):S.fE (decide (v<0)) (S.fX (v.natAbs:Int)).length (fun j=>S.at' (S.fX (v.natAbs:Int)) j)=true∧S.sv (decide (v<0)) (S.val (S.fX (v.natAbs:Int)).length fun j=>S.at' (S.fX (v.natAbs:Int)) j)=v:=by
 have hl:=z7 hv
 constructor
 · rw [y5]
   refine ⟨hl,yH,?_⟩
   by_cases h:v<0
   · left; exact yT (by omega)
   · right; exact decide_eq_false h
 · rw [z4 (by omega)]
   unfold S.sv
   by_cases h:v<0
   · rw [decide_eq_true h,cond_true]; omega
   · rw [decide_eq_false h,cond_false]; omega
theorem yg {t:Nat→Int}: ∀ {a b i:Nat},S.fD t i (a+b)=S.fD t i a+S.pw a*S.fD t (i+a) b
  |0,b,i=>by
   simp only [S.fD,S.pw]
   rw [Nat.zero_add,Nat.add_zero]; omega
  |a+1,b,i=>by
   rw [show a+1+b=(a+b)+1 by omega]
   simp only [S.fD,S.pw]
   rw [yg,show i+(a+1)=i+1+a by omega,Int.mul_assoc]
   omega
theorem yS {t:Nat→Int} {i k:Nat}:S.fD t i (k+1)=S.fD t i k+S.pw k*t (i+k):=by
 rw [yg]
 simp only [S.fD]
 rw [Int.mul_zero,Int.add_zero]
theorem wI {t:Nat→Int} {a:Nat}: ∀ {k i:Nat},S.fD (fun j=>t (j+a)) i k=S.fD t (i+a) k
  |0,_=>rfl
  |k+1,i=>by
   simp only [S.fD]
   rw [wI,show i+1+a=i+a+1 by omega]
theorem wl {t:Nat→Int} {k i:Nat} (h: ∀ j,i≤j→j<i+k→t j=0):S.fD t i k=0:=by
 rw [yA (u:=fun _=>0) h]; exact vk
theorem wW {t:Nat→Int}: ∀ {k i:Nat},(∀ j,i≤j→j<i+k→0≤t j∧t j<1000000)→S.fD t i k≤0→ ∀ j,i≤j→j<i+k→t j=0
  |0,i,_,_,j,h1,h2=>by omega
  |k+1,i,h,h0,j,h1,h2=>by
   have hi:=h i (Nat.le_refl _) (by omega)
   have hn:=yI (t:=t) (k:=k) (i:=i+1) fun j h1 h2=>(h j (by omega) (by omega)).1
   simp only [S.fD] at h0
   by_cases hj:j=i
   · subst hj; omega
   · exact wW (k:=k) (i:=i+1) (fun j h1 h2=>h j (by omega) (by omega)) (by omega) j (by omega) (by omega)
theorem n9 {t:Nat→Int} {m k i:Nat} (h: ∀ j,i≤j→j<i+(m+k)→0≤t j∧t j<1000000) (hv:S.fD t i (m+k)<S.pw m): ∀ j,i+m≤j→j<i+(m+k)→t j=0:=by
 rw [yg] at hv
 have n1:=yI (t:=t) (k:=m) (i:=i) fun j h1 h2=>(h j h1 (by omega)).1
 have hp:=xJ (k:=m)
 have h0:S.fD t (i+m) k≤0:=by
  refine Int.not_lt.mp fun h1=> ?_
  have:S.pw m*1≤S.pw m*S.fD t (i+m) k:=Int.mul_le_mul_of_nonneg_left (by omega) (by omega)
  omega
 intro j h1 h2
 exact wW (k:=k) (i:=i+m) (fun j h1 h2=>h j (by omega) (by omega)) h0 j h1 (by omega)
theorem pE {U V q:Int} (hV:0<V) (h1:q*V≤U) (h2:U<(q+1)*V):U / V=q:=by
 have a:=(Int.le_ediv_iff_mul_le hV).mpr h1
 have c:=(Int.ediv_lt_iff_lt_mul hV).mpr h2
 omega
theorem ke {U V q:Int} (hV:0<V) (h1:q*V≤U) (h2:U<(q+1)*V):U % V=U-q*V:=by
 rw [Int.emod_def,pE hV h1 h2,Int.mul_comm]
theorem pV {U V P d v t:Int} (hP:0<P) (hV:v*P≤V) (hU:U<(t+1)*P) (hd:0≤d) (h:t<d*v):U<d*V:=by
 have h1:d*(v*P)≤d*V:=Int.mul_le_mul_of_nonneg_left hV hd
 have h2:(t+1)*P≤d*v*P:=Int.mul_le_mul_of_nonneg_right (by omega) (by omega)
 rw [Int.mul_assoc] at h2
 omega
theorem lG {U V P d v t:Int} (hP:0<P) (hV:V<(v+1)*P) (hV0:0≤V) (hU:t*P≤U) (hU0:0≤U) (h:d*v≤t) (hd:0≤d) (hdv:d≤v+1):(d-1)*V≤U:=by
 by_cases h0:d=0
 · subst h0
   rw [show (0:Int)-1= -1 from rfl,Int.neg_one_mul]; omega
 · have h1:(d-1)*V≤(d-1)*((v+1)*P):=Int.mul_le_mul_of_nonneg_left (by omega) (by omega)
   have h2:(d-1)*(v+1)≤t:=by
    rw [Int.sub_mul,Int.mul_add]
    omega
   have h3:(d-1)*(v+1)*P≤t*P:=Int.mul_le_mul_of_nonneg_right h2 (by omega)
   rw [Int.mul_assoc] at h3
   omega
theorem qz {X V x:Int} (hV:0<V) (hx:0≤x∧x<1000000) (hX:0≤X):(x+1000000*X) / V=(x+1000000*(X % V)) / V+1000000*(X / V)∧(x+1000000*X) % V=(x+1000000*(X % V)) % V∧0≤(x+1000000*(X % V)) / V∧(x+1000000*(X % V)) / V<1000000:=by
 have e:x+1000000*X=x+1000000*(X % V)+V*(1000000*(X / V)):=by
  have:=Int.emod_add_mul_ediv X V
  rw [Int.mul_left_comm]
  omega
 have r0:=Int.emod_nonneg X (show V≠0 by omega)
 have r1:=Int.emod_lt_of_pos X hV
 refine ⟨?_,?_,Int.ediv_nonneg (by omega) (by omega),(Int.ediv_lt_iff_lt_mul hV).mpr (by omega)⟩
 · rw [e,Int.add_mul_ediv_left _ _ (by omega)]
 · rw [e,Int.add_mul_emod_self_left]
theorem mK {x:Int} (h:Int.tmod x 1000000<0):Int.tmod x 1000000+1000000=x % 1000000∧Int.tdiv x 1000000-1=x / 1000000:=by
 have h1:=Int.tmod_def x 1000000
 by_cases hx:0≤x
 · rw [Int.tmod_eq_emod_of_nonneg hx] at h; omega
 · have e:Int.tdiv x 1000000= -((-x) / 1000000):=by
    rw [← Int.tdiv_eq_ediv_of_nonneg (by omega:0≤ -x),Int.neg_tdiv,Int.neg_neg]
   omega
theorem lO {x:Int} (h: ¬ Int.tmod x 1000000<0):Int.tmod x 1000000=x % 1000000∧Int.tdiv x 1000000=x / 1000000:=by
 have h1:=Int.tmod_def x 1000000
 by_cases hx:0≤x
 · rw [Int.tmod_eq_emod_of_nonneg hx,Int.tdiv_eq_ediv_of_nonneg hx]; exact ⟨rfl,rfl⟩
 · have e:Int.tdiv x 1000000= -((-x) / 1000000):=by
    rw [← Int.tdiv_eq_ediv_of_nonneg (by omega:0≤ -x),Int.neg_tdiv,Int.neg_neg]
   omega
theorem uj {R:List Int} {n:Nat} (hR:R.length=n) (hd: ∀ j,j<n→0≤S.at' R j∧S.at' R j<1000000):S.trim R=S.fX (S.fD (S.at' R) 0 n):=by
 subst hR
 rw [xL fun x hx=>by obtain ⟨j,hj,rfl⟩:=List.getElem_of_mem hx; have:=hd j hj; rw [tT hj] at this; exact this]
 rw [← vE]
 rfl
section
variable (g9:TT) (fA:KS) (fC:KR) (ap np mp:Nat) (tp:NI) (v:Int)
inductive St71 where
 |h0 (x0:Int) (x1:Int) (x2:List Int)
abbrev Rt71:=Int×List Int
noncomputable def V71 (r:Rt71):PV:= .tup [.own 2 1 r.2.length,.int .i64 r.1]
noncomputable def N71 (r:Rt71):List Blk:= [CI r.2]
noncomputable def I71:St71→Hd
  | .h0 x0 x1 x2=>⟨hd Tryz.f139 0,[.loose ⟨0,1,ap,0⟩ np,.int .i64 v,
 .own 1 1 x2.length,.int .i64 x0,.int .i64 x1],[[(1,(true,CI x2))],[(0,(false,CB mp tp))]],2⟩
noncomputable def q71 (ap np mp:Nat) (tp:NI) (v:Int):St71→Option (St71⊕Rt71)| .h0 x0 x1 x2=>bif (decide (x1≥0)) then (bif (lim .i64 (x0*1000000)) then (bif (decide ((0:Int)≤x1∧x1<(np:Int))) then (bif (decide (x1.toNat+ap<mp)) then (bif (lim .i64 (x0*1000000+tp (x1.toNat+ap))) then (bif (decide (v=0)) then none else (bif (lim .i64 (Int.tdiv (x0*1000000+tp (x1.toNat+ap)) v)) then (bif (decide ((0:Int)≤x1∧x1<(↑(x2.length):Int))) then (bif (decide (x1.toNat<x2.length)) then (bif (lim .i64 (x1-1)) then (some (.inl (.h0 (Int.tmod (x0*1000000+tp (x1.toNat+ap)) v) (x1-1) (S.fJ x2.length fun j=>bif Nat.beq j x1.toNat then Int.tdiv (x0*1000000+tp (x1.toNat+ap)) v else S.at' x2 j)))) else none) else none) else none) else none)) else none) else none) else none) else none) else (bif (decide (x2.length≤x2.length)) then (bif (decide (x2.length≤1000000)) then (some (.inr (x0,S.trim (S.fJ x2.length fun j=>S.at' x2 j)))) else none) else none)
noncomputable def p71 (ap np mp:Nat) (tp:NI) (v:Int):Option (St71⊕Rt71):=bif (decide ((0:Int)≤(np:Int)∧(np:Int)≤(np:Int)∧(np:Int)≤1000000)) then (bif (lim .i64 ((np:Int)-1)) then (some (.inl (.h0 ((0:Int)) ((np:Int)-1) (S.fJ np fun j=>0)))) else none) else none
def Te71:Prop:=g9 (decide ((0:Int)≤(np:Int)∧(np:Int)≤(np:Int)∧(np:Int)≤1000000)) (g9 (lim .i64 ((np:Int)-1)) (fA (hd Tryz.f139 0) ([.loose ⟨0,1,ap,0⟩ np,.int .i64 v,.own 1 1 np,.int .i64 0,.int .i64 ((np:Int)-1)]) ([[(0,false,CB mp tp),(1,true,.cols np [.int .i64 fun (x:Nat)=>0])]]) 2) False) False
theorem te71:run g9 Tryz.env true (xB0 g9) true 400 ⟨139,[.cd (zS Tryz.f139).body],yD 0 [.loose ⟨0,1,ap,0⟩ np,.int .i64 v],[[],[(0,(false,CB mp tp))]],1⟩ (zq 1 [0,1,6,7,8] fA fC)=
 Te71 g9 fA ap np mp tp v:=by kernel_rfl
def T71_0 (x0 x1:Int) (x2:List Int):Prop:=g9 (decide (x1≥0)) (g9 (lim .i64 (x0*1000000)) (g9 (decide ((0:Int)≤x1∧x1<(np:Int))) (g9 (decide (x1.toNat+ap<mp)) (g9 (lim .i64 (x0*1000000+tp (x1.toNat+ap))) (g9 (decide (v=0)) False (g9 (lim .i64 (Int.tdiv (x0*1000000+tp (x1.toNat+ap)) v)) (g9 (decide ((0:Int)≤x1∧x1<(↑(x2.length):Int))) (g9 (decide (x1.toNat<x2.length)) (g9 (decide (v=0)) False (g9 (lim .i64 (x1-1)) (fA (hd Tryz.f139 0) ([.loose ⟨0,1,ap,0⟩ np,.int .i64 v,.own 1 1 x2.length,.int .i64 (Int.tmod (x0*1000000+tp (x1.toNat+ap)) v),.int .i64 (x1-1)]) ([[(0,false,CB mp tp),(1,true,.cols x2.length [.int .i64 fun j=>bif Nat.beq j x1.toNat then Int.tdiv (x0*1000000+tp (x1.toNat+ap)) v else S.at' x2 j])]]) 2) False)) False) False) False)) False) False) False) False) (g9 (decide (x2.length≤x2.length)) (g9 (decide (x2.length≤1000000)) (fC (.tup [.own 1 1 (S.trim (S.fJ x2.length fun j=>S.at' x2 j)).length,.int .i64 x0]) ([[(0,false,CB mp tp),(1,true,CI (S.trim (S.fJ x2.length fun j=>S.at' x2 j)))]]) 3) False) False)
theorem t71_0 (x0 x1:Int) (x2:List Int):run g9 Tryz.env true (xB0 g9) true 400 ⟨139,hd Tryz.f139 0,yc [0,1,6,7,8] [.loose ⟨0,1,ap,0⟩ np,.int .i64 v,
 .own 1 1 x2.length,.int .i64 x0,.int .i64 x1],[[(1,(true,CI x2))],[(0,(false,CB mp tp))]],2⟩ (zq 1 [0,1,6,7,8] fA fC)=
  T71_0 g9 fA fC ap np mp tp v x0 x1 x2:=by kernel_rfl
noncomputable abbrev J71:Rt71→zQ:=fun r=> [yJ (1+1) ((N71) r)++ [(0,(false,CB mp tp))]]
attribute [local irreducible] Int.subNatNat in
theorem a71 {r:Rt71} (h:zX ((q71 ap np mp tp v)) ((p71 ap np mp tp v)) r):zn Tryz.prog 139 [.loose ⟨0,1,ap,0⟩ np,.int .i64 v] [[(0,(false,CB mp tp))]] 1 ((V71) r) ((J71 mp tp) r) 400∧HB Tryz.prog 139:=by
 refine zf Tryz.envOk Tryz.mixed uH ((I71 ap np mp tp v)) ((V71)) (J71 mp tp) (fn:=zS Tryz.f139) (ts:= [0,1,6,7,8]) (n:=400) rfl (by decide) (by simp) (zV rfl) ?_ ?_ ?_ h
 · intro s; cases s<;>exact ⟨ym _ _,by simp [I71],zV rfl,Nat.le_of_ble_eq_true rfl⟩
 · intro fA fC x hS hR h
   refine Holds.eq (te71 cond fA fC ap np mp tp v) ?_
   unfold Te71
   unfold p71 at h
   exact zA h (fun c0 h=>zA h (fun c1 h=>zb hS _ h (fun n=>bif Nat.beq n 1 then 1 else n) rfl rfl rfl ⟨(zM (zC rfl) rfl rfl rfl),⟨(zH rfl),⟨(zZ (zD rfl) rfl zW),⟨(zH rfl),⟨(zH rfl),trivial⟩⟩⟩⟩⟩ rfl (zL (zD rfl) rfl (Nat.le_of_eq zW) (zO (fun _ hj=>z3 (fun (t:Int)=>t) hj) zP) (zB (zC rfl) rfl rfl zE))) (fun c1 h=>zF h)) (fun c0 h=>zF h)
 · intro fA fC x hS hR s h
   cases s with
   |h0 x0 x1 x2=>
    refine Holds.eq (t71_0 cond fA fC ap np mp tp v x0 x1 x2) ?_
    unfold T71_0
    rw [q71] at h
    exact zA h (fun c0 h=>zA h (fun c1 h=>zA h (fun c2 h=>zA h (fun c3 h=>zA h (fun c4 h=>zA h (fun c5 h=>zF h) (fun c5 h=>zA h (fun c6 h=>zA h (fun c7 h=>zA h (fun c8 h=>za c5 (zA h (fun c9 h=>zb hS _ h (fun n=>bif Nat.beq n 1 then 1 else n) rfl rfl rfl ⟨(zM (zC rfl) rfl rfl rfl),⟨(zH rfl),⟨(zZ (zD rfl) rfl zW),⟨(zH rfl),⟨(zH rfl),trivial⟩⟩⟩⟩⟩ rfl (zL (zD rfl) rfl (Nat.le_of_eq zW) (zO (fun _ hj=>z3 (fun (t:Int)=>t) hj) zP) (zB (zC rfl) rfl rfl zE))) (fun c9 h=>zF h))) (fun c8 h=>zF h)) (fun c7 h=>zF h)) (fun c6 h=>zF h))) (fun c4 h=>zF h)) (fun c3 h=>zF h)) (fun c2 h=>zF h)) (fun c1 h=>zF h)) (fun c0 h=>zA h (fun c1 h=>zA h (fun c2 h=>zU hR _ h (fun n=>bif Nat.beq n 2 then 1 else n) rfl rfl rfl (zm ⟨(zZ (zD rfl) rfl rfl),(zH rfl),trivial⟩) rfl (zL (zD rfl) rfl (Nat.le_of_eq rfl) (zO (fun _ _=>rfl) zP) (zB (zC rfl) rfl rfl zE))) (fun c2 h=>zF h)) (fun c1 h=>zF h))
end
noncomputable abbrev w71 {α:Type} (g:Nat→Nat→Nat→(Nat→Int)→Int→α) (x:(Nat×Nat×Nat×(Nat→Int)×Unit)×Int×Unit):α:=g x.1.1 x.1.2.1 x.1.2.2.1 x.1.2.2.2.1 x.2.1
noncomputable def k71:Con:=⟨139,[.one (.list [.int .i64]),.one (.plain (.int .i64))],w71 (fun ap np mp tp v=>decide (ap+np≤mp∧np≤1000∧S.fG np (FS tp ap)=true∧0<v∧v≤1000000)),w71 (fun ap np mp tp v=>(V71) ((S.val np (FS tp ap)) % v,S.fX ((S.val np (FS tp ap)) / v))),w71 (fun ap np mp tp v=>(N71) ((S.val np (FS tp ap)) % v,S.fX ((S.val np (FS tp ap)) / v))),fun _ _=> .dead⟩
theorem s71' (ap np mp:Nat) (tp:Nat→Int) (v:Int) (hp:ap+np≤mp∧np≤1000∧S.fG np (fun j=>tp (j+ap))=true∧0<v∧v≤1000000): ∀ (i:Nat) (r:Int) (Q:List Int),i≤np→Q.length=np→(∀ j,j<np→0≤S.at' Q j∧S.at' Q j<1000000)→r=S.fD (fun j=>tp (j+ap)) i (np-i) % v→S.fD (S.at' Q) i (np-i)=S.fD (fun j=>tp (j+ap)) i (np-i) / v→Comes (q71 ap np mp tp v) (.h0 r ((i:Int)-1) Q) ((S.val np (fun j=>tp (j+ap))) % v,S.fX ((S.val np (fun j=>tp (j+ap))) / v)):=by
 obtain ⟨hp1,hp2,hp3,hp4,hp5⟩:=hp
 have d1:=yO.mp hp3
 intro i
 induction i with
 |zero=>
  intro r Q hi hQ hd hr hv
  have e:S.trim Q=S.fX ((S.val np (fun j=>tp (j+ap))) / v):=by rw [uj hQ hd]; exact congrArg S.fX hv
  rw [Nat.sub_zero] at hr
  have hr:r=(S.val np (fun j=>tp (j+ap))) % v:=hr
  rw [← e,← hr,← uc]
  apply Comes.of
  show zX _ _ _
  (first|rw [q71]|unfold q71)
  repeat' (first|with_reducible refine zN (fun h=> ?_) (fun h=> ?_)<;>(try simp only [SH] at h)|exact zI.mpr (by omega))
  all_goals first|(exfalso; omega)|exact zG.mpr rfl
 | succ i ih=>
  intro r Q hi hQ hd hr hv
  have hx:=d1 i (by omega)
  have st:=qz (V:=v) (X:=S.fD (fun j=>tp (j+ap)) (i+1) (np-(i+1))) (x:=tp (i+ap)) (by omega) hx (qo d1)
  have s1:=uI (t:=(fun j=>tp (j+ap))) (n:=np) (i:=i) (by omega)
  (try dsimp only at s1)
  rw [← s1,← hr] at st
  have r0:0≤r:=by rw [hr]; exact Int.emod_nonneg _ (by omega)
  have r1:r<v:=by rw [hr]; exact Int.emod_lt_of_pos _ (by omega)
  (try dsimp only at hx)
  have n0:0≤r*1000000+tp (i+ap):=by omega
  rw [show tp (i+ap)+1000000*r=r*1000000+tp (i+ap) by omega,← Int.tdiv_eq_ediv_of_nonneg n0,← Int.tmod_eq_emod_of_nonneg n0] at st
  obtain ⟨st1,st2,st3,st4⟩:=st
  generalize hD:Int.tdiv (r*1000000+tp (i+ap)) v=dg at*
  generalize hC:Int.tmod (r*1000000+tp (i+ap)) v=rs at*
  have ih:=ih rs (S.fJ np fun j=>bif Nat.beq j i then dg else S.at' Q j) (by omega) zW (wn hQ hd ⟨st3,st4⟩) st2.symm (by
   rw [st1,show np-i=(np-(i+1))+1 by omega]
   simp only [S.fD]
   rw [zw (by omega),if_pos rfl,← hv,yA (u:=S.at' Q) fun j h1 h2=>by rw [zw (by omega),if_neg (by omega)]])
  have e1:(((i+1:Nat):Int)-1)=i:=by omega
  rw [e1]
  clear hv hr st1 st2 s1
  apply Comes.of
  show zX _ _ _
  rw [q71]
  simp only [Int.toNat_natCast,hD,hC,hQ]
  repeat' (first|with_reducible refine zN (fun h=> ?_) (fun h=> ?_)<;>(try simp only [SH] at h)|exact zI.mpr (by omega))
  all_goals first|(exfalso; omega)|exact ih
theorem s71 (ap np mp:Nat) (tp:Nat→Int) (v:Int) (hp:ap+np≤mp∧np≤1000∧S.fG np (fun j=>tp (j+ap))=true∧0<v∧v≤1000000):zX ((q71 ap np mp tp v)) ((p71 ap np mp tp v)) (((S.val np (fun j=>tp (j+ap))) % v,S.fX ((S.val np (fun j=>tp (j+ap))) / v))):=by
 have hm:=s71' ap np mp tp v hp np 0 (S.fJ np fun _=>0) (Nat.le_refl _) zW (fun j hj=>by rw [y7 hj]; omega) (by rw [Nat.sub_self]; exact (Int.zero_emod v).symm) (by rw [Nat.sub_self]; exact (Int.zero_ediv v).symm)
 obtain ⟨hp1,hp2,hp3,hp4,hp5⟩:=hp
 show zX _ _ _
 unfold p71
 repeat' (first|with_reducible refine zN (fun h=> ?_) (fun h=> ?_)<;>(try simp only [SH] at h)|exact zI.mpr (by omega))
 all_goals first|(exfalso; omega)|exact hm
theorem k71_ok:k71.ok Tryz.prog:=by
 intro x hx
 obtain ⟨⟨ap,np,mp,tp,_⟩,v,_⟩:=x
 obtain ⟨h1,h2⟩:=a71 ap np mp tp v (s71 ap np mp tp v (zo hx rfl))
 exact ⟨⟨400,(by decide:1+1+1≤400),h1⟩,h2⟩
section
variable (g9:TT) (fA:KS) (fC:KR) (ap np mp:Nat) (tp:NI)
abbrev St74:=Empty
abbrev Rt74:=Int
noncomputable def V74 (r:Rt74):PV:= .int .i64 r
noncomputable def N74 (r:Rt74):List Blk:= []
noncomputable def I74:St74→Hd:=fun s=>s.elim
noncomputable def q74 (ap np mp:Nat) (tp:NI):St74→Option (St74⊕Rt74):=fun s=>s.elim
noncomputable def p74 (ap np mp:Nat) (tp:NI):Option (St74⊕Rt74):=bif (decide ((2:Int)<(np:Int))) then (bif (decide ((0:Int)≤2∧(2:Int)<(np:Int))) then (bif (decide (2+ap<mp)) then (bif (lim .i64 (tp (2+ap)*1000000)) then (bif (decide ((1:Int)<(np:Int))) then (bif (decide ((0:Int)≤1∧(1:Int)<(np:Int))) then (bif (decide (1+ap<mp)) then (bif (lim .i64 (tp (2+ap)*1000000+tp (1+ap))) then (bif (lim .i64 ((tp (2+ap)*1000000+tp (1+ap))*1000000)) then (bif (decide ((0:Int)<(np:Int))) then (bif (decide ((0:Int)≤0∧(0:Int)<(np:Int))) then (bif (decide (0+ap<mp)) then (bif (lim .i64 ((tp (2+ap)*1000000+tp (1+ap))*1000000+tp (0+ap))) then (some (.inr ((tp (2+ap)*1000000+tp (1+ap))*1000000+tp (0+ap)))) else none) else none) else none) else (bif (lim .i64 ((tp (2+ap)*1000000+tp (1+ap))*1000000+0)) then (some (.inr ((tp (2+ap)*1000000+tp (1+ap))*1000000+0))) else none)) else none) else none) else none) else none) else (bif (lim .i64 (tp (2+ap)*1000000+0)) then (bif (lim .i64 ((tp (2+ap)*1000000+0)*1000000)) then (bif (decide ((0:Int)<(np:Int))) then (bif (decide ((0:Int)≤0∧(0:Int)<(np:Int))) then (bif (decide (0+ap<mp)) then (bif (lim .i64 ((tp (2+ap)*1000000+0)*1000000+tp (0+ap))) then (some (.inr ((tp (2+ap)*1000000+0)*1000000+tp (0+ap)))) else none) else none) else none) else (bif (lim .i64 ((tp (2+ap)*1000000+0)*1000000+0)) then (some (.inr ((tp (2+ap)*1000000+0)*1000000+0))) else none)) else none) else none)) else none) else none) else none) else (bif (decide ((1:Int)<(np:Int))) then (bif (decide ((0:Int)≤1∧(1:Int)<(np:Int))) then (bif (decide (1+ap<mp)) then (bif (lim .i64 ((0:Int)+tp (1+ap))) then (bif (lim .i64 (((0:Int)+tp (1+ap))*1000000)) then (bif (decide ((0:Int)<(np:Int))) then (bif (decide ((0:Int)≤0∧(0:Int)<(np:Int))) then (bif (decide (0+ap<mp)) then (bif (lim .i64 (((0:Int)+tp (1+ap))*1000000+tp (0+ap))) then (some (.inr (((0:Int)+tp (1+ap))*1000000+tp (0+ap)))) else none) else none) else none) else (bif (lim .i64 (((0:Int)+tp (1+ap))*1000000+0)) then (some (.inr (((0:Int)+tp (1+ap))*1000000+0))) else none)) else none) else none) else none) else none) else (bif (decide ((0:Int)<(np:Int))) then (bif (decide ((0:Int)≤0∧(0:Int)<(np:Int))) then (bif (decide (0+ap<mp)) then (bif (lim .i64 ((0:Int)+tp (0+ap))) then (some (.inr ((0:Int)+tp (0+ap)))) else none) else none) else none) else (some (.inr ((0:Int))))))
noncomputable abbrev u74_e_0:= [[(0,false,Blk.cols mp [Col.int IntKind.i64 tp])]]
def Te74:Prop:=g9 (decide ((2:Int)<(np:Int))) (g9 (decide ((0:Int)≤2∧(2:Int)<(np:Int))) (g9 (decide (2+ap<mp)) (g9 (lim .i64 (tp (2+ap)*1000000)) (g9 (decide ((1:Int)<(np:Int))) (g9 (decide ((0:Int)≤1∧(1:Int)<(np:Int))) (g9 (decide (1+ap<mp)) (g9 (lim .i64 (tp (2+ap)*1000000+tp (1+ap))) (g9 (lim .i64 ((tp (2+ap)*1000000+tp (1+ap))*1000000)) (g9 (decide ((0:Int)<(np:Int))) (g9 (decide ((0:Int)≤0∧(0:Int)<(np:Int))) (g9 (decide (0+ap<mp)) (g9 (lim .i64 ((tp (2+ap)*1000000+tp (1+ap))*1000000+tp (0+ap))) (fC (.int .i64 ((tp (2+ap)*1000000+tp (1+ap))*1000000+tp (0+ap))) (u74_e_0 mp tp) 1) False) False) False) (g9 (lim .i64 ((tp (2+ap)*1000000+tp (1+ap))*1000000+0)) (fC (.int .i64 ((tp (2+ap)*1000000+tp (1+ap))*1000000+0)) (u74_e_0 mp tp) 1) False)) False) False) False) False) (g9 (lim .i64 (tp (2+ap)*1000000+0)) (g9 (lim .i64 ((tp (2+ap)*1000000+0)*1000000)) (g9 (decide ((0:Int)<(np:Int))) (g9 (decide ((0:Int)≤0∧(0:Int)<(np:Int))) (g9 (decide (0+ap<mp)) (g9 (lim .i64 ((tp (2+ap)*1000000+0)*1000000+tp (0+ap))) (fC (.int .i64 ((tp (2+ap)*1000000+0)*1000000+tp (0+ap))) (u74_e_0 mp tp) 1) False) False) False) (g9 (lim .i64 ((tp (2+ap)*1000000+0)*1000000+0)) (fC (.int .i64 ((tp (2+ap)*1000000+0)*1000000+0)) (u74_e_0 mp tp) 1) False)) False) False)) False) False) False) (g9 true (g9 (decide ((1:Int)<(np:Int))) (g9 (decide ((0:Int)≤1∧(1:Int)<(np:Int))) (g9 (decide (1+ap<mp)) (g9 (lim .i64 ((0:Int)+tp (1+ap))) (g9 (lim .i64 (((0:Int)+tp (1+ap))*1000000)) (g9 (decide ((0:Int)<(np:Int))) (g9 (decide ((0:Int)≤0∧(0:Int)<(np:Int))) (g9 (decide (0+ap<mp)) (g9 (lim .i64 (((0:Int)+tp (1+ap))*1000000+tp (0+ap))) (fC (.int .i64 (((0:Int)+tp (1+ap))*1000000+tp (0+ap))) (u74_e_0 mp tp) 1) False) False) False) (g9 (lim .i64 (((0:Int)+tp (1+ap))*1000000+0)) (fC (.int .i64 (((0:Int)+tp (1+ap))*1000000+0)) (u74_e_0 mp tp) 1) False)) False) False) False) False) (g9 true (g9 true (g9 (decide ((0:Int)<(np:Int))) (g9 (decide ((0:Int)≤0∧(0:Int)<(np:Int))) (g9 (decide (0+ap<mp)) (g9 (lim .i64 ((0:Int)+tp (0+ap))) (fC (.int .i64 ((0:Int)+tp (0+ap))) (u74_e_0 mp tp) 1) False) False) False) (g9 true (fC (.int .i64 0) (u74_e_0 mp tp) 1) False)) False) False)) False)
theorem te74:run g9 Tryz.env true (xB0 g9) true 400 ⟨132,[.cd (zS Tryz.f132).body],yD 0 [.loose ⟨0,1,ap,0⟩ np],[[],[(0,(false,CB mp tp))]],1⟩ (zq 1 [] fA fC)=
 Te74 g9 fC ap np mp tp:=by kernel_rfl
noncomputable abbrev J74:Rt74→zQ:=fun r=> [yJ (1+1) ((N74) r)++ [(0,(false,CB mp tp))]]
attribute [local irreducible] Int.subNatNat in
theorem a74 {r:Rt74} (h:zX ((q74 ap np mp tp)) ((p74 ap np mp tp)) r):zn Tryz.prog 132 [.loose ⟨0,1,ap,0⟩ np] [[(0,(false,CB mp tp))]] 1 ((V74) r) ((J74 mp tp) r) 400∧HB Tryz.prog 132:=by
 refine zf Tryz.envOk Tryz.mixed uH ((I74)) ((V74)) (J74 mp tp) (fn:=zS Tryz.f132) (ts:= []) (n:=400) rfl (by decide) (by simp) (zV rfl) ?_ ?_ ?_ h
 · intro s; exact s.elim
 · intro fA fC x hS hR h
   refine Holds.eq (te74 cond fA fC ap np mp tp) ?_
   unfold Te74
   unfold p74 at h
   refine zA h (fun c0 h=>zA h (fun c1 h=>zA h (fun c2 h=>zA h (fun c3 h=>zA h (fun c4 h=>zA h (fun c5 h=>zA h (fun c6 h=>zA h (fun c7 h=>zA h (fun c8 h=>zA h (fun c9 h=>zA h (fun c10 h=>zA h (fun c11 h=>zA h (fun c12 h=> ?_) (fun c12 h=> ?_)) (fun c11 h=> ?_)) (fun c10 h=> ?_)) (fun c9 h=>zA h (fun c10 h=> ?_) (fun c10 h=> ?_))) (fun c8 h=> ?_)) (fun c7 h=> ?_)) (fun c6 h=> ?_)) (fun c5 h=> ?_)) (fun c4 h=>zA h (fun c5 h=>zA h (fun c6 h=>zA h (fun c7 h=>zA h (fun c8 h=>zA h (fun c9 h=>zA h (fun c10 h=> ?_) (fun c10 h=> ?_)) (fun c9 h=> ?_)) (fun c8 h=> ?_)) (fun c7 h=>zA h (fun c8 h=> ?_) (fun c8 h=> ?_))) (fun c6 h=> ?_)) (fun c5 h=> ?_))) (fun c3 h=> ?_)) (fun c2 h=> ?_)) (fun c1 h=> ?_)) (fun c0 h=>zJ rfl (zA h (fun c1 h=>zA h (fun c2 h=>zA h (fun c3 h=>zA h (fun c4 h=>zA h (fun c5 h=>zA h (fun c6 h=>zA h (fun c7 h=>zA h (fun c8 h=>zA h (fun c9 h=> ?_) (fun c9 h=> ?_)) (fun c8 h=> ?_)) (fun c7 h=> ?_)) (fun c6 h=>zA h (fun c7 h=> ?_) (fun c7 h=> ?_))) (fun c5 h=> ?_)) (fun c4 h=> ?_)) (fun c3 h=> ?_)) (fun c2 h=> ?_)) (fun c1 h=>zJ rfl (zJ rfl (zA h (fun c2 h=>zA h (fun c3 h=>zA h (fun c4 h=>zA h (fun c5 h=> ?_) (fun c5 h=> ?_)) (fun c4 h=> ?_)) (fun c3 h=> ?_)) (fun c2 h=>zJ rfl (zU hR _ h (fun n=>n) rfl rfl rfl (zH rfl) rfl (zB (zC rfl) rfl rfl zE))))))))
   all_goals first
     |exact zF h
     |exact zU hR _ h (fun n=>n) rfl rfl rfl (zH rfl) rfl (zB (zC rfl) rfl rfl zE)
 · intro fA fC x hS hR s h; exact s.elim
end
noncomputable def k74:Con:=⟨132,[.one (.list [.int .i64])],w69v (fun ap np mp tp=>decide (ap+np≤mp∧np≤3∧S.fG np (FS tp ap)=true)),w69v (fun ap np mp tp=>(V74) ((S.val np (FS tp ap)))),w69v (fun ap np mp tp=>(N74) ((S.val np (FS tp ap)))),fun _ _=> .dead⟩
theorem s74 (ap np mp:Nat) (tp:Nat→Int) (hp:ap+np≤mp∧np≤3∧S.fG np (fun j=>tp (j+ap))=true):zX ((q74 ap np mp tp)) ((p74 ap np mp tp)) ((S.val np (fun j=>tp (j+ap)))):=by
 obtain ⟨hp1,hp2,hp3⟩:=hp
 have d1:=yO.mp hp3
 have h0:=fun h=>d1 0 h
 have h1:=fun h=>d1 1 h
 have h2:=fun h=>d1 2 h
 (try dsimp only at h0 h1 h2)
 have hn:np=0∨np=1∨np=2∨np=3:=by omega
 rcases hn with rfl|rfl|rfl|rfl
 · simp only [S.val,S.fD,Nat.zero_add,Nat.reduceAdd] at*
   show zX _ _ _
   unfold p74
   repeat' (first|with_reducible refine zN (fun h=> ?_) (fun h=> ?_)<;>(try simp only [SH,Nat.zero_add] at h)|exact zI.mpr (by omega))
   all_goals first|(exfalso; omega)|(refine zG.mpr ?_; first|rfl|(show (_:Int)=_; rw [Nat.zero_add (n:=ap)]; omega))
 · simp only [S.val,S.fD,Nat.zero_add,Nat.reduceAdd] at*
   show zX _ _ _
   unfold p74
   repeat' (first|with_reducible refine zN (fun h=> ?_) (fun h=> ?_)<;>(try simp only [SH,Nat.zero_add] at h)|exact zI.mpr (by omega))
   all_goals first|(exfalso; omega)|(refine zG.mpr ?_; first|rfl|(show (_:Int)=_; rw [Nat.zero_add (n:=ap)]; omega))
 · simp only [S.val,S.fD,Nat.zero_add,Nat.reduceAdd] at*
   show zX _ _ _
   unfold p74
   repeat' (first|with_reducible refine zN (fun h=> ?_) (fun h=> ?_)<;>(try simp only [SH,Nat.zero_add] at h)|exact zI.mpr (by omega))
   all_goals first|(exfalso; omega)|(refine zG.mpr ?_; first|rfl|(show (_:Int)=_; rw [Nat.zero_add (n:=ap)]; omega))
 · simp only [S.val,S.fD,Nat.zero_add,Nat.reduceAdd] at*
   show zX _ _ _
   unfold p74
   repeat' (first|with_reducible refine zN (fun h=> ?_) (fun h=> ?_)<;>(try simp only [SH,Nat.zero_add] at h)|exact zI.mpr (by omega))
   all_goals first|(exfalso; omega)|(refine zG.mpr ?_; first|rfl|(show (_:Int)=_; rw [Nat.zero_add (n:=ap)]; omega))
theorem k74_ok:k74.ok Tryz.prog:=by
 intro x hx
 obtain ⟨⟨ap,np,mp,tp,_⟩,_⟩:=x
 obtain ⟨h1,h2⟩:=a74 ap np mp tp (s74 ap np mp tp (zo hx rfl))
 exact ⟨⟨400,(by decide:1+1+0≤400),h1⟩,h2⟩
section
variable (g9:TT) (fA:KS) (fC:KR) (ap np mp:Nat) (tp:NI) (v:Int)
inductive St77 where
 |h0 (x0:Int) (x1:Int)
abbrev Rt77:=Int
noncomputable def V77 (r:Rt77):PV:= .int .i64 r
noncomputable def N77 (r:Rt77):List Blk:= []
noncomputable def I77:St77→Hd
  | .h0 x0 x1=>⟨hd Tryz.f147 0,[.loose ⟨0,1,ap,0⟩ np,.int .i64 v,
 .int .i64 x0,.int .i64 x1],[[],[(0,(false,CB mp tp))]],1⟩
noncomputable def q77 (ap np mp:Nat) (tp:NI) (v:Int):St77→Option (St77⊕Rt77)| .h0 x0 x1=>bif (decide (x1≥v)) then (bif (lim .i64 (x0*1000000)) then (bif (decide ((0:Int)≤x1∧x1<(np:Int))) then (bif (decide (x1.toNat+ap<mp)) then (bif (lim .i64 (x0*1000000+tp (x1.toNat+ap))) then (bif (lim .i64 (x1-1)) then (some (.inl (.h0 (x0*1000000+tp (x1.toNat+ap)) (x1-1)))) else none) else none) else none) else none) else none) else (some (.inr x0))
noncomputable def p77 (ap np mp:Nat) (tp:NI) (v:Int):Option (St77⊕Rt77):=bif (lim .i64 (v+3)) then (bif (lim .i64 (Min.min (np:Int) (v+3)-1)) then (some (.inl (.h0 ((0:Int)) (Min.min (np:Int) (v+3)-1)))) else none) else none
def Te77:Prop:=g9 (lim .i64 (v+3)) (g9 (lim .i64 (Min.min (np:Int) (v+3)-1)) (fA (hd Tryz.f147 0) ([.loose ⟨0,1,ap,0⟩ np,.int .i64 v,.int .i64 0,.int .i64 (Min.min (np:Int) (v+3)-1)]) ([[(0,false,CB mp tp)]]) 1) False) False
theorem te77:run g9 Tryz.env true (xB0 g9) true 400 ⟨147,[.cd (zS Tryz.f147).body],yD 0 [.loose ⟨0,1,ap,0⟩ np,.int .i64 v],[[],[(0,(false,CB mp tp))]],1⟩ (zq 1 [0,1,5,6] fA fC)=
 Te77 g9 fA ap np mp tp v:=by kernel_rfl
def T77_0 (x0 x1:Int):Prop:=g9 (decide (x1≥v)) (g9 (lim .i64 (x0*1000000)) (g9 (decide ((0:Int)≤x1∧x1<(np:Int))) (g9 (decide (x1.toNat+ap<mp)) (g9 (lim .i64 (x0*1000000+tp (x1.toNat+ap))) (g9 (lim .i64 (x1-1)) (fA (hd Tryz.f147 0) ([.loose ⟨0,1,ap,0⟩ np,.int .i64 v,.int .i64 (x0*1000000+tp (x1.toNat+ap)),.int .i64 (x1-1)]) ([[(0,false,CB mp tp)]]) 1) False) False) False) False) False) (fC (.int .i64 x0) ([[(0,false,CB mp tp)]]) 1)
theorem t77_0 (x0 x1:Int):run g9 Tryz.env true (xB0 g9) true 400 ⟨147,hd Tryz.f147 0,yc [0,1,5,6] [.loose ⟨0,1,ap,0⟩ np,.int .i64 v,
 .int .i64 x0,.int .i64 x1],[[],[(0,(false,CB mp tp))]],1⟩ (zq 1 [0,1,5,6] fA fC)=
  T77_0 g9 fA fC ap np mp tp v x0 x1:=by kernel_rfl
noncomputable abbrev J77:Rt77→zQ:=fun r=> [yJ (1+1) ((N77) r)++ [(0,(false,CB mp tp))]]
attribute [local irreducible] Int.subNatNat in
theorem a77 {r:Rt77} (h:zX ((q77 ap np mp tp v)) ((p77 ap np mp tp v)) r):zn Tryz.prog 147 [.loose ⟨0,1,ap,0⟩ np,.int .i64 v] [[(0,(false,CB mp tp))]] 1 ((V77) r) ((J77 mp tp) r) 400∧HB Tryz.prog 147:=by
 refine zf Tryz.envOk Tryz.mixed uH ((I77 ap np mp tp v)) ((V77)) (J77 mp tp) (fn:=zS Tryz.f147) (ts:= [0,1,5,6]) (n:=400) rfl (by decide) (by simp) (zV rfl) ?_ ?_ ?_ h
 · intro s; cases s<;>exact ⟨ym _ _,by simp [I77],zV rfl,Nat.le_of_ble_eq_true rfl⟩
 · intro fA fC x hS hR h
   refine Holds.eq (te77 cond fA fC ap np mp tp v) ?_
   unfold Te77
   unfold p77 at h
   exact zA h (fun c0 h=>zA h (fun c1 h=>zb hS _ h (fun n=>n) rfl rfl rfl ⟨(zM (zC rfl) rfl rfl rfl),⟨(zH rfl),⟨(zH rfl),⟨(zH rfl),trivial⟩⟩⟩⟩ rfl (zB (zC rfl) rfl rfl zE)) (fun c1 h=>zF h)) (fun c0 h=>zF h)
 · intro fA fC x hS hR s h
   cases s with
   |h0 x0 x1=>
    refine Holds.eq (t77_0 cond fA fC ap np mp tp v x0 x1) ?_
    unfold T77_0
    rw [q77] at h
    exact zA h (fun c0 h=>zA h (fun c1 h=>zA h (fun c2 h=>zA h (fun c3 h=>zA h (fun c4 h=>zA h (fun c5 h=>zb hS _ h (fun n=>n) rfl rfl rfl ⟨(zM (zC rfl) rfl rfl rfl),⟨(zH rfl),⟨(zH rfl),⟨(zH rfl),trivial⟩⟩⟩⟩ rfl (zB (zC rfl) rfl rfl zE)) (fun c5 h=>zF h)) (fun c4 h=>zF h)) (fun c3 h=>zF h)) (fun c2 h=>zF h)) (fun c1 h=>zF h)) (fun c0 h=>zU hR _ h (fun n=>n) rfl rfl rfl (zH rfl) rfl (zB (zC rfl) rfl rfl zE))
end
noncomputable def k77:Con:=⟨147,[.one (.list [.int .i64]),.one (.plain (.int .i64))],w71 (fun ap np mp tp v=>decide (ap+np≤mp∧np≤1000∧S.fG np (FS tp ap)=true∧0≤v∧v≤1000)),w71 (fun ap np mp tp v=>(V77) (S.fD (FS tp ap) v.toNat (min np (v.toNat+3)-v.toNat))),w71 (fun ap np mp tp v=>(N77) (S.fD (FS tp ap) v.toNat (min np (v.toNat+3)-v.toNat))),fun _ _=> .dead⟩
theorem s77' (ap np mp:Nat) (tp:Nat→Int) (v:Int) (hp:ap+np≤mp∧np≤1000∧S.fG np (fun j=>tp (j+ap))=true∧0≤v∧v≤1000): ∀ (k i:Nat),v.toNat+k=i→i≤min np (v.toNat+3)→Comes (q77 ap np mp tp v) (.h0 (S.fD (fun j=>tp (j+ap)) i (min np (v.toNat+3)-i)) ((i:Int)-1)) (S.fD (fun j=>tp (j+ap)) v.toNat (min np (v.toNat+3)-v.toNat)):=by
 obtain ⟨hp1,hp2,hp3,hp4,hp5⟩:=hp
 have d1:=yO.mp hp3
 intro k
 induction k with
 |zero=>
  intro i hi hm
  obtain rfl:v.toNat=i:=by omega
  apply Comes.of
  show zX _ _ _
  (first|rw [q77]|unfold q77)
  repeat' (first|with_reducible refine zN (fun h=> ?_) (fun h=> ?_)<;>(try simp only [SH] at h)|exact zI.mpr (by omega))
  all_goals first|(exfalso; omega)|exact zG.mpr rfl
 | succ k ih=>
  intro i hi hm
  have ih:=ih (i-1) (by omega) (by omega)
  have hx:=d1 (i-1) (by omega)
  have hl:=yw (t:=(fun j=>tp (j+ap))) (k:=min np (v.toNat+3)-i) (i:=i) fun j h1 h2=>d1 j (by omega)
  have hg:=yI (t:=(fun j=>tp (j+ap))) (k:=min np (v.toNat+3)-i) (i:=i) fun j h1 h2=>(d1 j (by omega)).1
  have hw:=y4 (k:=min np (v.toNat+3)-i) (m:=2) (by omega)
  have hw2:S.pw 2=1000000000000:=rfl
  have e1:((i:Int)-1)=((i-1:Nat):Int):=by omega
  have s1:S.fD (fun j=>tp (j+ap)) (i-1) (min np (v.toNat+3)-(i-1))=tp (i-1+ap)+1000000*S.fD (fun j=>tp (j+ap)) i (min np (v.toNat+3)-i):=by
   rw [show min np (v.toNat+3)-(i-1)=(min np (v.toNat+3)-i)+1 by omega]
   simp only [S.fD]
   rw [show i-1+1=i by omega]
  (try dsimp only at hx)
  generalize S.fD (fun j=>tp (j+ap)) i (min np (v.toNat+3)-i)=w at*
  rw [s1,show tp (i-1+ap)+1000000*w=w*1000000+tp (i-1+ap) by omega] at ih
  clear s1
  rw [e1]
  apply Comes.of
  show zX _ _ _
  rw [q77]
  simp only [Int.toNat_natCast]
  repeat' (first|with_reducible refine zN (fun h=> ?_) (fun h=> ?_)<;>(try simp only [SH] at h)|exact zI.mpr (by omega))
  all_goals first|(exfalso; omega)|exact ih
theorem s77 (ap np mp:Nat) (tp:Nat→Int) (v:Int) (hp:ap+np≤mp∧np≤1000∧S.fG np (fun j=>tp (j+ap))=true∧0≤v∧v≤1000):zX ((q77 ap np mp tp v)) ((p77 ap np mp tp v)) (S.fD (fun j=>tp (j+ap)) v.toNat (min np (v.toNat+3)-v.toNat)):=by
 by_cases hv:v.toNat≤min np (v.toNat+3)
 · have hm:=s77' ap np mp tp v hp (min np (v.toNat+3)-v.toNat) (min np (v.toNat+3)) (by omega) (Nat.le_refl _)
   obtain ⟨hp1,hp2,hp3,hp4,hp5⟩:=hp
   rw [Nat.sub_self] at hm
   have e1:min (np:Int) (v+3)-1=((min np (v.toNat+3):Nat):Int)-1:=by omega
   rw [← e1] at hm
   show zX _ _ _
   unfold p77
   repeat' (first|with_reducible refine zN (fun h=> ?_) (fun h=> ?_)<;>(try simp only [SH] at h)|exact zI.mpr (by omega))
   all_goals first|(exfalso; omega)|exact hm
 · obtain ⟨hp1,hp2,hp3,hp4,hp5⟩:=hp
   rw [show min np (v.toNat+3)-v.toNat=0 by omega]
   simp only [S.fD]
   have hm:Comes (q77 ap np mp tp v) (.h0 0 (min (np:Int) (v+3)-1)) 0:=by
    apply Comes.of
    show zX _ _ _
    (first|rw [q77]|unfold q77)
    repeat' (first|with_reducible refine zN (fun h=> ?_) (fun h=> ?_)<;>(try simp only [SH] at h)|exact zI.mpr (by omega))
    all_goals first|(exfalso; omega)|exact zG.mpr rfl
   show zX _ _ _
   unfold p77
   repeat' (first|with_reducible refine zN (fun h=> ?_) (fun h=> ?_)<;>(try simp only [SH] at h)|exact zI.mpr (by omega))
   all_goals first|(exfalso; omega)|exact hm
theorem k77_ok:k77.ok Tryz.prog:=by
 intro x hx
 obtain ⟨⟨ap,np,mp,tp,_⟩,v,_⟩:=x
 obtain ⟨h1,h2⟩:=a77 ap np mp tp v (s77 ap np mp tp v (zo hx rfl))
 exact ⟨⟨400,(by decide:1+1+0≤400),h1⟩,h2⟩
section
variable (g9:TT) (fA:KS) (fC:KR) (ap np mp:Nat) (tp:NI) (v:Int)
abbrev St70:=Empty
abbrev Rt70:=Int
noncomputable def V70 (r:Rt70):PV:= .int .i64 r
noncomputable def N70 (r:Rt70):List Blk:= []
noncomputable def I70:St70→Hd:=fun s=>s.elim
noncomputable def q70 (ap np mp:Nat) (tp:NI) (v:Int):St70→Option (St70⊕Rt70):=fun s=>s.elim
noncomputable def p70 (ap np mp:Nat) (tp:NI) (v:Int):Option (St70⊕Rt70):=bif (decide (v<(np:Int))) then (bif (decide ((0:Int)≤v∧v<(np:Int))) then (bif (decide (v.toNat+ap<mp)) then (some (.inr (tp (v.toNat+ap)))) else none) else none) else (some (.inr ((0:Int))))
def Te70:Prop:=g9 (decide (v<(np:Int))) (g9 (decide ((0:Int)≤v∧v<(np:Int))) (g9 (decide (v.toNat+ap<mp)) (fC (.int .i64 (tp (v.toNat+ap))) ([[(0,false,CB mp tp)]]) 1) False) False) (fC (.int .i64 0) ([[(0,false,CB mp tp)]]) 1)
theorem te70:run g9 Tryz.env true noX true 400 ⟨133,[.cd (zS Tryz.f133).body],yD 0 [.loose ⟨0,1,ap,0⟩ np,.int .i64 v],[[],[(0,(false,CB mp tp))]],1⟩ (zq 1 [] fA fC)=
 Te70 g9 fC ap np mp tp v:=by kernel_rfl
noncomputable abbrev J70:Rt70→zQ:=fun r=> [yJ (1+1) ((N70) r)++ [(0,(false,CB mp tp))]]
attribute [local irreducible] Int.subNatNat in
theorem a70 {r:Rt70} (h:zX ((q70 ap np mp tp v)) ((p70 ap np mp tp v)) r):zn Tryz.prog 133 [.loose ⟨0,1,ap,0⟩ np,.int .i64 v] [[(0,(false,CB mp tp))]] 1 ((V70) r) ((J70 mp tp) r) 400∧HB Tryz.prog 133:=by
 refine zf Tryz.envOk Tryz.mixed y3 ((I70)) ((V70)) (J70 mp tp) (fn:=zS Tryz.f133) (ts:= []) (n:=400) rfl (by decide) (by simp) (zV rfl) ?_ ?_ ?_ h
 · intro s; exact s.elim
 · intro fA fC x hS hR h
   refine Holds.eq (te70 cond fA fC ap np mp tp v) ?_
   unfold Te70
   unfold p70 at h
   exact zA h (fun c0 h=>zA h (fun c1 h=>zA h (fun c2 h=>zU hR _ h (fun n=>n) rfl rfl rfl (zH rfl) rfl (zB (zC rfl) rfl rfl zE)) (fun c2 h=>zF h)) (fun c1 h=>zF h)) (fun c0 h=>zU hR _ h (fun n=>n) rfl rfl rfl (zH rfl) rfl (zB (zC rfl) rfl rfl zE))
 · intro fA fC x hS hR s h; exact s.elim
end
noncomputable def k70:Con:=⟨133,[.one (.list [.int .i64]),.one (.plain (.int .i64))],w71 (fun ap np mp tp v=>decide (ap+np≤mp∧0≤v)),w71 (fun ap np mp tp v=>(V70) (S.ext np (FS tp ap) v.toNat)),w71 (fun ap np mp tp v=>(N70) (S.ext np (FS tp ap) v.toNat)),fun _ _=> .dead⟩
theorem s70 (ap np mp:Nat) (tp:Nat→Int) (v:Int) (hp:ap+np≤mp∧0≤v):zX ((q70 ap np mp tp v)) ((p70 ap np mp tp v)) (S.ext np (fun j=>tp (j+ap)) v.toNat):=by
 obtain ⟨hp1,hp2⟩:=hp
 unfold S.ext
 show zX _ _ _
 unfold p70
 repeat' (first|with_reducible refine zN (fun h=> ?_) (fun h=> ?_)<;>(try simp only [SH] at h)|exact zI.mpr (by omega))
 all_goals first
   |(exfalso; omega)
   |(rw [if_pos (by omega)]; exact zG.mpr rfl)
   |(rw [if_neg (by omega)]; exact zG.mpr rfl)
theorem k70_ok:k70.ok Tryz.prog:=by
 intro x hx
 obtain ⟨⟨ap,np,mp,tp,_⟩,v,_⟩:=x
 obtain ⟨h1,h2⟩:=a70 ap np mp tp v (s70 ap np mp tp v (zo hx rfl))
 exact ⟨⟨400,(by decide:1+1+0≤400),h1⟩,h2⟩
noncomputable def xG1 (g9:Bool→Prop→Prop→Prop):Ext:=xK g9 [k65,k65v,k61,k73,k59,k53,k74,k70]
theorem iL:yZ Tryz.prog (xG1 cond):=yN ⟨k65_ok,k65v_ok,k61_ok,k73_ok,k59_ok,k53_ok,k74_ok,k70_ok,trivial⟩
namespace S
noncomputable def winD (t:Nat→Int) (a n:Nat) (v:Int) (j:Nat):Int:=if a≤j∧j<a+n then at' (fX v) (j-a) else t j
end S
theorem nR {t:Nat→Int}: ∀ {k i:Nat} {v:Int},(∀ j,i≤j→j<i+k→0≤t j∧t j<1000000)→S.fD t i k=v→ ∀ j,j<k→t (i+j)=S.at' (S.fX v) j
  |0,i,v,_,_,j,h=>by omega
  | k + 1,i,v,hd,hv,j,hj=>by
   have h0:=hd i (Nat.le_refl _) (by omega)
   have hn:=yI (t:=t) (k:=k) (i:=i+1) fun j h1 h2=>(hd j (by omega) (by omega)).1
   by_cases hp:0<v
   · have hv':=hv
     simp only [S.fD] at hv
     rw [xO hp]
     cases j with
     |zero=>show t i=v % 1000000; omega
     |succ j=>
      have:=nR (k:=k) (i:=i+1) (v:=v / 1000000) (fun j h1 h2=>hd j (by omega) (by omega)) (by omega) j (by omega)
      rw [show i+(j+1)=i+1+j by omega,this]
      simp [S.at']
   · rw [yX (by omega),wW hd (by omega) (i+j) (by omega) (by omega)]
     simp [S.at']
theorem qF {R:List Int} {m p i:Nat} {g:Int} (h:p+i<m):S.fD (fun j=>S.at' (S.fJ m fun j=>bif Nat.beq j (i+p) then g else S.at' R j) (j+p)) 0 (i+1)=S.fD (fun j=>S.at' R (j+p)) 0 i+S.pw i*g:=by
 rw [yS,Nat.zero_add]
 congr 1
 · exact yA fun j h1 h2=>by
    show S.at' _ (j+p)=S.at' _ (j+p)
    rw [zw (by omega),if_neg (by omega)]
 · congr 1
   show S.at' _ (i+p)=g
   rw [zw (by omega),if_pos rfl]
theorem kn {X Y Z a c c' d u w g:Int} (h1:X+a*c=Y-d*Z) (h2:g+1000000*c'=c+u-d*w):X+a*g+1000000*a*c'=(Y+a*u)-d*(Z+a*w):=by grind
theorem iK {X Y Z a c c' u w g:Int} (h1:X+a*c=Y+Z) (h2:g+1000000*c'=c+u+w):X+a*g+1000000*a*c'=(Y+a*u)+(Z+a*w):=by grind
theorem pF {a X T V:Int} (ha:0<a) (hX:0≤X∧X<a) (h0:0≤X+a*T) (h1:X+a*T<V) (hV:V≤a):T=0:=by
 rcases Int.lt_trichotomy T 0 with h|h|h
 · have:a*T≤a*(-1):=Int.mul_le_mul_of_nonneg_left (by omega) (by omega)
   omega
 · exact h
 · have:a*1≤a*T:=Int.mul_le_mul_of_nonneg_left (by omega) (by omega)
   omega
theorem ph {R:List Int} {m p n:Nat} {t:Nat→Int} {v:Int} (hR:R.length=m) (hp:p+(n+1)≤m) (ho: ∀ j,j<m→ ¬ (p≤j∧j<p+(n+1))→S.at' R j=t j) (hd: ∀ j,j<n→0≤S.at' R (j+p)∧S.at' R (j+p)<1000000) (hn:S.at' R (n+p)=0) (hv:S.fD (fun j=>S.at' R (j+p)) 0 n=v):R=S.fJ m fun j=>S.winD t p (n+1) v j:=by
 have e:=wT (L:=R)
 rw [hR] at e
 rw [← e]
 refine xk fun j hj=> ?_
 have hd': ∀ j,0≤j→j<0+(n+1)→0≤S.at' R (j+p)∧S.at' R (j+p)<1000000:=fun j _ h=>by
  by_cases hj:j=n
  · subst hj; rw [hn]; omega
  · exact hd j (by omega)
 unfold S.winD
 by_cases hw:p≤j∧j<p+(n+1)
 · rw [if_pos hw]
   have:=nR (t:=fun j=>S.at' R (j+p)) (k:=n+1) (i:=0) (v:=v) hd' (by rw [yS,Nat.zero_add,hn,Int.mul_zero,Int.add_zero,hv]) (j-p) (by omega)
   rw [Nat.zero_add] at this
   rw [← this,show j-p+p=j by omega]
 · rw [if_neg hw]; exact ho j hj hw
section
variable (g9:TT) (fA:KS) (fC:KR) (ap np mp:Nat) (tp:NI) (aq nq mq:Nat) (tq:NI)
inductive St72 where
 |h0 (x0:Int) (x1:List Int)
 |h1 (x0:Int) (x1:Int) (x2:Int) (x3:List Int)
 |h2 (x0:Int) (x1:Int) (x2:Int) (x3:List Int)
abbrev Rt72:=Int×List Int
noncomputable def V72 (r:Rt72):PV:= .int .i64 r.1
noncomputable def N72 (r:Rt72):List Blk:= []
noncomputable def W72 (ap np mp:Nat) (tp:Nat→Int) (aq nq mq:Nat) (tq:Nat→Int) (r:Rt72):Nat→Blk:=fun n=>bif Nat.beq n 0 then Blk.cols (List.length r.2) [Col.int IntKind.i64 fun j=>S.at' r.2 j] else .dead
noncomputable def I72:St72→Hd
  | .h0 x0 x1=>⟨hd Tryz.f140 0,[.loose ⟨0,1,ap,0⟩ np,
 .loose ⟨1,1,aq,0⟩ nq,.int .i64 (nq:Int),
 .int .i64 (tp (nq+ap)*1000000+tp (((nq:Int)-1).toNat+ap)),
 .int .i64 x0,.unk,.unk,.unk,.unk,.unk,.unk,
 .unk,.unk],[[],[(0,(true,CI x1)),(1,(false,CB mq tq))]],2⟩
  | .h1 x0 x1 x2 x3=>⟨hd Tryz.f140 1,[.loose ⟨0,1,ap,0⟩ np,
 .loose ⟨1,1,aq,0⟩ nq,.int .i64 (nq:Int),
 .unk,.int .i64 x0,.int .i64 x1,.unk,
 .loose ⟨1,1,aq,0⟩ nq,.int .i64 (nq:Int),
 .int .i64 x2,.unk,.unk,.unk],[[],[(0,(true,CI x3)),(1,(false,CB mq tq))]],2⟩
  | .h2 x0 x1 x2 x3=>⟨hd Tryz.f140 2,[.loose ⟨0,1,ap,0⟩ np,.unk,
 .int .i64 (nq:Int),.unk,.int .i64 x0,.unk,
 .int .i64 x1,.unk,.unk,.unk,
 .loose ⟨1,1,aq,0⟩ nq,.int .i64 (nq:Int),
 .int .i64 x2],[[],[(0,(true,CI x3)),(1,(false,CB mq tq))]],2⟩
noncomputable def q72 (ap np mp:Nat) (tp:NI) (aq nq mq:Nat) (tq:NI):St72→Option (St72⊕Rt72)| .h0 x0 x1=>bif (lim .i64 ((nq:Int)-2)) then (bif (decide ((0:Int)≤(nq:Int)-2∧(nq:Int)-2<(nq:Int))) then (bif (decide (((nq:Int)-2).toNat+aq<mq)) then (bif (lim .i64 (x0*tq (((nq:Int)-2).toNat+aq))) then (bif (lim .i64 ((nq:Int)-1)) then (bif (decide ((0:Int)≤(nq:Int)-1∧(nq:Int)-1<(nq:Int))) then (bif (decide (((nq:Int)-1).toNat+aq<mq)) then (bif (lim .i64 (x0*tq (((nq:Int)-1).toNat+aq))) then (bif (lim .i64 (tp (nq+ap)*1000000+tp (((nq:Int)-1).toNat+ap)-x0*tq (((nq:Int)-1).toNat+aq))) then (bif (lim .i64 ((tp (nq+ap)*1000000+tp (((nq:Int)-1).toNat+ap)-x0*tq (((nq:Int)-1).toNat+aq))*1000000)) then (bif (decide ((0:Int)≤(nq:Int)-2∧(nq:Int)-2<(np:Int))) then (bif (decide (((nq:Int)-2).toNat+ap<x1.length)) then (bif (lim .i64 ((tp (nq+ap)*1000000+tp (((nq:Int)-1).toNat+ap)-x0*tq (((nq:Int)-1).toNat+aq))*1000000+S.at' x1 (((nq:Int)-2).toNat+ap))) then (bif (decide (x0*tq (((nq:Int)-2).toNat+aq)>(tp (nq+ap)*1000000+tp (((nq:Int)-1).toNat+ap)-x0*tq (((nq:Int)-1).toNat+aq))*1000000+S.at' x1 (((nq:Int)-2).toNat+ap))) then (bif (lim .i64 (x0-1)) then (some (.inl (.h0 (x0-1) x1))) else none) else (some (.inl (.h1 x0 ((0:Int)) ((0:Int)) x1)))) else none) else none) else none) else none) else none) else none) else none) else none) else none) else none) else none) else none) else none| .h1 x0 x1 x2 x3=>bif (decide (x2<(nq:Int))) then (bif (decide ((0:Int)≤x2∧x2<(nq:Int))) then (bif (decide (x2.toNat+aq<mq)) then (bif (decide ((0:Int)≤x2∧x2<(np:Int))) then (bif (decide (x2.toNat+ap<x3.length)) then (bif (lim .i64 (x0*tq (x2.toNat+aq))) then (bif (lim .i64 (S.at' x3 (x2.toNat+ap)-x0*tq (x2.toNat+aq))) then (bif (lim .i64 (x1+(S.at' x3 (x2.toNat+ap)-x0*tq (x2.toNat+aq)))) then (bif (lim .i64 (Int.tdiv (x1+(S.at' x3 (x2.toNat+ap)-x0*tq (x2.toNat+aq))) (1000000:Int))) then (bif (decide ((bif Nat.beq (x2.toNat+ap) (x2.toNat+ap) then Int.tmod (x1+(S.at' x3 (x2.toNat+ap)-x0*tq (x2.toNat+aq))) (1000000:Int) else S.at' x3 (x2.toNat+ap))<0)) then (bif (lim .i64 ((bif Nat.beq (x2.toNat+ap) (x2.toNat+ap) then Int.tmod (x1+(S.at' x3 (x2.toNat+ap)-x0*tq (x2.toNat+aq))) (1000000:Int) else S.at' x3 (x2.toNat+ap))+1000000)) then (bif (lim .i64 (Int.tdiv (x1+(S.at' x3 (x2.toNat+ap)-x0*tq (x2.toNat+aq))) (1000000:Int)-1)) then (bif (lim .i64 (x2+1)) then (some (.inl (.h1 x0 (Int.tdiv (x1+(S.at' x3 (x2.toNat+ap)-x0*tq (x2.toNat+aq))) (1000000:Int)-1) (x2+1) (S.fJ x3.length fun j=>bif Nat.beq j (x2.toNat+ap) then (bif Nat.beq (x2.toNat+ap) (x2.toNat+ap) then Int.tmod (x1+(S.at' x3 (x2.toNat+ap)-x0*tq (x2.toNat+aq))) (1000000:Int) else S.at' x3 (x2.toNat+ap))+1000000 else bif Nat.beq j (x2.toNat+ap) then Int.tmod (x1+(S.at' x3 (x2.toNat+ap)-x0*tq (x2.toNat+aq))) (1000000:Int) else S.at' x3 j)))) else none) else none) else none) else (bif (lim .i64 (x2+1)) then (some (.inl (.h1 x0 (Int.tdiv (x1+(S.at' x3 (x2.toNat+ap)-x0*tq (x2.toNat+aq))) (1000000:Int)) (x2+1) (S.fJ x3.length fun j=>bif Nat.beq j (x2.toNat+ap) then Int.tmod (x1+(S.at' x3 (x2.toNat+ap)-x0*tq (x2.toNat+aq))) (1000000:Int) else S.at' x3 j)))) else none)) else none) else none) else none) else none) else none) else none) else none) else none) else (bif (decide ((0:Int)≤(nq:Int)∧(nq:Int)<(np:Int))) then (bif (decide (nq+ap<x3.length)) then (bif (lim .i64 (S.at' x3 (nq+ap)+x1)) then (bif (decide ((bif Nat.beq (nq+ap) (nq+ap) then S.at' x3 (nq+ap)+x1 else S.at' x3 (nq+ap))≥0)) then (some (.inr (x0,S.fJ x3.length fun j=>bif Nat.beq j (nq+ap) then S.at' x3 (nq+ap)+x1 else S.at' x3 j))) else (some (.inl (.h2 x0 ((0:Int)) ((0:Int)) (S.fJ x3.length fun j=>bif Nat.beq j (nq+ap) then S.at' x3 (nq+ap)+x1 else S.at' x3 j))))) else none) else none) else none)| .h2 x0 x1 x2 x3=>bif (decide (x2<(nq:Int))) then (bif (decide ((0:Int)≤x2∧x2<(nq:Int))) then (bif (decide (x2.toNat+aq<mq)) then (bif (decide ((0:Int)≤x2∧x2<(np:Int))) then (bif (decide (x2.toNat+ap<x3.length)) then (bif (lim .i64 (S.at' x3 (x2.toNat+ap)+tq (x2.toNat+aq))) then (bif (lim .i64 (x1+(S.at' x3 (x2.toNat+ap)+tq (x2.toNat+aq)))) then (bif (lim .i64 (Int.tdiv (x1+(S.at' x3 (x2.toNat+ap)+tq (x2.toNat+aq))) (1000000:Int))) then (bif (lim .i64 (x2+1)) then (some (.inl (.h2 x0 (Int.tdiv (x1+(S.at' x3 (x2.toNat+ap)+tq (x2.toNat+aq))) (1000000:Int)) (x2+1) (S.fJ x3.length fun j=>bif Nat.beq j (x2.toNat+ap) then Int.tmod (x1+(S.at' x3 (x2.toNat+ap)+tq (x2.toNat+aq))) (1000000:Int) else S.at' x3 j)))) else none) else none) else none) else none) else none) else none) else none) else none) else (bif (decide ((0:Int)≤(nq:Int)∧(nq:Int)<(np:Int))) then (bif (decide (nq+ap<x3.length)) then (bif (lim .i64 (S.at' x3 (nq+ap)+x1)) then (bif (lim .i64 (x0-1)) then (some (.inr (x0-1,S.fJ x3.length fun j=>bif Nat.beq j (nq+ap) then S.at' x3 (nq+ap)+x1 else S.at' x3 j))) else none) else none) else none) else none)
noncomputable def p72 (ap np mp:Nat) (tp:NI) (aq nq mq:Nat) (tq:NI):Option (St72⊕Rt72):=bif (decide ((0:Int)≤(nq:Int)∧(nq:Int)<(np:Int))) then (bif (decide (nq+ap<mp)) then (bif (lim .i64 (tp (nq+ap)*1000000)) then (bif (lim .i64 ((nq:Int)-1)) then (bif (decide ((0:Int)≤(nq:Int)-1∧(nq:Int)-1<(np:Int))) then (bif (decide (((nq:Int)-1).toNat+ap<mp)) then (bif (lim .i64 (tp (nq+ap)*1000000+tp (((nq:Int)-1).toNat+ap))) then (bif (decide ((0:Int)≤(nq:Int)-1∧(nq:Int)-1<(nq:Int))) then (bif (decide (((nq:Int)-1).toNat+aq<mq)) then (bif (decide (tq (((nq:Int)-1).toNat+aq)=0)) then none else (bif (lim .i64 (Int.tdiv (tp (nq+ap)*1000000+tp (((nq:Int)-1).toNat+ap)) (tq (((nq:Int)-1).toNat+aq)))) then (some (.inl (.h0 (Min.min (Int.tdiv (tp (nq+ap)*1000000+tp (((nq:Int)-1).toNat+ap)) (tq (((nq:Int)-1).toNat+aq))) (999999:Int)) (S.fJ mp fun j=>tp j)))) else none)) else none) else none) else none) else none) else none) else none) else none) else none) else none
def Te72:Prop:=g9 (decide ((0:Int)≤(nq:Int)∧(nq:Int)<(np:Int))) (g9 (decide (nq+ap<mp)) (g9 (lim .i64 (tp (nq+ap)*1000000)) (g9 (lim .i64 ((nq:Int)-1)) (g9 (decide ((0:Int)≤(nq:Int)-1∧(nq:Int)-1<(np:Int))) (g9 (decide (((nq:Int)-1).toNat+ap<mp)) (g9 (lim .i64 (tp (nq+ap)*1000000+tp (((nq:Int)-1).toNat+ap))) (g9 (lim .i64 ((nq:Int)-1)) (g9 (decide ((0:Int)≤(nq:Int)-1∧(nq:Int)-1<(nq:Int))) (g9 (decide (((nq:Int)-1).toNat+aq<mq)) (g9 (decide (tq (((nq:Int)-1).toNat+aq)=0)) False (g9 (lim .i64 (Int.tdiv (tp (nq+ap)*1000000+tp (((nq:Int)-1).toNat+ap)) (tq (((nq:Int)-1).toNat+aq)))) (fA (hd Tryz.f140 0) ([.loose ⟨0,1,ap,0⟩ np,.loose ⟨1,1,aq,0⟩ nq,.int .i64 (nq:Int),.int .i64 (tp (nq+ap)*1000000+tp (((nq:Int)-1).toNat+ap)),.int .i64 (Min.min (Int.tdiv (tp (nq+ap)*1000000+tp (((nq:Int)-1).toNat+ap)) (tq (((nq:Int)-1).toNat+aq))) (999999:Int)),.unk,.unk,.unk,.unk,.unk,.unk,.unk,.unk]) ([[(1,false,CB mq tq),(0,true,CB mp tp)]]) 2) False)) False) False) False) False) False) False) False) False) False) False
theorem te72:run g9 Tryz.env true noX true 400 ⟨140,[.cd (zS Tryz.f140).body],yD 0 [.loose ⟨0,1,ap,0⟩ np,.loose ⟨1,1,aq,0⟩ nq],[[],[(0,(true,CB mp tp)),(1,(false,CB mq tq))]],2⟩ (zq 2 [0,1,5,6,7,8,11,61,62,63,112,113,114] fA fC)=
 Te72 g9 fA ap np mp tp aq nq mq tq:=by kernel_rfl
noncomputable abbrev u72_0_0 (x0:Int):=tp (nq+ap)*(1000000:Int)+tp (((nq:Int)-(1:Int)).toNat+ap)-x0*tq (((nq:Int)-(1:Int)).toNat+aq)
def T72_0 (x0:Int) (x1:List Int):Prop:=g9 (lim .i64 ((nq:Int)-2)) (g9 (decide ((0:Int)≤(nq:Int)-2∧(nq:Int)-2<(nq:Int))) (g9 (decide (((nq:Int)-2).toNat+aq<mq)) (g9 (lim .i64 (x0*tq (((nq:Int)-2).toNat+aq))) (g9 (lim .i64 ((nq:Int)-1)) (g9 (decide ((0:Int)≤(nq:Int)-1∧(nq:Int)-1<(nq:Int))) (g9 (decide (((nq:Int)-1).toNat+aq<mq)) (g9 (lim .i64 (x0*tq (((nq:Int)-1).toNat+aq))) (g9 (lim .i64 (u72_0_0 ap tp aq nq tq x0)) (g9 (lim .i64 ((u72_0_0 ap tp aq nq tq x0)*1000000)) (g9 (lim .i64 ((nq:Int)-2)) (g9 (decide ((0:Int)≤(nq:Int)-2∧(nq:Int)-2<(np:Int))) (g9 (decide (((nq:Int)-2).toNat+ap<x1.length)) (g9 (lim .i64 ((u72_0_0 ap tp aq nq tq x0)*1000000+S.at' x1 (((nq:Int)-2).toNat+ap))) (g9 (decide (x0*tq (((nq:Int)-2).toNat+aq)>(u72_0_0 ap tp aq nq tq x0)*1000000+S.at' x1 (((nq:Int)-2).toNat+ap))) (g9 (lim .i64 (x0-1)) (fA (hd Tryz.f140 0) ([.loose ⟨0,1,ap,0⟩ np,.loose ⟨1,1,aq,0⟩ nq,.int .i64 (nq:Int),.int .i64 (tp (nq+ap)*1000000+tp (((nq:Int)-1).toNat+ap)),.int .i64 (x0-1),.unk,.unk,.unk,.unk,.unk,.unk,.unk,.unk]) ([[(1,false,CB mq tq),(0,true,CI x1)]]) 2) False) (fA (hd Tryz.f140 1) ([.loose ⟨0,1,ap,0⟩ np,.loose ⟨1,1,aq,0⟩ nq,.int .i64 (nq:Int),.int .i64 (tp (nq+ap)*1000000+tp (((nq:Int)-1).toNat+ap)),.int .i64 x0,.int .i64 0,.unk,.loose ⟨1,1,aq,0⟩ nq,.int .i64 (nq:Int),.int .i64 0,.unk,.unk,.unk]) ([[(1,false,CB mq tq),(0,true,CI x1)]]) 2)) False) False) False) False) False) False) False) False) False) False) False) False) False) False
theorem t72_0 (x0:Int) (x1:List Int):run g9 Tryz.env true noX true 400 ⟨140,hd Tryz.f140 0,yc [0,1,5,6,7,8,11,61,62,63,112,113,114] [.loose ⟨0,1,ap,0⟩ np,
 .loose ⟨1,1,aq,0⟩ nq,.int .i64 (nq:Int),
 .int .i64 (tp (nq+ap)*1000000+tp (((nq:Int)-1).toNat+ap)),
 .int .i64 x0,.unk,.unk,.unk,.unk,.unk,.unk,
 .unk,.unk],[[],[(0,(true,CI x1)),(1,(false,CB mq tq))]],2⟩ (zq 2 [0,1,5,6,7,8,11,61,62,63,112,113,114] fA fC)=
  T72_0 g9 fA ap np tp aq nq mq tq x0 x1:=by kernel_rfl
noncomputable abbrev u72_1_0 (x0 x1 x2:Int) (x3:List Int):=x1+(S.at' x3 (x2.toNat+ap)-x0*tq (x2.toNat+aq))
def T72_1 (x0 x1 x2:Int) (x3:List Int):Prop:=g9 (decide (x2<(nq:Int))) (g9 (decide ((0:Int)≤x2∧x2<(nq:Int))) (g9 (decide (x2.toNat+aq<mq)) (g9 (decide ((0:Int)≤x2∧x2<(np:Int))) (g9 (decide (x2.toNat+ap<x3.length)) (g9 (lim .i64 (x0*tq (x2.toNat+aq))) (g9 (lim .i64 (S.at' x3 (x2.toNat+ap)-x0*tq (x2.toNat+aq))) (g9 (lim .i64 (u72_1_0 ap aq tq x0 x1 x2 x3)) (g9 false False (g9 (decide ((0:Int)≤x2∧x2<(np:Int))) (g9 (decide (x2.toNat+ap<x3.length)) (g9 false False (g9 (lim .i64 (Int.tdiv (u72_1_0 ap aq tq x0 x1 x2 x3) (1000000:Int))) (g9 (decide ((0:Int)≤x2∧x2<(np:Int))) (g9 (decide (x2.toNat+ap<x3.length)) (g9 (decide ((bif Nat.beq (x2.toNat+ap) (x2.toNat+ap) then Int.tmod (u72_1_0 ap aq tq x0 x1 x2 x3) (1000000:Int) else S.at' x3 (x2.toNat+ap))<0)) (g9 (decide ((0:Int)≤x2∧x2<(np:Int))) (g9 (decide (x2.toNat+ap<x3.length)) (g9 (lim .i64 ((bif Nat.beq (x2.toNat+ap) (x2.toNat+ap) then Int.tmod (u72_1_0 ap aq tq x0 x1 x2 x3) (1000000:Int) else S.at' x3 (x2.toNat+ap))+1000000)) (g9 (decide ((0:Int)≤x2∧x2<(np:Int))) (g9 (decide (x2.toNat+ap<x3.length)) (g9 (lim .i64 (Int.tdiv (u72_1_0 ap aq tq x0 x1 x2 x3) (1000000:Int)-1)) (g9 (lim .i64 (x2+1)) (fA (hd Tryz.f140 1) ([.loose ⟨0,1,ap,0⟩ np,.loose ⟨1,1,aq,0⟩ nq,.int .i64 (nq:Int),.unk,.int .i64 x0,.int .i64 (Int.tdiv (u72_1_0 ap aq tq x0 x1 x2 x3) (1000000:Int)-1),.unk,.loose ⟨1,1,aq,0⟩ nq,.int .i64 (nq:Int),.int .i64 (x2+1),.unk,.unk,.unk]) ([[(1,false,CB mq tq),(0,true,.cols x3.length [.int .i64 fun j=>bif Nat.beq j (x2.toNat+ap) then (bif Nat.beq (x2.toNat+ap) (x2.toNat+ap) then Int.tmod (u72_1_0 ap aq tq x0 x1 x2 x3) (1000000:Int) else S.at' x3 (x2.toNat+ap))+1000000 else bif Nat.beq j (x2.toNat+ap) then Int.tmod (u72_1_0 ap aq tq x0 x1 x2 x3) (1000000:Int) else S.at' x3 j])]]) 2) False) False) False) False) False) False) False) (g9 (lim .i64 (x2+1)) (fA (hd Tryz.f140 1) ([.loose ⟨0,1,ap,0⟩ np,.loose ⟨1,1,aq,0⟩ nq,.int .i64 (nq:Int),.unk,.int .i64 x0,.int .i64 (Int.tdiv (u72_1_0 ap aq tq x0 x1 x2 x3) (1000000:Int)),.unk,.loose ⟨1,1,aq,0⟩ nq,.int .i64 (nq:Int),.int .i64 (x2+1),.unk,.unk,.unk]) ([[(1,false,CB mq tq),(0,true,.cols x3.length [.int .i64 fun j=>bif Nat.beq j (x2.toNat+ap) then Int.tmod (u72_1_0 ap aq tq x0 x1 x2 x3) (1000000:Int) else S.at' x3 j])]]) 2) False)) False) False) False)) False) False)) False) False) False) False) False) False) False) (g9 (decide ((0:Int)≤(nq:Int)∧(nq:Int)<(np:Int))) (g9 (decide (nq+ap<x3.length)) (g9 (lim .i64 (S.at' x3 (nq+ap)+x1)) (g9 (decide ((0:Int)≤(nq:Int)∧(nq:Int)<(np:Int))) (g9 (decide (nq+ap<x3.length)) (g9 (decide ((0:Int)≤(nq:Int)∧(nq:Int)<(np:Int))) (g9 (decide (nq+ap<x3.length)) (g9 (decide ((bif Nat.beq (nq+ap) (nq+ap) then S.at' x3 (nq+ap)+x1 else S.at' x3 (nq+ap))≥0)) (fC (.int .i64 x0) ([[(1,false,CB mq tq),(0,true,.cols x3.length [.int .i64 fun j=>bif Nat.beq j (nq+ap) then S.at' x3 (nq+ap)+x1 else S.at' x3 j])]]) 2) (fA (hd Tryz.f140 2) ([.loose ⟨0,1,ap,0⟩ np,.loose ⟨1,1,aq,0⟩ nq,.int .i64 (nq:Int),.unk,.int .i64 x0,.int .i64 x1,.int .i64 0,.loose ⟨1,1,aq,0⟩ nq,.int .i64 (nq:Int),.int .i64 x2,.loose ⟨1,1,aq,0⟩ nq,.int .i64 (nq:Int),.int .i64 0]) ([[(1,false,CB mq tq),(0,true,.cols x3.length [.int .i64 fun j=>bif Nat.beq j (nq+ap) then S.at' x3 (nq+ap)+x1 else S.at' x3 j])]]) 2)) False) False) False) False) False) False) False)
theorem t72_1 (x0 x1 x2:Int) (x3:List Int):run g9 Tryz.env true noX true 400 ⟨140,hd Tryz.f140 1,yc [0,1,5,6,7,8,11,61,62,63,112,113,114] [.loose ⟨0,1,ap,0⟩ np,
 .loose ⟨1,1,aq,0⟩ nq,.int .i64 (nq:Int),
 .unk,.int .i64 x0,.int .i64 x1,.unk,
 .loose ⟨1,1,aq,0⟩ nq,.int .i64 (nq:Int),
 .int .i64 x2,.unk,.unk,.unk],[[],[(0,(true,CI x3)),(1,(false,CB mq tq))]],2⟩ (zq 2 [0,1,5,6,7,8,11,61,62,63,112,113,114] fA fC)=
  T72_1 g9 fA fC ap np aq nq mq tq x0 x1 x2 x3:=by kernel_rfl
def T72_2 (x0 x1 x2:Int) (x3:List Int):Prop:=g9 (decide (x2<(nq:Int))) (g9 (decide ((0:Int)≤x2∧x2<(nq:Int))) (g9 (decide (x2.toNat+aq<mq)) (g9 (decide ((0:Int)≤x2∧x2<(np:Int))) (g9 (decide (x2.toNat+ap<x3.length)) (g9 (lim .i64 (S.at' x3 (x2.toNat+ap)+tq (x2.toNat+aq))) (g9 (lim .i64 (x1+(S.at' x3 (x2.toNat+ap)+tq (x2.toNat+aq)))) (g9 false False (g9 (decide ((0:Int)≤x2∧x2<(np:Int))) (g9 (decide (x2.toNat+ap<x3.length)) (g9 false False (g9 (lim .i64 (Int.tdiv (x1+(S.at' x3 (x2.toNat+ap)+tq (x2.toNat+aq))) (1000000:Int))) (g9 (lim .i64 (x2+1)) (fA (hd Tryz.f140 2) ([.loose ⟨0,1,ap,0⟩ np,.unk,.int .i64 (nq:Int),.unk,.int .i64 x0,.unk,.int .i64 (Int.tdiv (x1+(S.at' x3 (x2.toNat+ap)+tq (x2.toNat+aq))) (1000000:Int)),.unk,.unk,.unk,.loose ⟨1,1,aq,0⟩ nq,.int .i64 (nq:Int),.int .i64 (x2+1)]) ([[(1,false,CB mq tq),(0,true,.cols x3.length [.int .i64 fun j=>bif Nat.beq j (x2.toNat+ap) then Int.tmod (x1+(S.at' x3 (x2.toNat+ap)+tq (x2.toNat+aq))) (1000000:Int) else S.at' x3 j])]]) 2) False) False)) False) False)) False) False) False) False) False) False) (g9 (decide ((0:Int)≤(nq:Int)∧(nq:Int)<(np:Int))) (g9 (decide (nq+ap<x3.length)) (g9 (lim .i64 (S.at' x3 (nq+ap)+x1)) (g9 (decide ((0:Int)≤(nq:Int)∧(nq:Int)<(np:Int))) (g9 (decide (nq+ap<x3.length)) (g9 (lim .i64 (x0-1)) (fC (.int .i64 (x0-1)) ([[(1,false,CB mq tq),(0,true,.cols x3.length [.int .i64 fun j=>bif Nat.beq j (nq+ap) then S.at' x3 (nq+ap)+x1 else S.at' x3 j])]]) 2) False) False) False) False) False) False)
theorem t72_2 (x0 x1 x2:Int) (x3:List Int):run g9 Tryz.env true noX true 400 ⟨140,hd Tryz.f140 2,yc [0,1,5,6,7,8,11,61,62,63,112,113,114] [.loose ⟨0,1,ap,0⟩ np,.unk,
 .int .i64 (nq:Int),.unk,.int .i64 x0,.unk,
 .int .i64 x1,.unk,.unk,.unk,
 .loose ⟨1,1,aq,0⟩ nq,.int .i64 (nq:Int),
 .int .i64 x2],[[],[(0,(true,CI x3)),(1,(false,CB mq tq))]],2⟩ (zq 2 [0,1,5,6,7,8,11,61,62,63,112,113,114] fA fC)=
  T72_2 g9 fA fC ap np aq nq mq tq x0 x1 x2 x3:=by kernel_rfl
noncomputable abbrev J72:Rt72→zQ:=fun r=> [yJ (2+1) ((N72) r)++ [(0,(true,((W72 ap np mp tp aq nq mq tq) r 0))),(1,(false,CB mq tq))]]
attribute [local irreducible] Int.subNatNat in
theorem a72 {r:Rt72} (h:zX ((q72 ap np mp tp aq nq mq tq)) ((p72 ap np mp tp aq nq mq tq)) r):zn Tryz.prog 140 [.loose ⟨0,1,ap,0⟩ np,.loose ⟨1,1,aq,0⟩ nq] [[(0,(true,CB mp tp)),(1,(false,CB mq tq))]] 2 ((V72) r) ((J72 ap np mp tp aq nq mq tq) r) 400∧HB Tryz.prog 140:=by
 refine zf Tryz.envOk Tryz.mixed y3 ((I72 ap np tp aq nq mq tq)) ((V72)) (J72 ap np mp tp aq nq mq tq) (fn:=zS Tryz.f140) (ts:= [0,1,5,6,7,8,11,61,62,63,112,113,114]) (n:=400) rfl (by decide) (by simp) (zV rfl) ?_ ?_ ?_ h
 · intro s; cases s<;>exact ⟨ym _ _,by simp [I72],zV rfl,Nat.le_of_ble_eq_true rfl⟩
 · intro fA fC x hS hR h
   refine Holds.eq (te72 cond fA fC ap np mp tp aq nq mq tq) ?_
   unfold Te72
   unfold p72 at h
   exact zA h (fun c0 h=>zA h (fun c1 h=>zA h (fun c2 h=>zA h (fun c3 h=>zA h (fun c4 h=>zA h (fun c5 h=>zA h (fun c6 h=>zJ c3 (zA h (fun c7 h=>zA h (fun c8 h=>zA h (fun c9 h=>zF h) (fun c9 h=>zA h (fun c10 h=>zb hS _ h (fun n=>n) rfl rfl rfl ⟨(zM (zC rfl) rfl rfl rfl),⟨(zM (zC rfl) rfl rfl rfl),⟨(zH rfl),⟨(zH rfl),⟨(zH rfl),⟨(zh _),⟨(zh _),⟨(zh _),⟨(zh _),⟨(zh _),⟨(zh _),⟨(zh _),⟨(zh _),trivial⟩⟩⟩⟩⟩⟩⟩⟩⟩⟩⟩⟩⟩ rfl (zL (zC rfl) rfl (Nat.le_of_eq zW) (zO (fun _ hj=>z3 (fun (t:Int)=>t) hj) zP) (zB (zC rfl) rfl rfl zE))) (fun c10 h=>zF h))) (fun c8 h=>zF h)) (fun c7 h=>zF h))) (fun c6 h=>zF h)) (fun c5 h=>zF h)) (fun c4 h=>zF h)) (fun c3 h=>zF h)) (fun c2 h=>zF h)) (fun c1 h=>zF h)) (fun c0 h=>zF h)
 · intro fA fC x hS hR s h
   cases s with
   |h0 x0 x1=>
    refine Holds.eq (t72_0 cond fA fC ap np tp aq nq mq tq x0 x1) ?_
    unfold T72_0
    rw [q72] at h
    exact zA h (fun c0 h=>zA h (fun c1 h=>zA h (fun c2 h=>zA h (fun c3 h=>zA h (fun c4 h=>zA h (fun c5 h=>zA h (fun c6 h=>zA h (fun c7 h=>zA h (fun c8 h=>zA h (fun c9 h=>zJ c0 (zA h (fun c10 h=>zA h (fun c11 h=>zA h (fun c12 h=>zA h (fun c13 h=>zA h (fun c14 h=>zb hS _ h (fun n=>n) rfl rfl rfl ⟨(zM (zC rfl) rfl rfl rfl),⟨(zM (zC rfl) rfl rfl rfl),⟨(zH rfl),⟨(zH rfl),⟨(zH rfl),⟨(zh _),⟨(zh _),⟨(zh _),⟨(zh _),⟨(zh _),⟨(zh _),⟨(zh _),⟨(zh _),trivial⟩⟩⟩⟩⟩⟩⟩⟩⟩⟩⟩⟩⟩ rfl (zL (zC rfl) rfl (Nat.le_of_eq rfl) (zO (fun _ _=>rfl) zP) (zB (zC rfl) rfl rfl zE))) (fun c14 h=>zF h)) (fun c13 h=>zb hS _ h (fun n=>n) rfl rfl rfl ⟨(zM (zC rfl) rfl rfl rfl),⟨(zM (zC rfl) rfl rfl rfl),⟨(zH rfl),⟨(zh _),⟨(zH rfl),⟨(zH rfl),⟨(zh _),⟨(zM (zC rfl) rfl rfl rfl),⟨(zH rfl),⟨(zH rfl),⟨(zh _),⟨(zh _),⟨(zh _),trivial⟩⟩⟩⟩⟩⟩⟩⟩⟩⟩⟩⟩⟩ rfl (zL (zC rfl) rfl (Nat.le_of_eq rfl) (zO (fun _ _=>rfl) zP) (zB (zC rfl) rfl rfl zE)))) (fun c12 h=>zF h)) (fun c11 h=>zF h)) (fun c10 h=>zF h))) (fun c9 h=>zF h)) (fun c8 h=>zF h)) (fun c7 h=>zF h)) (fun c6 h=>zF h)) (fun c5 h=>zF h)) (fun c4 h=>zF h)) (fun c3 h=>zF h)) (fun c2 h=>zF h)) (fun c1 h=>zF h)) (fun c0 h=>zF h)
   | h1 x0 x1 x2 x3=>
    refine Holds.eq (t72_1 cond fA fC ap np aq nq mq tq x0 x1 x2 x3) ?_
    unfold T72_1
    rw [q72] at h
    refine zA h (fun c0 h=>zA h (fun c1 h=>zA h (fun c2 h=>zA h (fun c3 h=>zA h (fun c4 h=>zA h (fun c5 h=>zA h (fun c6 h=>zA h (fun c7 h=>za rfl (zJ c3 (zJ c4 (za rfl (zA h (fun c8 h=>zJ c3 (zJ c4 (zA h (fun c9 h=>zJ c3 (zJ c4 (zA h (fun c10 h=>zJ c3 (zJ c4 (zA h (fun c11 h=>zA h (fun c12 h=> ?_) (fun c12 h=> ?_)) (fun c11 h=> ?_)))) (fun c10 h=> ?_)))) (fun c9 h=>zA h (fun c10 h=> ?_) (fun c10 h=> ?_))))) (fun c8 h=> ?_)))))) (fun c7 h=> ?_)) (fun c6 h=> ?_)) (fun c5 h=> ?_)) (fun c4 h=> ?_)) (fun c3 h=> ?_)) (fun c2 h=> ?_)) (fun c1 h=> ?_)) (fun c0 h=>zA h (fun c1 h=>zA h (fun c2 h=>zA h (fun c3 h=>zJ c1 (zJ c2 (zJ c1 (zJ c2 (zA h (fun c4 h=>zU hR _ h (fun n=>n) rfl rfl rfl (zH rfl) rfl (zL (zC rfl) rfl (Nat.le_of_eq zW) (zO (fun _ hj=>z3 (fun (t:Int)=>t) hj) zP) (zB (zC rfl) rfl rfl zE))) (fun c4 h=>zb hS _ h (fun n=>n) rfl rfl rfl ⟨(zM (zC rfl) rfl rfl rfl),⟨(zh _),⟨(zH rfl),⟨(zh _),⟨(zH rfl),⟨(zh _),⟨(zH rfl),⟨(zh _),⟨(zh _),⟨(zh _),⟨(zM (zC rfl) rfl rfl rfl),⟨(zH rfl),⟨(zH rfl),trivial⟩⟩⟩⟩⟩⟩⟩⟩⟩⟩⟩⟩⟩ rfl (zL (zC rfl) rfl (Nat.le_of_eq zW) (zO (fun _ hj=>z3 (fun (t:Int)=>t) hj) zP) (zB (zC rfl) rfl rfl zE)))))))) (fun c3 h=> ?_)) (fun c2 h=> ?_)) (fun c1 h=> ?_))
    all_goals first
      |exact zF h
      |exact zb hS _ h (fun n=>n) rfl rfl rfl ⟨(zM (zC rfl) rfl rfl rfl),⟨(zM (zC rfl) rfl rfl rfl),⟨(zH rfl),⟨(zh _),⟨(zH rfl),⟨(zH rfl),⟨(zh _),⟨(zM (zC rfl) rfl rfl rfl),⟨(zH rfl),⟨(zH rfl),⟨(zh _),⟨(zh _),⟨(zh _),trivial⟩⟩⟩⟩⟩⟩⟩⟩⟩⟩⟩⟩⟩ rfl (zL (zC rfl) rfl (Nat.le_of_eq zW) (zO (fun _ hj=>z3 (fun (t:Int)=>t) hj) zP) (zB (zC rfl) rfl rfl zE))
   |h2 x0 x1 x2 x3=>
    refine Holds.eq (t72_2 cond fA fC ap np aq nq mq tq x0 x1 x2 x3) ?_
    unfold T72_2
    rw [q72] at h
    exact zA h (fun c0 h=>zA h (fun c1 h=>zA h (fun c2 h=>zA h (fun c3 h=>zA h (fun c4 h=>zA h (fun c5 h=>zA h (fun c6 h=>za rfl (zJ c3 (zJ c4 (za rfl (zA h (fun c7 h=>zA h (fun c8 h=>zb hS _ h (fun n=>n) rfl rfl rfl ⟨(zM (zC rfl) rfl rfl rfl),⟨(zh _),⟨(zH rfl),⟨(zh _),⟨(zH rfl),⟨(zh _),⟨(zH rfl),⟨(zh _),⟨(zh _),⟨(zh _),⟨(zM (zC rfl) rfl rfl rfl),⟨(zH rfl),⟨(zH rfl),trivial⟩⟩⟩⟩⟩⟩⟩⟩⟩⟩⟩⟩⟩ rfl (zL (zC rfl) rfl (Nat.le_of_eq zW) (zO (fun _ hj=>z3 (fun (t:Int)=>t) hj) zP) (zB (zC rfl) rfl rfl zE))) (fun c8 h=>zF h)) (fun c7 h=>zF h)))))) (fun c6 h=>zF h)) (fun c5 h=>zF h)) (fun c4 h=>zF h)) (fun c3 h=>zF h)) (fun c2 h=>zF h)) (fun c1 h=>zF h)) (fun c0 h=>zA h (fun c1 h=>zA h (fun c2 h=>zA h (fun c3 h=>zJ c1 (zJ c2 (zA h (fun c4 h=>zU hR _ h (fun n=>n) rfl rfl rfl (zH rfl) rfl (zL (zC rfl) rfl (Nat.le_of_eq zW) (zO (fun _ hj=>z3 (fun (t:Int)=>t) hj) zP) (zB (zC rfl) rfl rfl zE))) (fun c4 h=>zF h)))) (fun c3 h=>zF h)) (fun c2 h=>zF h)) (fun c1 h=>zF h))
end
noncomputable def k72:Con:=⟨140,[.one (.win [.int .i64]),.one (.list [.int .i64])],w60 (fun ap np mp tp aq nq mq tq=>decide (ap+np≤mp∧mp≤1000000∧np=nq+1∧2≤nq∧nq≤1000∧aq+nq≤mq∧S.fG np (FS tp ap)=true∧S.fF nq (FS tq aq)=true∧(S.val np (FS tp ap))<1000000*(S.val nq (FS tq aq)))),w60 (fun ap np mp tp aq nq mq tq=>(V72) (((S.val np (FS tp ap)) / (S.val nq (FS tq aq)),S.fJ mp fun j=>S.winD tp ap np ((S.val np (FS tp ap)) % (S.val nq (FS tq aq))) j))),w60 (fun ap np mp tp aq nq mq tq=>(N72) (((S.val np (FS tp ap)) / (S.val nq (FS tq aq)),S.fJ mp fun j=>S.winD tp ap np ((S.val np (FS tp ap)) % (S.val nq (FS tq aq))) j))),w60 (fun ap np mp tp aq nq mq tq=>(W72 ap np mp tp aq nq mq tq) (((S.val np (FS tp ap)) / (S.val nq (FS tq aq)),S.fJ mp fun j=>S.winD tp ap np ((S.val np (FS tp ap)) % (S.val nq (FS tq aq))) j)))⟩
theorem s72h (ap np mp:Nat) (tp:Nat→Int) (aq nq mq:Nat) (tq:Nat→Int) (hp:ap+np≤mp∧mp≤1000000∧np=nq+1∧2≤nq∧nq≤1000∧aq+nq≤mq∧S.fG np (fun j=>tp (j+ap))=true∧S.fF nq (fun j=>tq (j+aq))=true∧(S.val np (fun j=>tp (j+ap)))<1000000*(S.val nq (fun j=>tq (j+aq)))): ∀ (k:Nat) (d:Int),d.toNat≤k→(S.val np (fun j=>tp (j+ap))) / (S.val nq (fun j=>tq (j+aq)))≤d→d≤999999→(∀ d,(S.val np (fun j=>tp (j+ap))) / (S.val nq (fun j=>tq (j+aq)))≤d→d≤(S.val np (fun j=>tp (j+ap))) / (S.val nq (fun j=>tq (j+aq)))+1→d≤999999→Comes (q72 ap np mp tp aq nq mq tq) (.h1 d 0 0 (S.fJ mp fun j=>tp j)) ((S.val np (fun j=>tp (j+ap))) / (S.val nq (fun j=>tq (j+aq))),S.fJ mp fun j=>S.winD tp ap np ((S.val np (fun j=>tp (j+ap))) % (S.val nq (fun j=>tq (j+aq)))) j))→Comes (q72 ap np mp tp aq nq mq tq) (.h0 d (S.fJ mp fun j=>tp j)) ((S.val np (fun j=>tp (j+ap))) / (S.val nq (fun j=>tq (j+aq))),S.fJ mp fun j=>S.winD tp ap np ((S.val np (fun j=>tp (j+ap))) % (S.val nq (fun j=>tq (j+aq)))) j):=by
 obtain ⟨hp1,hp2,rfl,hp4,hp5,hp6,hp7,hp8,hp9⟩:=hp
 have dP:=yO.mp hp7
 have dQ:=(zl.mp hp8).1
 obtain ⟨m,rfl⟩: ∃ m,nq=m+2:=⟨nq-2,by omega⟩
 have vp:=ya hp8 (by omega)
 have up:=yU hp7
 have q0:0≤(S.val (m+2+1) (fun j=>tp (j+ap))) / (S.val (m+2) (fun j=>tq (j+aq))):=Int.ediv_nonneg up (by omega)
 have hv:(S.val (m+2) (fun j=>tq (j+aq)))=S.fD (fun j=>tq (j+aq)) 0 m+S.pw m*(tq (m+aq)+1000000*tq (m+1+aq)):=by
  show S.fD (fun j=>tq (j+aq)) 0 (m+2)=_
  rw [yg,Nat.zero_add]
  simp only [S.fD]
  rw [Int.mul_zero,Int.add_zero]
 have hu:(S.val (m+2+1) (fun j=>tp (j+ap)))=S.fD (fun j=>tp (j+ap)) 0 m+S.pw m*(tp (m+ap)+1000000*(tp (m+1+ap)+1000000*tp (m+2+ap))):=by
  show S.fD (fun j=>tp (j+ap)) 0 (m+3)=_
  rw [yg,Nat.zero_add]
  simp only [S.fD]
  rw [Int.mul_zero,Int.add_zero]
 have lv0:=yI (t:=(fun j=>tq (j+aq))) (k:=m) (i:=0) fun j _ h=>(dQ j (by omega)).1
 have lv1:=yw (t:=(fun j=>tq (j+aq))) (k:=m) (i:=0) fun j _ h=>dQ j (by omega)
 have lu0:=yI (t:=(fun j=>tp (j+ap))) (k:=m) (i:=0) fun j _ h=>(dP j (by omega)).1
 have lu1:=yw (t:=(fun j=>tp (j+ap))) (k:=m) (i:=0) fun j _ h=>dP j (by omega)
 have hw:=xJ (k:=m)
 have a0:=dQ m (by omega)
 have a1:=dQ (m+1) (by omega)
 have b0:=dP m (by omega)
 have b1:=dP (m+1) (by omega)
 have b2:=dP (m+2) (by omega)
 (try dsimp only at a0 a1 b0 b1 b2)
 have e1:(((m+2:Nat):Int)-1).toNat=m+1:=by omega
 have e2:(((m+2:Nat):Int)-2).toNat=m:=by omega
 have z0:S.at' (S.fJ mp fun j=>tp j) (m+ap)=tp (m+ap):=y7 (by omega)
 have step: ∀ d:Int,0≤d→d≤999999→(¬ d*tq (m+aq)>(tp (m+2+ap)*1000000+tp (m+1+ap)-d*tq (m+1+aq))*1000000+tp (m+ap)→d≤(S.val (m+2+1) (fun j=>tp (j+ap))) / (S.val (m+2) (fun j=>tq (j+aq)))+1)∧(d*tq (m+aq)>(tp (m+2+ap)*1000000+tp (m+1+ap)-d*tq (m+1+aq))*1000000+tp (m+ap)→(S.val (m+2+1) (fun j=>tp (j+ap))) / (S.val (m+2) (fun j=>tq (j+aq)))<d):=fun d hd0 hd9=>by
  have ed:d*(tq (m+1+aq)*1000000+tq (m+aq))=d*tq (m+1+aq)*1000000+d*tq (m+aq):=by rw [Int.mul_add,Int.mul_assoc]
  have c1:(tq (m+1+aq)*1000000+tq (m+aq))*S.pw m=S.pw m*(tq (m+aq)+1000000*tq (m+1+aq)):=by rw [Int.mul_comm,Int.add_comm,Int.mul_comm 1000000]
  have c2:((tp (m+2+ap)*1000000+tp (m+1+ap))*1000000+tp (m+ap))*S.pw m=S.pw m*(tp (m+ap)+1000000*(tp (m+1+ap)+1000000*tp (m+2+ap))):=by
   rw [Int.mul_comm]; congr 1; omega
  have v1:(tq (m+1+aq)*1000000+tq (m+aq))*S.pw m≤(S.val (m+2) (fun j=>tq (j+aq))):=by rw [hv,c1]; omega
  have v2:(S.val (m+2) (fun j=>tq (j+aq)))<(tq (m+1+aq)*1000000+tq (m+aq)+1)*S.pw m:=by rw [Int.add_mul,c1,hv,Int.one_mul]; omega
  have u1:((tp (m+2+ap)*1000000+tp (m+1+ap))*1000000+tp (m+ap))*S.pw m≤(S.val (m+2+1) (fun j=>tp (j+ap))):=by rw [hu,c2]; omega
  have u2:(S.val (m+2+1) (fun j=>tp (j+ap)))<((tp (m+2+ap)*1000000+tp (m+1+ap))*1000000+tp (m+ap)+1)*S.pw m:=by rw [Int.add_mul,c2,hu,Int.one_mul]; omega
  have l1:tq (m+1+aq)≠0:=by
   have:=(zl.mp hp8).2
   rcases this with h|h
   · omega
   · exact h
  constructor
  · intro h
    have k1:=lG hw v2 (by omega) u1 up (by omega) hd0 (by omega)
    have k2:=(Int.le_ediv_iff_mul_le vp).mpr k1
    omega
  · intro h
    have k1:=pV hw v1 u2 hd0 (by omega)
    exact (Int.ediv_lt_iff_lt_mul vp).mpr k1
 intro k
 induction k with
 |zero=>
  intro d hk hq h9 hC
  obtain rfl:d=0:=by omega
  have hC:=hC 0 hq (by omega) (by omega)
  have s0:=(step 0 (by omega) (by omega)).2
  rw [Int.zero_mul,Int.zero_mul] at s0
  clear step hu hv
  apply Comes.of
  show zX _ _ _
  rw [q72]
  simp only [e1,e2,z0,zW,Int.zero_mul]
  repeat' (first|with_reducible refine zN (fun h=> ?_) (fun h=> ?_)<;>(try simp only [SH] at h)|exact zI.mpr (by omega))
  all_goals first|(exfalso; omega)|exact hC
 | succ k ih=>
  intro d hk hq h9 hC
  obtain ⟨s1,s2⟩:=step d (by omega) h9
  have m1:=uf (x:=d) (y:=tq (m+aq)) (by omega) a0
  have m2:=uf (x:=d) (y:=tq (m+1+aq)) (by omega) a1
  clear step hu hv
  by_cases hg:d*tq (m+aq)>(tp (m+2+ap)*1000000+tp (m+1+ap)-d*tq (m+1+aq))*1000000+tp (m+ap)
  · have s2:=s2 hg
    have ih:=ih (d-1) (by omega) (by omega) (by omega) hC
    clear s1
    apply Comes.of
    show zX _ _ _
    rw [q72]
    simp only [e1,e2,z0,zW]
    repeat' (first|with_reducible refine zN (fun h=> ?_) (fun h=> ?_)<;>(try simp only [SH] at h)|exact zI.mpr (by omega))
    all_goals first|(exfalso; omega)|exact ih
  · have hC:=hC d hq (s1 hg) h9
    clear s1 s2
    apply Comes.of
    show zX _ _ _
    rw [q72]
    simp only [e1,e2,z0,zW]
    repeat' (first|with_reducible refine zN (fun h=> ?_) (fun h=> ?_)<;>(try simp only [SH] at h)|exact zI.mpr (by omega))
    all_goals first|(exfalso; omega)|exact hC
theorem rI {p:Nat} {g g2:Int} {f:Nat→Int}:(fun j=>bif Nat.beq j p then g else bif Nat.beq j p then g2 else f j)=fun j=>bif Nat.beq j p then g else f j:=by
 funext j
 cases Nat.beq j p<;>rfl
theorem nP {X Y:Int} (hX:0≤X) (hY:0<Y):0≤Int.tdiv X Y∧X<(Int.tdiv X Y+1)*Y∧Int.tdiv X Y≤X:=by
 rw [Int.tdiv_eq_ediv_of_nonneg hX]
 refine ⟨Int.ediv_nonneg hX (by omega),?_,Int.ediv_le_self _ hX⟩
 have h2:=Int.emod_lt_of_pos X hY
 have h3:=Int.emod_add_mul_ediv X Y
 rw [Int.mul_comm] at h3
 rw [Int.add_mul,Int.one_mul]
 omega
theorem s72s (ap np mp:Nat) (tp:Nat→Int) (aq nq mq:Nat) (tq:Nat→Int) (hp:ap+np≤mp∧mp≤1000000∧np=nq+1∧2≤nq∧nq≤1000∧aq+nq≤mq∧S.fG np (fun j=>tp (j+ap))=true∧S.fF nq (fun j=>tq (j+aq))=true∧(S.val np (fun j=>tp (j+ap)))<1000000*(S.val nq (fun j=>tq (j+aq)))) (d:Int) (hd0:0≤d∧d<1000000): ∀ (k i:Nat) (c:Int) (R:List Int),i+k=nq→R.length=mp→(∀ j,j<mp→ ¬ (ap≤j∧j<ap+i)→S.at' R j=tp j)→(∀ j,j<i→0≤S.at' R (j+ap)∧S.at' R (j+ap)<1000000)→(-999999≤c∧c≤0)→S.fD (fun j=>S.at' R (j+ap)) 0 i+S.pw i*c=S.fD (fun j=>tp (j+ap)) 0 i-d*S.fD (fun j=>tq (j+aq)) 0 i→
 ∃ (R':List Int) (c':Int),R'.length=mp∧(∀ j,j<mp→ ¬ (ap≤j∧j<ap+nq)→S.at' R' j=tp j)∧(∀ j,j<nq→0≤S.at' R' (j+ap)∧S.at' R' (j+ap)<1000000)∧(-999999≤c'∧c'≤0)∧S.fD (fun j=>S.at' R' (j+ap)) 0 nq+S.pw nq*c'=S.fD (fun j=>tp (j+ap)) 0 nq-d*S.fD (fun j=>tq (j+aq)) 0 nq∧ ∀ res,Comes (q72 ap np mp tp aq nq mq tq) (.h1 d c' nq R') res→Comes (q72 ap np mp tp aq nq mq tq) (.h1 d c i R) res:=by
 obtain ⟨hp1,hp2,rfl,hp4,hp5,hp6,hp7,hp8,hp9⟩:=hp
 have dP:=yO.mp hp7
 have dQ:=(zl.mp hp8).1
 intro k
 induction k with
 |zero=>
  intro i c R hi hR ho hdg hc he
  obtain rfl:i=nq:=by omega
  exact ⟨R,c,hR,ho,hdg,hc,he,fun res h=>h⟩
 | succ k ih=>
  intro i c R hi hR ho hdg hc he
  have a0:=dP i (by omega)
  have b0:=dQ i (by omega)
  (try dsimp only at a0 b0)
  have m1:=uf (x:=d) (y:=tq (i+aq)) hd0 b0
  have eo:=ho (i+ap) (by omega) (by omega)
  have hX: ∃ X,c+(tp (i+ap)-d*tq (i+aq))=X:=⟨_,rfl⟩
  obtain ⟨X,hX⟩:=hX
  by_cases hn:Int.tmod X 1000000<0
  · obtain ⟨f1,f2⟩:=mK hn
    obtain ⟨R',c',r1,r2,r3,r4,r5,r6⟩:=ih (i+1) (Int.tdiv X 1000000-1) (S.fJ mp fun j=>bif Nat.beq j (i+ap) then (Int.tmod X 1000000+1000000) else S.at' R j) (by omega) zW
      (fun j hj hw=>by rw [zw hj,if_neg (by omega)]; exact ho j hj (by omega))
      (fun j hj=>by
       rw [zw (by omega)]
       by_cases hji:j=i
       · subst hji; rw [if_pos rfl]; omega
       · rw [if_neg (by omega)]; exact hdg j (by omega))
      (by omega)
      (by rw [qF (by omega),yS (t:=(fun j=>tp (j+ap))),yS (t:=(fun j=>tq (j+aq))),Nat.zero_add]; exact kn he (by omega))
    refine ⟨R',c',r1,r2,r3,r4,r5,fun res hC=> ?_⟩
    have r6:=r6 res hC
    clear ih he r5 hC
    generalize hM:Int.tmod X 1000000=M at*
    generalize hY:Int.tdiv X 1000000=Y at*
    apply Comes.of
    show zX _ _ _
    rw [q72]
    simp only [Int.toNat_natCast,eo,hX,hM,hY,hR,Nat.beq_refl,cond_true,rI]
    repeat' (first|with_reducible refine zN (fun h=> ?_) (fun h=> ?_)<;>(try simp only [SH] at h)|exact zI.mpr (by omega))
    all_goals first|(exfalso; omega)|exact r6
  · obtain ⟨f1,f2⟩:=lO hn
    obtain ⟨R',c',r1,r2,r3,r4,r5,r6⟩:=ih (i+1) (Int.tdiv X 1000000) (S.fJ mp fun j=>bif Nat.beq j (i+ap) then (Int.tmod X 1000000) else S.at' R j) (by omega) zW
      (fun j hj hw=>by rw [zw hj,if_neg (by omega)]; exact ho j hj (by omega))
      (fun j hj=>by
       rw [zw (by omega)]
       by_cases hji:j=i
       · subst hji; rw [if_pos rfl]; omega
       · rw [if_neg (by omega)]; exact hdg j (by omega))
      (by omega)
      (by rw [qF (by omega),yS (t:=(fun j=>tp (j+ap))),yS (t:=(fun j=>tq (j+aq))),Nat.zero_add]; exact kn he (by omega))
    refine ⟨R',c',r1,r2,r3,r4,r5,fun res hC=> ?_⟩
    have r6:=r6 res hC
    clear ih he r5 hC
    generalize hM:Int.tmod X 1000000=M at*
    generalize hY:Int.tdiv X 1000000=Y at*
    apply Comes.of
    show zX _ _ _
    rw [q72]
    simp only [Int.toNat_natCast,eo,hX,hM,hY,hR,Nat.beq_refl,cond_true,rI]
    repeat' (first|with_reducible refine zN (fun h=> ?_) (fun h=> ?_)<;>(try simp only [SH] at h)|exact zI.mpr (by omega))
    all_goals first|(exfalso; omega)|exact r6
theorem s72p (ap np mp:Nat) (tp:Nat→Int) (aq nq mq:Nat) (tq:Nat→Int) (hp:ap+np≤mp∧mp≤1000000∧np=nq+1∧2≤nq∧nq≤1000∧aq+nq≤mq∧S.fG np (fun j=>tp (j+ap))=true∧S.fF nq (fun j=>tq (j+aq))=true∧(S.val np (fun j=>tp (j+ap)))<1000000*(S.val nq (fun j=>tq (j+aq)))) (d:Int) (R0:List Int) (h0: ∀ j,j<nq→0≤S.at' R0 (j+ap)∧S.at' R0 (j+ap)<1000000): ∀ (k i:Nat) (c:Int) (R:List Int),i+k=nq→R.length=mp→(∀ j,j<mp→ ¬ (ap≤j∧j<ap+i)→S.at' R j=S.at' R0 j)→(∀ j,j<i→0≤S.at' R (j+ap)∧S.at' R (j+ap)<1000000)→(0≤c∧c≤1)→S.fD (fun j=>S.at' R (j+ap)) 0 i+S.pw i*c=S.fD (fun j=>S.at' R0 (j+ap)) 0 i+S.fD (fun j=>tq (j+aq)) 0 i→
 ∃ (R':List Int) (c':Int),R'.length=mp∧(∀ j,j<mp→ ¬ (ap≤j∧j<ap+nq)→S.at' R' j=S.at' R0 j)∧(∀ j,j<nq→0≤S.at' R' (j+ap)∧S.at' R' (j+ap)<1000000)∧(0≤c'∧c'≤1)∧S.fD (fun j=>S.at' R' (j+ap)) 0 nq+S.pw nq*c'=S.fD (fun j=>S.at' R0 (j+ap)) 0 nq+S.fD (fun j=>tq (j+aq)) 0 nq∧ ∀ res,Comes (q72 ap np mp tp aq nq mq tq) (.h2 d c' nq R') res→Comes (q72 ap np mp tp aq nq mq tq) (.h2 d c i R) res:=by
 obtain ⟨hp1,hp2,rfl,hp4,hp5,hp6,hp7,hp8,hp9⟩:=hp
 have dP:=yO.mp hp7
 have dQ:=(zl.mp hp8).1
 intro k
 induction k with
 |zero=>
  intro i c R hi hR ho hdg hc he
  obtain rfl:i=nq:=by omega
  exact ⟨R,c,hR,ho,hdg,hc,he,fun res h=>h⟩
 | succ k ih=>
  intro i c R hi hR ho hdg hc he
  have a0:=h0 i (by omega)
  have b0:=dQ i (by omega)
  (try dsimp only at b0)
  have eo:=ho (i+ap) (by omega) (by omega)
  have hX: ∃ X,c+(S.at' R0 (i+ap)+tq (i+aq))=X:=⟨_,rfl⟩
  obtain ⟨X,hX⟩:=hX
  have f1:=tmB (x:=X) (by omega)
  have f2:=tdB (x:=X) (by omega)
  obtain ⟨R',c',r1,r2,r3,r4,r5,r6⟩:=ih (i+1) (Int.tdiv X 1000000) (S.fJ mp fun j=>bif Nat.beq j (i+ap) then Int.tmod X 1000000 else S.at' R j) (by omega) zW
      (fun j hj hw=>by rw [zw hj,if_neg (by omega)]; exact ho j hj (by omega))
      (fun j hj=>by
       rw [zw (by omega)]
       by_cases hji:j=i
       · subst hji; rw [if_pos rfl]; omega
       · rw [if_neg (by omega)]; exact hdg j (by omega))
      (by omega)
      (by rw [qF (by omega),yS (t:=fun j=>S.at' R0 (j+ap)),yS (t:=(fun j=>tq (j+aq))),Nat.zero_add]; exact iK he (by omega))
  refine ⟨R',c',r1,r2,r3,r4,r5,fun res hC=> ?_⟩
  have r6:=r6 res hC
  clear ih he r5 hC
  generalize hM:Int.tmod X 1000000=M at*
  generalize hY:Int.tdiv X 1000000=Y at*
  apply Comes.of
  show zX _ _ _
  rw [q72]
  simp only [Int.toNat_natCast,eo,hX,hM,hY,hR,Nat.beq_refl,cond_true]
  repeat' (first|with_reducible refine zN (fun h=> ?_) (fun h=> ?_)<;>(try simp only [SH] at h)|exact zI.mpr (by omega))
  all_goals first|(exfalso; omega)|exact r6
theorem s72d (ap np mp:Nat) (tp:Nat→Int) (aq nq mq:Nat) (tq:Nat→Int) (hp:ap+np≤mp∧mp≤1000000∧np=nq+1∧2≤nq∧nq≤1000∧aq+nq≤mq∧S.fG np (fun j=>tp (j+ap))=true∧S.fF nq (fun j=>tq (j+aq))=true∧(S.val np (fun j=>tp (j+ap)))<1000000*(S.val nq (fun j=>tq (j+aq)))) (d:Int) (hq:(S.val np (fun j=>tp (j+ap))) / (S.val nq (fun j=>tq (j+aq)))≤d∧d≤(S.val np (fun j=>tp (j+ap))) / (S.val nq (fun j=>tq (j+aq)))+1) (h9:d≤999999):Comes (q72 ap np mp tp aq nq mq tq) (.h1 d 0 0 (S.fJ mp fun j=>tp j)) ((S.val np (fun j=>tp (j+ap))) / (S.val nq (fun j=>tq (j+aq))),S.fJ mp fun j=>S.winD tp ap np ((S.val np (fun j=>tp (j+ap))) % (S.val nq (fun j=>tq (j+aq)))) j):=by
 have hp':=hp
 obtain ⟨hp1,hp2,rfl,hp4,hp5,hp6,hp7,hp8,hp9⟩:=hp
 have dP:=yO.mp hp7
 have dQ:=(zl.mp hp8).1
 have vp:=ya hp8 (by omega)
 have up:=yU hp7
 have q0:0≤(S.val (nq+1) (fun j=>tp (j+ap))) / (S.val nq (fun j=>tq (j+aq))):=Int.ediv_nonneg up (by omega)
 obtain ⟨R,c,r1,r2,r3,r4,r5,r6⟩:=s72s ap (nq+1) mp tp aq nq mq tq hp' d (by omega) nq 0 0 (S.fJ mp fun j=>tp j) (by omega) zW (fun j hj _=>y7 hj) (fun j hj=>by omega) (by omega) (by simp only [S.fD]; omega)
 have hw:=xJ (k:=nq)
 have hV:S.fD (fun j=>tq (j+aq)) 0 nq=(S.val nq (fun j=>tq (j+aq))):=rfl
 have hU:(S.val (nq+1) (fun j=>tp (j+ap)))=S.fD (fun j=>tp (j+ap)) 0 nq+S.pw nq*tp (nq+ap):=by
  show S.fD (fun j=>tp (j+ap)) 0 (nq+1)=_
  rw [yS,Nat.zero_add]
 have vlt:=yF (zj hp8) (Nat.le_refl nq)
 have x0:=yI (t:=fun j=>S.at' R (j+ap)) (k:=nq) (i:=0) fun j _ h=>(r3 j (by omega)).1
 have x1:=yw (t:=fun j=>S.at' R (j+ap)) (k:=nq) (i:=0) fun j _ h=>r3 j (by omega)
 have eo:=r2 (nq+ap) (by omega) (by omega)
 have b2:=dP nq (by omega)
 (try dsimp only at b2)
 have hm0:=Int.emod_nonneg (S.val (nq+1) (fun j=>tp (j+ap))) (show (S.val nq (fun j=>tq (j+aq)))≠0 by omega)
 have hm1:=Int.emod_lt_of_pos (S.val (nq+1) (fun j=>tp (j+ap))) vp
 have hmd:=Int.emod_add_mul_ediv (S.val (nq+1) (fun j=>tp (j+ap))) (S.val nq (fun j=>tq (j+aq)))
 rw [Int.mul_comm] at hmd
 have tot:S.fD (fun j=>S.at' R (j+ap)) 0 nq+S.pw nq*(tp (nq+ap)+c)=(S.val (nq+1) (fun j=>tp (j+ap)))-d*(S.val nq (fun j=>tq (j+aq))):=by
  rw [Int.mul_add,hU,← hV]
  omega
 apply r6
 by_cases ht:0≤tp (nq+ap)+c
 · have t0:0≤S.pw nq*(tp (nq+ap)+c):=Int.mul_nonneg (by omega) ht
   have hdq:d=(S.val (nq+1) (fun j=>tp (j+ap))) / (S.val nq (fun j=>tq (j+aq))):=by
    have:=(Int.le_ediv_iff_mul_le vp).mpr (show d*(S.val nq (fun j=>tq (j+aq)))≤(S.val (nq+1) (fun j=>tp (j+ap))) by omega)
    omega
   rw [hdq] at tot
   have hz:=pF (T:=tp (nq+ap)+c) hw ⟨x0,x1⟩ (by omega) (V:=(S.val nq (fun j=>tq (j+aq)))) (by omega) (by omega)
   rw [hz,Int.mul_zero] at tot
   have hL:(S.fJ mp fun j=>bif Nat.beq j (nq+ap) then tp (nq+ap)+c else S.at' R j)=S.fJ mp fun j=>S.winD tp ap (nq+1) ((S.val (nq+1) (fun j=>tp (j+ap))) % (S.val nq (fun j=>tq (j+aq)))) j:=by
    refine ph zW hp1 (fun j hj hn=> ?_) (fun j hj=> ?_) ?_ ?_
    · rw [zw hj,if_neg (by omega)]; exact r2 j hj (by omega)
    · rw [zw (by omega),if_neg (by omega)]; exact r3 j hj
    · rw [zw (by omega),if_pos rfl]; exact hz
    · rw [yA (u:=fun j=>S.at' R (j+ap)) fun j h1 h2=>by rw [zw (by omega),if_neg (by omega)]]; omega
   rw [← hL,← hdq]
   clear tot hU hmd hL r5
   apply Comes.of
   show zX _ _ _
   rw [q72]
   simp only [Int.toNat_natCast,eo,r1,Nat.beq_refl,cond_true]
   repeat' (first|with_reducible refine zN (fun h=> ?_) (fun h=> ?_)<;>(try simp only [SH] at h)|exact zI.mpr (by omega))
   all_goals first|(exfalso; omega)|exact zG.mpr rfl
 · have t0:S.pw nq*(tp (nq+ap)+c)≤S.pw nq*(-1):=Int.mul_le_mul_of_nonneg_left (by omega) (by omega)
   have hdq:d=(S.val (nq+1) (fun j=>tp (j+ap))) / (S.val nq (fun j=>tq (j+aq)))+1:=by
    have:=(Int.ediv_lt_iff_lt_mul vp).mpr (show (S.val (nq+1) (fun j=>tp (j+ap)))<d*(S.val nq (fun j=>tq (j+aq))) by omega)
    omega
   have g0: ∀ j,j<nq→0≤S.at' (S.fJ mp fun j=>bif Nat.beq j (nq+ap) then tp (nq+ap)+c else S.at' R j) (j+ap)∧S.at' (S.fJ mp fun j=>bif Nat.beq j (nq+ap) then tp (nq+ap)+c else S.at' R j) (j+ap)<1000000:=fun j hj=>by
    rw [zw (by omega),if_neg (by omega)]; exact r3 j hj
   have g1:S.fD (fun j=>S.at' (S.fJ mp fun j=>bif Nat.beq j (nq+ap) then tp (nq+ap)+c else S.at' R j) (j+ap)) 0 nq=S.fD (fun j=>S.at' R (j+ap)) 0 nq:=yA fun j h1 h2=>by rw [zw (by omega),if_neg (by omega)]
   obtain ⟨R',c',w1,w2,w3,w4,w5,w6⟩:=s72p ap (nq+1) mp tp aq nq mq tq hp' d _ g0 nq 0 0 (S.fJ mp fun j=>bif Nat.beq j (nq+ap) then tp (nq+ap)+c else S.at' R j) (by omega) zW (fun j hj _=>rfl) (fun j hj=>by omega) (by omega) (by simp only [S.fD]; omega)
   rw [g1] at w5
   have eo':=w2 (nq+ap) (by omega) (by omega)
   rw [zw (by omega),if_pos rfl] at eo'
   have y0:=yI (t:=fun j=>S.at' R' (j+ap)) (k:=nq) (i:=0) fun j _ h=>(w3 j (by omega)).1
   have y1:=yw (t:=fun j=>S.at' R' (j+ap)) (k:=nq) (i:=0) fun j _ h=>w3 j (by omega)
   rw [hdq,Int.add_mul,Int.one_mul] at tot
   have tot2:S.fD (fun j=>S.at' R' (j+ap)) 0 nq+S.pw nq*(tp (nq+ap)+c+c')=(S.val (nq+1) (fun j=>tp (j+ap))) % (S.val nq (fun j=>tq (j+aq))):=by
    rw [Int.mul_add]
    omega
   have hz:=pF (T:=tp (nq+ap)+c+c') hw ⟨y0,y1⟩ (by omega) (V:=(S.val nq (fun j=>tq (j+aq)))) (by omega) (by omega)
   rw [hz,Int.mul_zero] at tot2
   have hL:(S.fJ mp fun j=>bif Nat.beq j (nq+ap) then tp (nq+ap)+c+c' else S.at' R' j)=S.fJ mp fun j=>S.winD tp ap (nq+1) ((S.val (nq+1) (fun j=>tp (j+ap))) % (S.val nq (fun j=>tq (j+aq)))) j:=by
    refine ph zW hp1 (fun j hj hn=> ?_) (fun j hj=> ?_) ?_ ?_
    · rw [zw hj,if_neg (by omega),w2 j hj (by omega),zw hj,if_neg (by omega)]; exact r2 j hj (by omega)
    · rw [zw (by omega),if_neg (by omega)]; exact w3 j hj
    · rw [zw (by omega),if_pos rfl]; exact hz
    · rw [yA (u:=fun j=>S.at' R' (j+ap)) fun j h1 h2=>by rw [zw (by omega),if_neg (by omega)]]; omega
   have hq1:(S.val (nq+1) (fun j=>tp (j+ap))) / (S.val nq (fun j=>tq (j+aq)))=d-1:=by omega
   rw [← hL,hq1]
   have hE:Comes (q72 ap (nq+1) mp tp aq nq mq tq) (.h2 d c' nq R') (d-1,S.fJ mp fun j=>bif Nat.beq j (nq+ap) then tp (nq+ap)+c+c' else S.at' R' j):=by
    clear tot tot2 hU hmd hL r5 w5
    apply Comes.of
    show zX _ _ _
    rw [q72]
    simp only [Int.toNat_natCast,eo',w1,Nat.beq_refl,cond_true]
    repeat' (first|with_reducible refine zN (fun h=> ?_) (fun h=> ?_)<;>(try simp only [SH] at h)|exact zI.mpr (by omega))
    all_goals first|(exfalso; omega)|exact zG.mpr rfl
   have hE:=w6 _ hE
   clear tot tot2 hU hmd hL r5 w5
   apply Comes.of
   show zX _ _ _
   rw [q72]
   simp only [Int.toNat_natCast,eo,r1,Nat.beq_refl,cond_true]
   repeat' (first|with_reducible refine zN (fun h=> ?_) (fun h=> ?_)<;>(try simp only [SH] at h)|exact zI.mpr (by omega))
   all_goals first|(exfalso; omega)|exact hE
theorem s72 (ap np mp:Nat) (tp:Nat→Int) (aq nq mq:Nat) (tq:Nat→Int) (hp:ap+np≤mp∧mp≤1000000∧np=nq+1∧2≤nq∧nq≤1000∧aq+nq≤mq∧S.fG np (fun j=>tp (j+ap))=true∧S.fF nq (fun j=>tq (j+aq))=true∧(S.val np (fun j=>tp (j+ap)))<1000000*(S.val nq (fun j=>tq (j+aq)))):zX ((q72 ap np mp tp aq nq mq tq)) ((p72 ap np mp tp aq nq mq tq)) (((S.val np (fun j=>tp (j+ap))) / (S.val nq (fun j=>tq (j+aq))),S.fJ mp fun j=>S.winD tp ap np ((S.val np (fun j=>tp (j+ap))) % (S.val nq (fun j=>tq (j+aq)))) j)):=by
 have hp':=hp
 obtain ⟨hp1,hp2,rfl,hp4,hp5,hp6,hp7,hp8,hp9⟩:=hp
 have dP:=yO.mp hp7
 have dQ:=(zl.mp hp8).1
 have vp:=ya hp8 (by omega)
 have up:=yU hp7
 have q0:0≤(S.val (nq+1) (fun j=>tp (j+ap))) / (S.val nq (fun j=>tq (j+aq))):=Int.ediv_nonneg up (by omega)
 have q9:(S.val (nq+1) (fun j=>tp (j+ap))) / (S.val nq (fun j=>tq (j+aq)))<1000000:=(Int.ediv_lt_iff_lt_mul vp).mpr hp9
 have hm:=fun (d:Int) (h:(S.val (nq+1) (fun j=>tp (j+ap))) / (S.val nq (fun j=>tq (j+aq)))≤d) (h9:d≤999999)=>s72h ap (nq+1) mp tp aq nq mq tq hp' d.toNat d (Nat.le_refl _) h h9 (fun d a1 a2 a3=>s72d ap (nq+1) mp tp aq nq mq tq hp' d ⟨a1,a2⟩ a3)
 have hV:(S.val nq (fun j=>tq (j+aq)))=S.fD (fun j=>tq (j+aq)) 0 (nq-1)+S.pw (nq-1)*tq (nq-1+aq):=by
  show S.fD (fun j=>tq (j+aq)) 0 nq=_
  have:=yS (t:=(fun j=>tq (j+aq))) (i:=0) (k:=nq-1)
  rw [show nq-1+1=nq by omega,Nat.zero_add] at this
  exact this
 have hU:(S.val (nq+1) (fun j=>tp (j+ap)))=S.fD (fun j=>tp (j+ap)) 0 (nq-1)+S.pw (nq-1)*(tp (nq-1+ap)+1000000*tp (nq+ap)):=by
  show S.fD (fun j=>tp (j+ap)) 0 (nq+1)=_
  have:=yg (t:=(fun j=>tp (j+ap))) (i:=0) (a:=nq-1) (b:=2)
  rw [show nq-1+2=nq+1 by omega,Nat.zero_add] at this
  simp only [S.fD] at this
  rw [show nq-1+1=nq by omega,Int.mul_zero,Int.add_zero] at this
  exact this
 have lv0:=yI (t:=(fun j=>tq (j+aq))) (k:=nq-1) (i:=0) fun j _ h=>(dQ j (by omega)).1
 have lu1:=yw (t:=(fun j=>tp (j+ap))) (k:=nq-1) (i:=0) fun j _ h=>dP j (by omega)
 have hw:=xJ (k:=nq-1)
 have a1:=dQ (nq-1) (by omega)
 have b1:=dP (nq-1) (by omega)
 have b2:=dP nq (by omega)
 (try dsimp only at a1 b1 b2)
 have l1:tq (nq-1+aq)≠0:=by
  have:=(zl.mp hp8).2
  rcases this with h|h
  · omega
  · exact h
 have td:=nP (X:=tp (nq+ap)*1000000+tp (nq-1+ap)) (Y:=tq (nq-1+aq)) (by omega) (by omega)
 have hd:(S.val (nq+1) (fun j=>tp (j+ap))) / (S.val nq (fun j=>tq (j+aq)))≤Int.tdiv (tp (nq+ap)*1000000+tp (nq-1+ap)) (tq (nq-1+aq)):=by
  obtain ⟨t1,t2,-⟩:=td
  have c1:tq (nq-1+aq)*S.pw (nq-1)=S.pw (nq-1)*tq (nq-1+aq):=Int.mul_comm _ _
  have c2:(tp (nq+ap)*1000000+tp (nq-1+ap)+1)*S.pw (nq-1)=S.pw (nq-1)*(tp (nq-1+ap)+1000000*tp (nq+ap))+S.pw (nq-1):=by
   rw [Int.add_mul,Int.one_mul,Int.mul_comm]; congr 2; omega
  have k1:=pV (d:=Int.tdiv (tp (nq+ap)*1000000+tp (nq-1+ap)) (tq (nq-1+aq))+1) (v:=tq (nq-1+aq)) (t:=tp (nq+ap)*1000000+tp (nq-1+ap)) (U:=(S.val (nq+1) (fun j=>tp (j+ap)))) (V:=(S.val nq (fun j=>tq (j+aq)))) hw (by rw [hV,c1]; omega) (by rw [hU,c2]; omega) (by omega) t2
  have:=(Int.ediv_lt_iff_lt_mul vp).mpr k1
  omega
 obtain ⟨t1,t2,t3⟩:=td
 have hm:=hm (min (Int.tdiv (tp (nq+ap)*1000000+tp (nq-1+ap)) (tq (nq-1+aq))) 999999) (by omega) (by omega)
 have e1:((nq:Int)-1).toNat=nq-1:=by omega
 clear hV hU hd t2
 generalize hT:Int.tdiv (tp (nq+ap)*1000000+tp (nq-1+ap)) (tq (nq-1+aq))=T at*
 show zX _ _ _
 unfold p72
 simp only [e1,hT]
 repeat' (first|with_reducible refine zN (fun h=> ?_) (fun h=> ?_)<;>(try simp only [SH] at h)|exact zI.mpr (by omega))
 all_goals first|(exfalso; omega)|exact hm
theorem k72_ok:k72.ok Tryz.prog:=by
 intro x hx
 obtain ⟨⟨ap,np,mp,tp,_⟩,⟨aq,nq,mq,tq,_⟩,_⟩:=x
 obtain ⟨h1,h2⟩:=a72 ap np mp tp aq nq mq tq (s72 ap np mp tp aq nq mq tq (zo hx rfl))
 exact ⟨⟨400,(by decide:2+1+0≤400),h1⟩,h2⟩
noncomputable def xF2 (g9:Bool→Prop→Prop→Prop):Ext:=xK g9 [k69,k65,k69v,k65v,k60,k61,k44,k73,k55,k45,k58,k56,k59,k52,k53,k71,k74,k77,k72]
theorem iv:yZ Tryz.prog (xF2 cond):=yN ⟨k69_ok,k65_ok,k69v_ok,k65v_ok,k60_ok,k61_ok,k44_ok,k73_ok,k55_ok,k45_ok,k58_ok,k56_ok,k59_ok,k52_ok,k53_ok,k71_ok,k74_ok,k77_ok,k72_ok,trivial⟩
theorem k8 {n:Nat} {f:Nat→Int}:(S.fJ n fun j=>S.at' (S.fJ n f) j)=S.fJ n f:=xk fun j hj=>y7 hj
theorem qI {m a n j:Nat} {t:Nat→Int} {v:Int} (hj:j<m):S.at' (S.fJ m fun j=>S.winD t a n v j) j=if a≤j∧j<a+n then S.at' (S.fX v) (j-a) else t j:=y7 hj
theorem qi {v:Int} {j:Nat}:0≤S.at' (S.fX v) j∧S.at' (S.fX v) j<1000000:=by
 by_cases h:j<(S.fX v).length
 · rw [tT h]; exact qH _ (List.getElem_mem _)
 · have e:S.at' (S.fX v) j=0:=by
    simp [S.at',List.getElem?_eq_none (Nat.le_of_not_lt h)]
   rw [e]; omega
theorem uT: ∀ {k:Nat} {v:Int},0≤v→v<S.pw k→S.fD (fun j=>S.at' (S.fX v) j) 0 k=v
  |0,v,h0,h1=>by
   have h1:v<1:=h1
   simp only [S.fD]; omega
  | k + 1,v,h0,h1=>by
   have h1:v<1000000*S.pw k:=h1
   by_cases hp:0<v
   · have ih:=uT (k:=k) (v:=v / 1000000) (by omega) (by omega)
     rw [xO hp]
     simp only [S.fD]
     rw [show (0:Nat)+1=0+1 from rfl,← wI (a:=1) (i:=0)]
     have e:(fun j=>S.at' (v % 1000000::S.fX (v / 1000000)) (j+1))=fun j=>S.at' (S.fX (v / 1000000)) j:=by
      funext j
      simp [S.at']
     rw [e,ih]
     show v % 1000000+1000000*(v / 1000000)=v
     omega
   · obtain rfl:v=0:=by omega
     rw [z8]
     exact wl fun j _ _=>by simp [S.at']
theorem kF {v:Int} {k:Nat} (h:S.pw k≤v):k<(S.fX v).length:=by
 refine Nat.not_le.mp fun hl=> ?_
 have h0:=ud (v:=v) (by have:=xJ (k:=k); omega)
 rw [← vE] at h0
 have h1:=yF (zj (yH (v:=v))) hl
 omega
theorem jJ {A P U V q r Wo T:Int} (h:U=q*V+r) (he:A+P*U+1000000*P*Wo*V=T):A+P*r+P*(q+1000000*Wo)*V=T:=by
 subst h
 grind
theorem i5 {X W Q s T:Int} (h:X+W*(Q*s)=T*s):X=(T-W*Q)*s:=by grind
section
variable (g9:TT) (fA:KS) (fC:KR) (ap np mp:Nat) (tp:NI) (aq nq mq:Nat) (tq:NI)
inductive St54 where
 |h0 (x0:Int) (x1:List Int) (x2:List Int) (x3:List Int) (x4:List Int)
abbrev Rt54:=List Int×List Int
noncomputable def V54 (r:Rt54):PV:= .tup [.own 4 1 r.2.length,.own 3 1 r.1.length]
noncomputable def N54 (r:Rt54):List Blk:= [CI r.1,CI r.2]
noncomputable def I54:St54→Hd
  | .h0 x0 x1 x2 x3 x4=>⟨hd Tryz.f114 0,[.own 2 1 x1.length,.own 3 1 x2.length,
 .own 4 1 x3.length,.own 5 1 x4.length,
 .int .i64 x0],[[(2,(true,CI x1)),(3,(true,CI x2)),(4,(true,CI x3)),(5,(true,CI x4))],[(0,(false,CB mp tp)),(1,(false,CB mq tq))]],6⟩
noncomputable def q54 (ap np mp:Nat) (tp:NI) (aq nq mq:Nat) (tq:NI):St54→Option (St54⊕Rt54)| .h0 x0 x1 x2 x3 x4=>bif (decide (x0≥0)) then (bif (lim .i64 (x0+(↑(x3.length):Int))) then (bif (lim .i64 (x0+(↑(x3.length):Int)+1)) then (bif (decide ((0:Int)≤x0∧x0≤x0+(↑(x3.length):Int)+1∧x0+(↑(x3.length):Int)+1≤(↑(x2.length):Int))) then (bif (decide (x0.toNat+((x0+(↑(x3.length):Int)+1).toNat-x0.toNat)≤x2.length∧x2.length≤1000000∧(x0+(↑(x3.length):Int)+1).toNat-x0.toNat=x3.length+1∧2≤x3.length∧x3.length≤1000∧0+x3.length≤x3.length∧(S.fG ((x0+(↑(x3.length):Int)+1).toNat-x0.toNat) fun j=>S.at' x2 (j+x0.toNat))=true∧(S.fF x3.length fun j=>S.at' x3 j)=true∧(S.val ((x0+(↑(x3.length):Int)+1).toNat-x0.toNat) fun j=>S.at' x2 (j+x0.toNat))<1000000*S.val x3.length fun j=>S.at' x3 j)) then (bif (decide ((0:Int)≤x0∧x0<(↑(x4.length):Int))) then (bif (decide (x0.toNat<x4.length)) then (bif (lim .i64 (x0-1)) then (some (.inl (.h0 (x0-1) x1 (S.fJ x2.length fun j=>S.at' (S.fJ x2.length fun j=>S.winD (fun j=>S.at' x2 j) x0.toNat ((x0+(↑(x3.length):Int)+1).toNat-x0.toNat) ((S.val ((x0+(↑(x3.length):Int)+1).toNat-x0.toNat) fun j=>S.at' x2 (j+x0.toNat)) % S.val x3.length fun j=>S.at' x3 j) j) j) x3 (S.fJ x4.length fun j=>bif Nat.beq j x0.toNat then (S.val ((x0+(↑(x3.length):Int)+1).toNat-x0.toNat) fun j=>S.at' x2 (j+x0.toNat)) / S.val x3.length fun j=>S.at' x3 j else S.at' x4 j)))) else none) else none) else none) else none) else none) else none) else none) else (bif (decide (x2.length≤x2.length)) then (bif (decide (x2.length≤1000000)) then (bif (decide ((0:Int)≤0∧(0:Int)<(↑(x1.length):Int))) then (bif (decide (0<x1.length)) then (bif (decide (0+(S.trim (S.fJ x2.length fun j=>S.at' x2 j)).length≤(S.trim (S.fJ x2.length fun j=>S.at' x2 j)).length∧(S.trim (S.fJ x2.length fun j=>S.at' x2 j)).length≤1000∧(S.fG (S.trim (S.fJ x2.length fun j=>S.at' x2 j)).length fun j=>S.at' (S.trim (S.fJ x2.length fun j=>S.at' x2 j)) j)=true∧(0:Int)<S.at' x1 0∧S.at' x1 0≤1000000)) then (bif (decide (x4.length≤x4.length)) then (bif (decide (x4.length≤1000000)) then (some (.inr (S.fX ((S.val (S.trim (S.fJ x2.length fun j=>S.at' x2 j)).length fun j=>S.at' (S.trim (S.fJ x2.length fun j=>S.at' x2 j)) j) / S.at' x1 0),S.trim (S.fJ x4.length fun j=>S.at' x4 j)))) else none) else none) else none) else none) else none) else none) else none)
noncomputable def p54 (ap np mp:Nat) (tp:NI) (aq nq mq:Nat) (tq:NI):Option (St54⊕Rt54):=bif (decide (ap+np≤mp∧np≤1000000∧aq+nq≤mq∧nq≤1000000∧(S.fF np fun j=>tp (j+ap))=true∧(S.fF nq fun j=>tq (j+aq))=true)) then (bif (decide (S.fV (S.val np fun j=>tp (j+ap)) (S.val nq fun j=>tq (j+aq))<0)) then (bif (decide (ap+np≤mp∧np≤1000000)) then (some (.inr (S.fJ np fun j=>tp (j+ap),[]))) else none) else (bif ((nq:Int)==1) then (bif (decide ((0:Int)≤0∧(0:Int)<(nq:Int))) then (bif (decide (0+aq<mq)) then (bif (decide (ap+np≤mp∧np≤1000∧(S.fG np fun j=>tp (j+ap))=true∧(0:Int)<tq (0+aq)∧tq (0+aq)≤1000000)) then (bif (decide ((0:Int)≤IntKind.wrap .u64 ((S.val np fun j=>tp (j+ap)) % tq (0+aq))∧IntKind.wrap .u64 ((S.val np fun j=>tp (j+ap)) % tq (0+aq))≤9223372036854775808)) then (some (.inr (S.fX (IntKind.wrap .u64 ((S.val np fun j=>tp (j+ap)) % tq (0+aq))),S.fX ((S.val np fun j=>tp (j+ap)) / tq (0+aq))))) else none) else none) else none) else none) else (bif (lim .i64 ((nq:Int)-1)) then (bif (decide ((0:Int)≤(nq:Int)-1∧(nq:Int)-1<(nq:Int))) then (bif (decide (((nq:Int)-1).toNat+aq<mq)) then (bif (lim .i64 (tq (((nq:Int)-1).toNat+aq)+1)) then (bif (decide (tq (((nq:Int)-1).toNat+aq)+1=0)) then none else (bif (lim .i64 (Int.tdiv (1000000:Int) (tq (((nq:Int)-1).toNat+aq)+1))) then (bif (decide ((ap+np≤mp∧1≤1)∧(np≤1000∧1≤1000)∧(S.fF np fun j=>tp (j+ap))=true∧(S.fF 1 fun j=>S.lit [Int.tdiv (1000000:Int) (tq (((nq:Int)-1).toNat+aq)+1)] (0:Int) j)=true)) then (bif (decide ((S.fX ((S.val np fun j=>tp (j+ap))*S.val 1 fun j=>S.lit [Int.tdiv (1000000:Int) (tq (((nq:Int)-1).toNat+aq)+1)] (0:Int) j)).length+1≤1000000)) then (bif (decide ((S.fX ((S.val np fun j=>tp (j+ap))*S.val 1 fun j=>S.lit [Int.tdiv (1000000:Int) (tq (((nq:Int)-1).toNat+aq)+1)] (0:Int) j)).length≤(S.fX ((S.val np fun j=>tp (j+ap))*S.val 1 fun j=>S.lit [Int.tdiv (1000000:Int) (tq (((nq:Int)-1).toNat+aq)+1)] (0:Int) j)).length)) then (bif (decide ((aq+nq≤mq∧1≤1)∧(nq≤1000∧1≤1000)∧(S.fF nq fun j=>tq (j+aq))=true∧(S.fF 1 fun j=>S.lit [Int.tdiv (1000000:Int) (tq (((nq:Int)-1).toNat+aq)+1)] (0:Int) j)=true)) then (bif (lim .i64 ((↑((S.fX ((S.val np fun j=>tp (j+ap))*S.val 1 fun j=>S.lit [Int.tdiv (1000000:Int) (tq (((nq:Int)-1).toNat+aq)+1)] (0:Int) j)).length+1):Int)-(↑((S.fX ((S.val nq fun j=>tq (j+aq))*S.val 1 fun j=>S.lit [Int.tdiv (1000000:Int) (tq (((nq:Int)-1).toNat+aq)+1)] (0:Int) j)).length):Int))) then (bif (decide ((0:Int)≤(↑((S.fX ((S.val np fun j=>tp (j+ap))*S.val 1 fun j=>S.lit [Int.tdiv (1000000:Int) (tq (((nq:Int)-1).toNat+aq)+1)] (0:Int) j)).length+1):Int)-(↑((S.fX ((S.val nq fun j=>tq (j+aq))*S.val 1 fun j=>S.lit [Int.tdiv (1000000:Int) (tq (((nq:Int)-1).toNat+aq)+1)] (0:Int) j)).length):Int)∧(↑((S.fX ((S.val np fun j=>tp (j+ap))*S.val 1 fun j=>S.lit [Int.tdiv (1000000:Int) (tq (((nq:Int)-1).toNat+aq)+1)] (0:Int) j)).length+1):Int)-(↑((S.fX ((S.val nq fun j=>tq (j+aq))*S.val 1 fun j=>S.lit [Int.tdiv (1000000:Int) (tq (((nq:Int)-1).toNat+aq)+1)] (0:Int) j)).length):Int)≤(↑((S.fX ((S.val np fun j=>tp (j+ap))*S.val 1 fun j=>S.lit [Int.tdiv (1000000:Int) (tq (((nq:Int)-1).toNat+aq)+1)] (0:Int) j)).length+1):Int)-(↑((S.fX ((S.val nq fun j=>tq (j+aq))*S.val 1 fun j=>S.lit [Int.tdiv (1000000:Int) (tq (((nq:Int)-1).toNat+aq)+1)] (0:Int) j)).length):Int)∧(↑((S.fX ((S.val np fun j=>tp (j+ap))*S.val 1 fun j=>S.lit [Int.tdiv (1000000:Int) (tq (((nq:Int)-1).toNat+aq)+1)] (0:Int) j)).length+1):Int)-(↑((S.fX ((S.val nq fun j=>tq (j+aq))*S.val 1 fun j=>S.lit [Int.tdiv (1000000:Int) (tq (((nq:Int)-1).toNat+aq)+1)] (0:Int) j)).length):Int)≤1000000)) then (bif (lim .i64 ((↑(((↑((S.fX ((S.val np fun j=>tp (j+ap))*S.val 1 fun j=>S.lit [Int.tdiv (1000000:Int) (tq (((nq:Int)-1).toNat+aq)+1)] (0:Int) j)).length+1):Int)-(↑((S.fX ((S.val nq fun j=>tq (j+aq))*S.val 1 fun j=>S.lit [Int.tdiv (1000000:Int) (tq (((nq:Int)-1).toNat+aq)+1)] (0:Int) j)).length):Int)).toNat):Int)-1)) then (some (.inl (.h0 ((↑(((↑((S.fX ((S.val np fun j=>tp (j+ap))*S.val 1 fun j=>S.lit [Int.tdiv (1000000:Int) (tq (((nq:Int)-1).toNat+aq)+1)] (0:Int) j)).length+1):Int)-(↑((S.fX ((S.val nq fun j=>tq (j+aq))*S.val 1 fun j=>S.lit [Int.tdiv (1000000:Int) (tq (((nq:Int)-1).toNat+aq)+1)] (0:Int) j)).length):Int)).toNat):Int)-1) ([Int.tdiv (1000000:Int) (tq (((nq:Int)-1).toNat+aq)+1)]) (S.fI (S.fX ((S.val np fun j=>tp (j+ap))*S.val 1 fun j=>S.lit [Int.tdiv (1000000:Int) (tq (((nq:Int)-1).toNat+aq)+1)] (0:Int) j)) (0:Int)) (S.fX ((S.val nq fun j=>tq (j+aq))*S.val 1 fun j=>S.lit [Int.tdiv (1000000:Int) (tq (((nq:Int)-1).toNat+aq)+1)] (0:Int) j)) (S.fJ ((↑((S.fX ((S.val np fun j=>tp (j+ap))*S.val 1 fun j=>S.lit [Int.tdiv (1000000:Int) (tq (((nq:Int)-1).toNat+aq)+1)] (0:Int) j)).length+1):Int)-(↑((S.fX ((S.val nq fun j=>tq (j+aq))*S.val 1 fun j=>S.lit [Int.tdiv (1000000:Int) (tq (((nq:Int)-1).toNat+aq)+1)] (0:Int) j)).length):Int)).toNat fun j=>0)))) else none) else none) else none) else none) else none) else none) else none) else none)) else none) else none) else none) else none))) else none
noncomputable abbrev u54_e_0:=S.fX ((S.val np fun j=>tp (j+ap))*S.val 1 fun j=>S.lit [Int.tdiv (1000000:Int) (tq (((nq:Int)-(1:Int)).toNat+aq)+(1:Int))] (0:Int) j)
noncomputable abbrev u54_e_1:=S.fX ((S.val nq fun j=>tq (j+aq))*S.val 1 fun j=>S.lit [Int.tdiv (1000000:Int) (tq (((nq:Int)-(1:Int)).toNat+aq)+(1:Int))] (0:Int) j)
noncomputable abbrev u54_e_2:=(↑((u54_e_0 ap np tp aq nq tq).length+1):Int)-(↑((u54_e_1 aq nq tq).length):Int)
def Te54:Prop:=g9 (decide (ap+np≤mp∧np≤1000000∧aq+nq≤mq∧nq≤1000000∧(S.fF np (FS tp ap))=true∧(S.fF nq (FS tq aq))=true)) (g9 (decide (S.fV (S.val np (FS tp ap)) (S.val nq (FS tq aq))<0)) (g9 (decide (ap+np≤mp∧np≤1000000)) (fC (.tup [.nils,.own 4 1 np]) ([[(1,false,CB mq tq),(0,false,CB mp tp),(4,true,.cols np [.int .i64 fun j=>tp (j+ap)])]]) 5) False) (g9 ((nq:Int)==1) (g9 (decide ((0:Int)≤0∧(0:Int)<(nq:Int))) (g9 (decide (0+aq<mq)) (g9 (decide (ap+np≤mp∧np≤1000∧(S.fG np (FS tp ap))=true∧(0:Int)<tq (0+aq)∧tq (0+aq)≤1000000)) (g9 (decide ((0:Int)≤IntKind.wrap .u64 ((S.val np (FS tp ap)) % tq (0+aq))∧IntKind.wrap .u64 ((S.val np (FS tp ap)) % tq (0+aq))≤9223372036854775808)) (fC (.tup [.own 4 1 (S.fX ((S.val np (FS tp ap)) / tq (0+aq))).length,.own 6 1 (S.fX (IntKind.wrap .u64 ((S.val np (FS tp ap)) % tq (0+aq)))).length]) ([[(1,false,CB mq tq),(0,false,CB mp tp),(6,true,CI (S.fX (IntKind.wrap .u64 ((S.val np (FS tp ap)) % tq (0+aq))))),(4,true,CI (S.fX ((S.val np (FS tp ap)) / tq (0+aq))))]]) 7) False) False) False) False) (g9 (lim .i64 ((nq:Int)-1)) (g9 (decide ((0:Int)≤(nq:Int)-1∧(nq:Int)-1<(nq:Int))) (g9 (decide (((nq:Int)-1).toNat+aq<mq)) (g9 (lim .i64 (tq (((nq:Int)-1).toNat+aq)+1)) (g9 (decide (tq (((nq:Int)-1).toNat+aq)+1=0)) False (g9 (lim .i64 (Int.tdiv (1000000:Int) (tq (((nq:Int)-1).toNat+aq)+1))) (g9 (decide ((ap+np≤mp∧1≤1)∧(np≤1000∧1≤1000)∧(S.fF np (FS tp ap))=true∧(S.fF 1 fun j=>S.lit [Int.tdiv (1000000:Int) (tq (((nq:Int)-1).toNat+aq)+1)] (0:Int) j)=true)) (g9 (decide ((u54_e_0 ap np tp aq nq tq).length+1≤1000000)) (g9 (decide ((u54_e_0 ap np tp aq nq tq).length≤(u54_e_0 ap np tp aq nq tq).length)) (g9 true (g9 (decide ((aq+nq≤mq∧1≤1)∧(nq≤1000∧1≤1000)∧(S.fF nq (FS tq aq))=true∧(S.fF 1 fun j=>S.lit [Int.tdiv (1000000:Int) (tq (((nq:Int)-1).toNat+aq)+1)] (0:Int) j)=true)) (g9 (lim .i64 (u54_e_2 ap np tp aq nq tq)) (g9 (decide ((0:Int)≤(↑((u54_e_0 ap np tp aq nq tq).length+1):Int)-(↑((u54_e_1 aq nq tq).length):Int)∧(↑((u54_e_0 ap np tp aq nq tq).length+1):Int)-(↑((u54_e_1 aq nq tq).length):Int)≤(↑((u54_e_0 ap np tp aq nq tq).length+1):Int)-(↑((u54_e_1 aq nq tq).length):Int)∧(↑((u54_e_0 ap np tp aq nq tq).length+1):Int)-(↑((u54_e_1 aq nq tq).length):Int)≤1000000)) (g9 (lim .i64 ((↑((u54_e_2 ap np tp aq nq tq).toNat):Int)-1)) (fA (hd Tryz.f114 0) ([.own 3 1 1,.own 7 1 ((u54_e_0 ap np tp aq nq tq).length+1),.own 9 1 (u54_e_1 aq nq tq).length,.own 10 1 (u54_e_2 ap np tp aq nq tq).toNat,.int .i64 ((↑((u54_e_2 ap np tp aq nq tq).toNat):Int)-1)]) ([[(1,false,CB mq tq),(0,false,CB mp tp),(10,true,.cols (u54_e_2 ap np tp aq nq tq).toNat [.int .i64 fun (x:Nat)=>0]),(9,true,CI (u54_e_1 aq nq tq)),(7,true,.cols ((u54_e_0 ap np tp aq nq tq).length+1) [.int .i64 fun j=>bif Nat.blt j (u54_e_0 ap np tp aq nq tq).length then S.at' (u54_e_0 ap np tp aq nq tq) j else (0:Int)]),(3,true,.cells [.int .i64 (Int.tdiv (1000000:Int) (tq (((nq:Int)-1).toNat+aq)+1))])]]) 11) False) False) False) False) False) False) False) False) False)) False) False) False) False))) False
theorem te54:run g9 Tryz.env true (xF2 g9) true 400 ⟨114,[.cd (zS Tryz.f114).body],yD 0 [.loose ⟨0,1,ap,0⟩ np,.loose ⟨1,1,aq,0⟩ nq],[[],[(0,(false,CB mp tp)),(1,(false,CB mq tq))]],2⟩ (zq 2 [8,9,10,11,12] fA fC)=
 Te54 g9 fA fC ap np mp tp aq nq mq tq:=by kernel_rfl
noncomputable abbrev u54_0_0 (x2:List Int):=S.trim (S.fJ x2.length fun j=>S.at' x2 j)
noncomputable abbrev u54_0_1 (x0:Int) (x3:List Int):=(x0+(↑(x3.length):Int)+(1:Int)).toNat-x0.toNat
def T54_0 (x0:Int) (x1 x2 x3 x4:List Int):Prop:=g9 (decide (x0≥0)) (g9 (lim .i64 (x0+(↑(x3.length):Int))) (g9 (lim .i64 (x0+(↑(x3.length):Int)+1)) (g9 (decide ((0:Int)≤x0∧x0≤x0+(↑(x3.length):Int)+1∧x0+(↑(x3.length):Int)+1≤(↑(x2.length):Int))) (g9 (decide (x0.toNat+(u54_0_1 x0 x3)≤x2.length∧x2.length≤1000000∧(x0+(↑(x3.length):Int)+1).toNat-x0.toNat=x3.length+1∧2≤x3.length∧x3.length≤1000∧0+x3.length≤x3.length∧(S.fG (u54_0_1 x0 x3) fun j=>S.at' x2 (j+x0.toNat))=true∧(S.fF x3.length fun j=>S.at' x3 j)=true∧(S.val (u54_0_1 x0 x3) fun j=>S.at' x2 (j+x0.toNat))<1000000*S.val x3.length fun j=>S.at' x3 j)) (g9 (decide ((0:Int)≤x0∧x0<(↑(x4.length):Int))) (g9 (decide (x0.toNat<x4.length)) (g9 (lim .i64 (x0-1)) (fA (hd Tryz.f114 0) ([.own 2 1 x1.length,.own 3 1 x2.length,.own 4 1 x3.length,.own 5 1 x4.length,.int .i64 (x0-1)]) ([[(1,false,CB mq tq),(0,false,CB mp tp),(5,true,.cols x4.length [.int .i64 fun j=>bif Nat.beq j x0.toNat then (S.val (u54_0_1 x0 x3) fun j=>S.at' x2 (j+x0.toNat)) / S.val x3.length fun j=>S.at' x3 j else S.at' x4 j]),(4,true,CI x3),(3,true,CI (S.fJ x2.length fun j=>S.winD (fun j=>S.at' x2 j) x0.toNat (u54_0_1 x0 x3) ((S.val (u54_0_1 x0 x3) fun j=>S.at' x2 (j+x0.toNat)) % S.val x3.length fun j=>S.at' x3 j) j)),(2,true,CI x1)]]) 7) False) False) False) False) False) False) False) (g9 (decide (x2.length≤x2.length)) (g9 (decide (x2.length≤1000000)) (g9 (decide ((0:Int)≤0∧(0:Int)<(↑(x1.length):Int))) (g9 (decide (0<x1.length)) (g9 (decide (0+(u54_0_0 x2).length≤(u54_0_0 x2).length∧(u54_0_0 x2).length≤1000∧(S.fG (u54_0_0 x2).length fun j=>S.at' (u54_0_0 x2) j)=true∧(0:Int)<S.at' x1 0∧S.at' x1 0≤1000000)) (g9 (decide (x4.length≤x4.length)) (g9 (decide (x4.length≤1000000)) (fC (.tup [.own 5 1 (S.trim (S.fJ x4.length fun j=>S.at' x4 j)).length,.own 8 1 (S.fX ((S.val (u54_0_0 x2).length fun j=>S.at' (u54_0_0 x2) j) / S.at' x1 0)).length]) ([[(1,false,CB mq tq),(0,false,CB mp tp),(8,true,CI (S.fX ((S.val (u54_0_0 x2).length fun j=>S.at' (u54_0_0 x2) j) / S.at' x1 0))),(5,true,CI (S.trim (S.fJ x4.length fun j=>S.at' x4 j)))]]) 10) False) False) False) False) False) False) False)
theorem t54_0 (x0:Int) (x1 x2 x3 x4:List Int):run g9 Tryz.env true (xF2 g9) true 400 ⟨114,hd Tryz.f114 0,yc [8,9,10,11,12] [.own 2 1 x1.length,.own 3 1 x2.length,
 .own 4 1 x3.length,.own 5 1 x4.length,
 .int .i64 x0],[[(2,(true,CI x1)),(3,(true,CI x2)),(4,(true,CI x3)),(5,(true,CI x4))],[(0,(false,CB mp tp)),(1,(false,CB mq tq))]],6⟩ (zq 2 [8,9,10,11,12] fA fC)=
  T54_0 g9 fA fC mp tp mq tq x0 x1 x2 x3 x4:=by kernel_rfl
noncomputable abbrev J54:Rt54→zQ:=fun r=> [yJ (2+1) ((N54) r)++ [(0,(false,CB mp tp)),(1,(false,CB mq tq))]]
attribute [local irreducible] Int.subNatNat in
theorem a54 {r:Rt54} (h:zX ((q54 ap np mp tp aq nq mq tq)) ((p54 ap np mp tp aq nq mq tq)) r):zn Tryz.prog 114 [.loose ⟨0,1,ap,0⟩ np,.loose ⟨1,1,aq,0⟩ nq] [[(0,(false,CB mp tp)),(1,(false,CB mq tq))]] 2 ((V54) r) ((J54 mp tp mq tq) r) 400∧HB Tryz.prog 114:=by
 refine zf Tryz.envOk Tryz.mixed iv ((I54 mp tp mq tq)) ((V54)) (J54 mp tp mq tq) (fn:=zS Tryz.f114) (ts:= [8,9,10,11,12]) (n:=400) rfl (by decide) (by simp) (zV rfl) ?_ ?_ ?_ h
 · intro s; cases s<;>exact ⟨ym _ _,by simp [I54],zV rfl,Nat.le_of_ble_eq_true rfl⟩
 · intro fA fC x hS hR h
   refine Holds.eq (te54 cond fA fC ap np mp tp aq nq mq tq) ?_
   unfold Te54
   unfold p54 at h
   exact zA h (fun c0 h=>zA h (fun c1 h=>zA h (fun c2 h=>zU hR _ h (fun n=>bif Nat.beq n 3 then 4 else bif Nat.beq n 4 then 399 else n) rfl rfl rfl (zm ⟨(zT rfl),(zZ (zD rfl) rfl zW),trivial⟩) rfl (zL (zD rfl) rfl (Nat.le_of_eq zW) (zO (fun _ hj=>z3 (fun (t:Int)=>t) hj) zP) (zY (zD rfl) (zc rfl) (zB (zC rfl) rfl rfl (zB (zC rfl) rfl rfl zE))))) (fun c2 h=>zF h)) (fun c1 h=>zA h (fun c2 h=>zA h (fun c3 h=>zA h (fun c4 h=>zA h (fun c5 h=>zA h (fun c6 h=>zU hR _ h (fun n=>bif Nat.beq n 3 then 6 else bif Nat.beq n 4 then 4 else n) rfl rfl rfl (zm ⟨(zZ (zD rfl) rfl rfl),(zZ (zD rfl) rfl rfl),trivial⟩) rfl (zL (zD rfl) rfl (Nat.le_of_eq rfl) (zO (fun _ _=>rfl) zP) (zL (zD rfl) rfl (Nat.le_of_eq rfl) (zO (fun _ _=>rfl) zP) (zB (zC rfl) rfl rfl (zB (zC rfl) rfl rfl zE))))) (fun c6 h=>zF h)) (fun c5 h=>zF h)) (fun c4 h=>zF h)) (fun c3 h=>zF h)) (fun c2 h=>zA h (fun c3 h=>zA h (fun c4 h=>zA h (fun c5 h=>zA h (fun c6 h=>zA h (fun c7 h=>zF h) (fun c7 h=>zA h (fun c8 h=>zA h (fun c9 h=>zA h (fun c10 h=>zA h (fun c11 h=>zJ rfl (zA h (fun c12 h=>zA h (fun c13 h=>zA h (fun c14 h=>zA h (fun c15 h=>zb hS _ h (fun n=>bif Nat.beq n 2 then 3 else bif Nat.beq n 3 then 7 else bif Nat.beq n 4 then 9 else bif Nat.beq n 5 then 10 else n) rfl rfl rfl ⟨(zZ (zD rfl) rfl rfl),⟨(zZ (zD rfl) rfl (z5 rfl)),⟨(zZ (zD rfl) rfl rfl),⟨(zZ (zD rfl) rfl zW),⟨(zH rfl),trivial⟩⟩⟩⟩⟩ rfl (yK (zD rfl) rfl (by simp) (iW (fun j hj i hi=>(match j,hj with|0,_=>(match i,hi with|0,_=>⟨_,rfl,zH rfl⟩|_+1,h=>absurd h (by simp [yB]))|_+1,h=>absurd h (by simp)))) (zL (zD rfl) rfl (Nat.le_of_eq (z5 rfl)) (zO (yq (fun (t:Int)=>t) rfl (fun _ _=>rfl)) zP) (zL (zD rfl) rfl (Nat.le_of_eq rfl) (zO (fun _ _=>rfl) zP) (zL (zD rfl) rfl (Nat.le_of_eq zW) (zO (fun _ hj=>z3 (fun (t:Int)=>t) hj) zP) (zB (zC rfl) rfl rfl (zB (zC rfl) rfl rfl zE))))))) (fun c15 h=>zF h)) (fun c14 h=>zF h)) (fun c13 h=>zF h)) (fun c12 h=>zF h))) (fun c11 h=>zF h)) (fun c10 h=>zF h)) (fun c9 h=>zF h)) (fun c8 h=>zF h))) (fun c6 h=>zF h)) (fun c5 h=>zF h)) (fun c4 h=>zF h)) (fun c3 h=>zF h)))) (fun c0 h=>zF h)
 · intro fA fC x hS hR s h
   cases s with
   |h0 x0 x1 x2 x3 x4=>
    refine Holds.eq (t54_0 cond fA fC mp tp mq tq x0 x1 x2 x3 x4) ?_
    unfold T54_0
    rw [q54] at h
    exact zA h (fun c0 h=>zA h (fun c1 h=>zA h (fun c2 h=>zA h (fun c3 h=>zA h (fun c4 h=>zA h (fun c5 h=>zA h (fun c6 h=>zA h (fun c7 h=>zb hS _ h (fun n=>bif Nat.beq n 2 then 2 else bif Nat.beq n 3 then 3 else bif Nat.beq n 4 then 4 else bif Nat.beq n 5 then 5 else n) rfl rfl rfl ⟨(zZ (zD rfl) rfl rfl),⟨(zZ (zD rfl) rfl zW),⟨(zZ (zD rfl) rfl rfl),⟨(zZ (zD rfl) rfl zW),⟨(zH rfl),trivial⟩⟩⟩⟩⟩ rfl (zL (zD rfl) rfl (Nat.le_of_eq rfl) (zO (fun _ _=>rfl) zP) (zL (zD rfl) rfl (by first|exact Nat.le_of_eq zW|(simp only [zW,yE]; omega)) (zO (fun _ hj=>z3 (fun (t:Int)=>t) hj) zP) (zL (zD rfl) rfl (Nat.le_of_eq rfl) (zO (fun _ _=>rfl) zP) (zL (zD rfl) rfl (Nat.le_of_eq zW) (zO (fun _ hj=>z3 (fun (t:Int)=>t) hj) zP) (zB (zC rfl) rfl rfl (zB (zC rfl) rfl rfl zE))))))) (fun c7 h=>zF h)) (fun c6 h=>zF h)) (fun c5 h=>zF h)) (fun c4 h=>zF h)) (fun c3 h=>zF h)) (fun c2 h=>zF h)) (fun c1 h=>zF h)) (fun c0 h=>zA h (fun c1 h=>zA h (fun c2 h=>zA h (fun c3 h=>zA h (fun c4 h=>zA h (fun c5 h=>zA h (fun c6 h=>zA h (fun c7 h=>zU hR _ h (fun n=>bif Nat.beq n 3 then 8 else bif Nat.beq n 4 then 5 else n) rfl rfl rfl (zm ⟨(zZ (zD rfl) rfl rfl),(zZ (zD rfl) rfl rfl),trivial⟩) rfl (zL (zD rfl) rfl (Nat.le_of_eq rfl) (zO (fun _ _=>rfl) zP) (zL (zD rfl) rfl (Nat.le_of_eq rfl) (zO (fun _ _=>rfl) zP) (zB (zC rfl) rfl rfl (zB (zC rfl) rfl rfl zE))))) (fun c7 h=>zF h)) (fun c6 h=>zF h)) (fun c5 h=>zF h)) (fun c4 h=>zF h)) (fun c3 h=>zF h)) (fun c2 h=>zF h)) (fun c1 h=>zF h))
end
noncomputable def k54:Con:=⟨114,[.one (.list [.int .i64]),.one (.list [.int .i64])],w60 (fun ap np mp tp aq nq mq tq=>decide ((ap+np≤mp∧aq+nq≤mq)∧(np≤900∧nq≤900)∧S.fF np (FS tp ap)=true∧S.fF nq (FS tq aq)=true∧0<nq)),w60 (fun ap np mp tp aq nq mq tq=>(V54) (S.fX ((S.val np (FS tp ap)) % (S.val nq (FS tq aq))),S.fX ((S.val np (FS tp ap)) / (S.val nq (FS tq aq))))),w60 (fun ap np mp tp aq nq mq tq=>(N54) (S.fX ((S.val np (FS tp ap)) % (S.val nq (FS tq aq))),S.fX ((S.val np (FS tp ap)) / (S.val nq (FS tq aq))))),fun _ _=> .dead⟩
theorem s54' (ap np mp:Nat) (tp:Nat→Int) (aq nq mq:Nat) (tq:Nat→Int) (hp:(ap+np≤mp∧aq+nq≤mq)∧(np≤900∧nq≤900)∧S.fF np (fun j=>tp (j+ap))=true∧S.fF nq (fun j=>tq (j+aq))=true∧0<nq) (D:List Int) (hD:(S.fF D.length fun j=>S.at' D j)=true) (s:Int) (hs:0<s∧s≤1000000) (hV:(S.val D.length fun j=>S.at' D j)=(S.val nq (fun j=>tq (j+aq)))*s) (hn:2≤D.length∧D.length≤901) (m:Nat) (hm:m≤950∧m+D.length≤1000): ∀ (k:Nat) (R Q:List Int),k≤m→R.length=m+D.length→Q.length=m→(∀ j,j<m+D.length→0≤S.at' R j∧S.at' R j<1000000)→(∀ j,j<m→0≤S.at' Q j∧S.at' Q j<1000000)→S.fD (fun j=>S.at' R j) (k) (m+D.length-k)<(S.val nq (fun j=>tq (j+aq)))*s→S.fD (fun j=>S.at' R j) (0) (m+D.length)+S.pw k*S.fD (fun j=>S.at' Q j) (k) (m-k)*((S.val nq (fun j=>tq (j+aq)))*s)=(S.val np (fun j=>tp (j+ap)))*s→Comes (q54 ap np mp tp aq nq mq tq) (.h0 ((k:Int)-1) [s] R D Q) (S.fX ((S.val np (fun j=>tp (j+ap))) % (S.val nq (fun j=>tq (j+aq)))),S.fX ((S.val np (fun j=>tp (j+ap))) / (S.val nq (fun j=>tq (j+aq))))):=by
 obtain ⟨⟨hp1,hp2⟩,⟨hp3,hp4⟩,g1,g2,hq0⟩:=hp
 have vp:=ya g2 hq0
 have vV:0<(S.val nq (fun j=>tq (j+aq)))*s:=Int.mul_pos vp hs.1
 intro k
 induction k with
 | zero=>
  intro R Q hk hR hQ hdR hdQ hX hE
  rw [Nat.sub_zero] at hX
  have x0:=yI (t:=fun j=>S.at' R j) (k:=m+D.length) (i:=0) fun j _ h=>(hdR j (by omega)).1
  have e0:S.pw 0=1:=rfl
  rw [e0,Int.one_mul,Nat.sub_zero] at hE
  have hXs:=i5 hE
  have eR:S.trim R=S.fX (S.fD (fun j=>S.at' R j) (0) (m+D.length)):=uj hR hdR
  have eQ:S.trim Q=S.fX (S.fD (fun j=>S.at' Q j) (0) (m)):=uj hQ hdQ
  generalize S.fD (fun j=>S.at' Q j) (0) (m)=W at*
  have rs:S.fD (fun j=>S.at' R j) (0) (m+D.length) / s=(S.val np (fun j=>tp (j+ap)))-W*(S.val nq (fun j=>tq (j+aq))):=by rw [hXs]; exact Int.mul_ediv_cancel _ (by omega)
  have r0:0≤(S.val np (fun j=>tp (j+ap)))-W*(S.val nq (fun j=>tq (j+aq))):=by rw [← rs]; exact Int.ediv_nonneg x0 (by omega)
  have r1:(S.val np (fun j=>tp (j+ap)))-W*(S.val nq (fun j=>tq (j+aq)))<(S.val nq (fun j=>tq (j+aq))):=by
   rw [hXs] at hX
   exact Int.lt_of_mul_lt_mul_right hX (by omega)
  have qd:(S.val np (fun j=>tp (j+ap))) / (S.val nq (fun j=>tq (j+aq)))=W:=pE vp (by omega) (by rw [Int.add_mul,Int.one_mul]; omega)
  have qm:(S.val np (fun j=>tp (j+ap))) % (S.val nq (fun j=>tq (j+aq)))=(S.val np (fun j=>tp (j+ap)))-W*(S.val nq (fun j=>tq (j+aq))):=ke vp (by omega) (by rw [Int.add_mul,Int.one_mul]; omega)
  rw [qd,qm,← rs,← eQ]
  generalize hXX:S.fD (fun j=>S.at' R j) (0) (m+D.length)=X at*
  have c1:0+(S.fX X).length≤(S.fX X).length∧(S.fX X).length≤1000∧(S.fG (S.fX X).length fun j=>S.at' (S.fX X) j)=true∧0<s∧s≤1000000:=by
   refine ⟨by omega,?_,zj yH,hs⟩
   have:=z7 (v:=X) (n:=m+D.length) (by rw [← hXX]; exact yw fun j _ h=>hdR j (by omega))
   omega
  have e1:S.trim (S.fJ R.length fun j=>S.at' R j)=S.fX X:=by rw [show (S.fJ R.length fun j=>S.at' R j)=R from wT R]; exact eR
  have e2:S.trim (S.fJ Q.length fun j=>S.at' Q j)=S.trim Q:=by rw [show (S.fJ Q.length fun j=>S.at' Q j)=Q from wT Q]
  have e3:S.at' [s] 0=s:=rfl
  rw [hR] at e1
  rw [hQ] at e2
  have e4:=z4 x0
  clear hE hXs rs qd qm hX
  apply Comes.of
  show zX _ _ _
  rw [q54]
  simp only [e1,e2,e3,e4,decide_eq_true c1,hR,hQ]
  repeat' (first|with_reducible refine zN (fun h=> ?_) (fun h=> ?_)<;>(try simp only [SH,List.length_cons,List.length_nil] at h)|exact zI.mpr (by omega))
  all_goals first|(exfalso; omega)|exact zG.mpr rfl
 | succ k ih=>
  intro R Q hk hR hQ hdR hdQ hX hE
  have vlt:(S.val nq (fun j=>tq (j+aq)))*s<S.pw D.length:=by rw [← hV]; exact yF (zj hD) (Nat.le_refl _)
  have hi:=n9 (t:=fun j=>S.at' R j) (m:=D.length) (k:=m-(k+1)) (i:=k+1) (fun j h1 h2=>hdR j (by omega)) (by rw [show D.length+(m-(k+1))=m+D.length-(k+1) by omega]; omega)
  have r1:S.fD (fun j=>S.at' R j) (k+1) (m+D.length-(k+1))=S.fD (fun j=>S.at' R j) (k+1) (D.length):=by
   rw [show m+D.length-(k+1)=D.length+(m-(k+1)) by omega,yg,wl (i:=k+1+D.length) fun j h1 h2=>hi j h1 (by omega),Int.mul_zero,Int.add_zero]
  rw [r1] at hX
  have hdk:=hdR k (by omega)
  have u1:(S.val (D.length+1) fun j=>S.at' R (j+k))=S.at' R k+1000000*S.fD (fun j=>S.at' R j) (k+1) (D.length):=by
   unfold S.val
   rw [wI (t:=fun j=>S.at' R j),Nat.zero_add]
   rfl
  have u0:0≤S.val (D.length+1) fun j=>S.at' R (j+k):=yU (yO.mpr fun j hj=>hdR _ (by omega))
  have u2:(S.val (D.length+1) fun j=>S.at' R (j+k))<1000000*((S.val nq (fun j=>tq (j+aq)))*s):=by omega
  have dU:=Int.emod_add_mul_ediv (S.val (D.length+1) fun j=>S.at' R (j+k)) ((S.val nq (fun j=>tq (j+aq)))*s)
  have m0:=Int.emod_nonneg (S.val (D.length+1) fun j=>S.at' R (j+k)) (show (S.val nq (fun j=>tq (j+aq)))*s≠0 by omega)
  have m1:=Int.emod_lt_of_pos (S.val (D.length+1) fun j=>S.at' R (j+k)) vV
  have q0:0≤(S.val (D.length+1) fun j=>S.at' R (j+k)) / ((S.val nq (fun j=>tq (j+aq)))*s):=Int.ediv_nonneg u0 (by omega)
  have q1:(S.val (D.length+1) fun j=>S.at' R (j+k)) / ((S.val nq (fun j=>tq (j+aq)))*s)<1000000:=(Int.ediv_lt_iff_lt_mul vV).mpr u2
  have hz: ∀ j,k+(D.length+1)≤j→j<m+D.length→S.at' R j=0:=fun j h1 h2=>hi j (by omega) (by omega)
  have lo:S.fD (fun j=>S.at' R j) (0) (m+D.length)=S.fD (fun j=>S.at' R j) (0) (k)+S.pw k*S.val (D.length+1) fun j=>S.at' R (j+k):=by
   rw [show m+D.length=k+(D.length+1+(m-(k+1))) by omega,yg,Nat.zero_add,yg (a:=D.length+1),wl (i:=k+(D.length+1)) fun j h1 h2=>hz j h1 (by omega),Int.mul_zero,Int.add_zero]
   unfold S.val
   rw [wI (t:=fun j=>S.at' R j),Nat.zero_add]
  generalize hU:(S.val (D.length+1) fun j=>S.at' R (j+k))=U at*
  generalize hqq:U / ((S.val nq (fun j=>tq (j+aq)))*s)=qd at*
  generalize hrr:U % ((S.val nq (fun j=>tq (j+aq)))*s)=rd at*
  have w1:S.fD (fun j=>S.at' (S.fJ (m+D.length) fun j=>S.winD (fun j=>S.at' R j) k (D.length+1) rd j) j) k (m+D.length-k)=rd:=by
   rw [show m+D.length-k=D.length+1+(m-(k+1)) by omega,yg,wl (i:=k+(D.length+1)) fun j h1 h2=>by rw [qI (by omega),if_neg (by omega)]; exact hz j h1 (by omega),Int.mul_zero,Int.add_zero]
   have vs:=wI (t:=fun j=>S.at' (S.fJ (m+D.length) fun j=>S.winD (fun j=>S.at' R j) k (D.length+1) rd j) j) (a:=k) (i:=0) (k:=D.length+1)
   rw [Nat.zero_add] at vs
   rw [← vs]
   rw [yA (u:=fun j=>S.at' (S.fX rd) j) fun j h1 h2=>by rw [qI (by omega),if_pos (by omega),show j+k-k=j by omega]]
   exact uT m0 (by have:S.pw (D.length+1)=1000000*S.pw D.length:=rfl; omega)
  have w2:S.fD (fun j=>S.at' (S.fJ (m+D.length) fun j=>S.winD (fun j=>S.at' R j) k (D.length+1) rd j) j) 0 (m+D.length)=S.fD (fun j=>S.at' R j) (0) (k)+S.pw k*rd:=by
   have:=yg (t:=fun j=>S.at' (S.fJ (m+D.length) fun j=>S.winD (fun j=>S.at' R j) k (D.length+1) rd j) j) (a:=k) (b:=m+D.length-k) (i:=0)
   rw [show k+(m+D.length-k)=m+D.length by omega,Nat.zero_add,w1] at this
   rw [this]
   congr 1
   exact yA fun j h1 h2=>by rw [qI (by omega),if_neg (by omega)]
  have w3:S.fD (fun j=>S.at' (S.fJ m fun j=>bif Nat.beq j k then qd else S.at' Q j) j) k (m-k)=qd+1000000*S.fD (fun j=>S.at' Q j) (k+1) (m-(k+1)):=by
   rw [show m-k=(m-(k+1))+1 by omega]
   simp only [S.fD]
   rw [zw (by omega),if_pos rfl,yA (u:=fun j=>S.at' Q j) fun j h1 h2=>by rw [zw (by omega),if_neg (by omega)]]
  have ih:=ih (S.fJ (m+D.length) fun j=>S.winD (fun j=>S.at' R j) k (D.length+1) rd j) (S.fJ m fun j=>bif Nat.beq j k then qd else S.at' Q j) (by omega) zW zW
    (fun j hj=>by
     rw [qI hj]
     split
     · exact qi
     · exact hdR j hj)
    (wn hQ hdQ ⟨q0,q1⟩) (by rw [w1]; exact m1) (by
     rw [w2,w3]
     refine jJ (U:=U) (by rw [Int.mul_comm]; omega) ?_
     rw [← lo]
     exact hE)
  have e1:(((k+1:Nat):Int)-1)=k:=by omega
  have e2:((k:Int)+D.length+1).toNat-k=D.length+1:=by omega
  have c1:k+(D.length+1)≤m+D.length∧m+D.length≤1000000∧D.length+1=D.length+1∧2≤D.length∧D.length≤1000∧0+D.length≤D.length∧(S.fG (D.length+1) fun j=>S.at' R (j+k))=true∧(S.fF D.length fun j=>S.at' D j)=true∧U<1000000*((S.val nq (fun j=>tq (j+aq)))*s):=⟨by omega,by omega,rfl,hn.1,by omega,by omega,yO.mpr fun j hj=>hdR _ (by omega),hD,u2⟩
  have c1':k+(((k:Int)+D.length+1).toNat-k)≤m+D.length∧m+D.length≤1000000∧((k:Int)+D.length+1).toNat-k=D.length+1∧2≤D.length∧D.length≤1000∧0+D.length≤D.length∧(S.fG (((k:Int)+D.length+1).toNat-k) fun j=>S.at' R (j+k))=true∧(S.fF D.length fun j=>S.at' D j)=true∧(S.val (((k:Int)+D.length+1).toNat-k) fun j=>S.at' R (j+k))<1000000*S.val D.length fun j=>S.at' D j:=by
   rw [e2,hU,hV]; exact c1
  rw [e1]
  clear hE w1 w2 w3 lo dU hX r1 u1
  apply Comes.of
  show zX _ _ _
  rw [q54]
  simp only [Int.toNat_natCast,hR,hQ,decide_eq_true c1',cond_true]
  simp only [e2,hU,hV,hqq,hrr,k8]
  repeat' (first|with_reducible refine zN (fun h=> ?_) (fun h=> ?_)<;>(try simp only [SH] at h)|exact zI.mpr (by omega))
  all_goals first|(exfalso; omega)|exact ih
theorem jF {L:List Int} {j:Nat}:S.at' (L++ [0]) j=S.at' L j:=by
 unfold S.at'
 by_cases h:j<L.length
 · simp [List.getElem?_append_left h]
 · by_cases h2:j=L.length
   · subst h2; simp
   · simp [List.getElem?_eq_none (show L.length≤j by omega),List.getElem?_eq_none (show (L++ [(0:Int)]).length≤j by simp; omega)]
theorem gL {L:List Int}:S.at' L L.length=0:=by simp [S.at']
theorem oT {s:Int} {j:Nat} (h:j<1):S.lit [s] 0 j=s:=by
 obtain rfl:j=0:=by omega
 rfl
theorem uL {n:Nat} {f:Nat→Int} (h:n=1):S.val n f=f 0:=by
 subst h
 simp only [S.val,S.fD]
 omega
theorem s54 (ap np mp:Nat) (tp:Nat→Int) (aq nq mq:Nat) (tq:Nat→Int) (hp:(ap+np≤mp∧aq+nq≤mq)∧(np≤900∧nq≤900)∧S.fF np (fun j=>tp (j+ap))=true∧S.fF nq (fun j=>tq (j+aq))=true∧0<nq):zX ((q54 ap np mp tp aq nq mq tq)) ((p54 ap np mp tp aq nq mq tq)) ((S.fX ((S.val np (fun j=>tp (j+ap))) % (S.val nq (fun j=>tq (j+aq)))),S.fX ((S.val np (fun j=>tp (j+ap))) / (S.val nq (fun j=>tq (j+aq)))))):=by
 have hp':=hp
 obtain ⟨⟨hp1,hp2⟩,⟨hp3,hp4⟩,g1,g2,hq0⟩:=hp
 have up:=yU (zj g1)
 have vp:=ya g2 hq0
 have dP:=(zl.mp g1).1
 have dQ:=(zl.mp g2).1
 have c1:ap+np≤mp∧np≤1000000∧aq+nq≤mq∧nq≤1000000∧S.fF np (fun j=>tp (j+ap))=true∧S.fF nq (fun j=>tq (j+aq))=true:=⟨hp1,by omega,hp2,by omega,g1,g2⟩
 have c2:ap+np≤mp∧np≤1000000:=⟨hp1,by omega⟩
 have hC:S.fV (S.val np (fun j=>tp (j+ap))) (S.val nq (fun j=>tq (j+aq)))<0↔(S.val np (fun j=>tp (j+ap)))<(S.val nq (fun j=>tq (j+aq))):=by
  unfold S.fV
  (repeat' split)<;>omega
 by_cases h1:(S.val np (fun j=>tp (j+ap)))<(S.val nq (fun j=>tq (j+aq)))
 · rw [Int.emod_eq_of_lt up h1,Int.ediv_eq_zero_of_lt up h1,z8,← lS g1]
   unfold p54
   simp only [decide_eq_true c1,decide_eq_true (hC.mpr h1),decide_eq_true c2,cond_true]
   exact zG.mpr rfl
 · have h1': ¬ S.fV (S.val np (fun j=>tp (j+ap))) (S.val nq (fun j=>tq (j+aq)))<0:=fun h=>h1 (hC.mp h)
   by_cases hn:nq=1
   · subst hn
     have hv:S.val 1 (fun j=>tq (j+aq))=tq (0+aq):=uL rfl
     have q0:=dQ 0 (by omega)
     (try dsimp only at q0)
     rw [hv] at vp ⊢
     have m0:=Int.emod_nonneg (S.val np (fun j=>tp (j+ap))) (show tq (0+aq)≠0 by omega)
     have m1:=Int.emod_lt_of_pos (S.val np (fun j=>tp (j+ap))) vp
     have c3:ap+np≤mp∧np≤1000∧S.fG np (fun j=>tp (j+ap))=true∧0<tq (0+aq)∧tq (0+aq)≤1000000:=⟨hp1,by omega,zj g1,vp,by omega⟩
     have hw:IntKind.u64.wrap ((S.val np (fun j=>tp (j+ap))) % tq (0+aq))=(S.val np (fun j=>tp (j+ap))) % tq (0+aq):=by rw [IntKind.wrap_u64]; omega
     unfold p54
     simp only [decide_eq_true c1,decide_eq_false h1',decide_eq_true c2,decide_eq_true c3,hw,cond_true,cond_false]
     repeat' (first|with_reducible refine zN (fun h=> ?_) (fun h=> ?_)<;>(try simp only [SH] at h)|exact zI.mpr (by omega))
     all_goals first|(exfalso; omega)|exact zG.mpr rfl
   · have l1:=dQ (nq-1) (by omega)
     have e1:((nq:Int)-1).toNat=nq-1:=by omega
     (try dsimp only at l1)
     have ts:=nP (X:=1000000) (Y:=tq (nq-1+aq)+1) (by omega) (by omega)
     have tf:0<Int.tdiv 1000000 (tq (nq-1+aq)+1):=by
      rcases Int.lt_or_eq_of_le ts.1 with h|h
      · exact h
      · rw [← h] at ts; omega
     obtain ⟨ts0,-,ts2⟩:=ts
     have l2:1≤tq (nq-1+aq):=by
      have:=(zl.mp g2).2
      rcases this with h|h
      · omega
      · (try dsimp only at h); omega
     have ts5:Int.tdiv 1000000 (tq (nq-1+aq)+1)≤500000:=by
      rw [Int.tdiv_eq_ediv_of_nonneg (by omega)]
      have:=(Int.ediv_lt_iff_lt_mul (a:=1000000) (b:=500001) (c:=tq (nq-1+aq)+1) (by omega)).mpr (by omega)
      omega
     generalize hs:Int.tdiv 1000000 (tq (nq-1+aq)+1)=s at*
     have hv1:(S.val 1 fun j=>S.lit [s] 0 j)=s:=uL rfl
     have hkS:(S.fF 1 fun j=>S.lit [s] 0 j)=true:=zl.mpr ⟨fun j hj=>by rw [oT hj]; omega,.inr (show s≠0 by omega)⟩
     have vq1:S.pw (nq-1)≤(S.val nq (fun j=>tq (j+aq))):=by
      have h:=yS (t:=(fun j=>tq (j+aq))) (i:=0) (k:=nq-1)
      rw [show nq-1+1=nq by omega,Nat.zero_add] at h
      have h':(S.val nq (fun j=>tq (j+aq)))=S.fD (fun j=>tq (j+aq)) 0 (nq-1)+S.pw (nq-1)*tq (nq-1+aq):=h
      have n0:=yI (t:=(fun j=>tq (j+aq))) (k:=nq-1) (i:=0) fun j _ h=>(dQ j (by omega)).1
      have:S.pw (nq-1)*1≤S.pw (nq-1)*tq (nq-1+aq):=Int.mul_le_mul_of_nonneg_left (by omega) (by have:=xJ (k:=nq-1); omega)
      omega
     have vs1:(S.val nq (fun j=>tq (j+aq)))*1≤(S.val nq (fun j=>tq (j+aq)))*s:=Int.mul_le_mul_of_nonneg_left (by omega) (by omega)
     have us1:(S.val nq (fun j=>tq (j+aq)))*s≤(S.val np (fun j=>tp (j+ap)))*s:=Int.mul_le_mul_of_nonneg_right (by omega) (by omega)
     have pw1:S.pw 1=1000000:=rfl
     have uB:=(qV (a:=np) (b:=1) ⟨up,yF (zj g1) (Nat.le_refl np)⟩ ⟨show 0≤s by omega,by omega⟩).2
     have vB:=(qV (a:=nq) (b:=1) ⟨by omega,yF (zj g2) (Nat.le_refl nq)⟩ ⟨show 0≤s by omega,by omega⟩).2
     have lu:=z7 uB
     have lv:=z7 vB
     have lv2:=kF (k:=nq-1) (v:=(S.val nq (fun j=>tq (j+aq)))*s) (by omega)
     have hV:=z4 (v:=(S.val nq (fun j=>tq (j+aq)))*s) (by omega)
     have hU:S.fZ (S.fX ((S.val np (fun j=>tp (j+ap)))*s))=(S.val np (fun j=>tp (j+ap)))*s:=ud (by omega)
     have lm:(S.fX ((S.val nq (fun j=>tq (j+aq)))*s)).length≤(S.fX ((S.val np (fun j=>tp (j+ap)))*s)).length:=by
      refine z7 (Int.lt_of_le_of_lt us1 ?_)
      have:=yF (zj (yH (v:=(S.val np (fun j=>tp (j+ap)))*s))) (Nat.le_refl _)
      rw [vE,hU] at this
      exact this
     have lp:S.pw ((S.fX ((S.val nq (fun j=>tq (j+aq)))*s)).length-1)≤(S.val nq (fun j=>tq (j+aq)))*s:=by
      refine Int.not_lt.mp fun h=> ?_
      have:=z7 h
      omega
     have hDk:(S.fF (S.fX ((S.val nq (fun j=>tq (j+aq)))*s)).length fun j=>S.at' (S.fX ((S.val nq (fun j=>tq (j+aq)))*s)) j)=true:=yH
     obtain ⟨m,hmm⟩: ∃ m,m=(S.fX ((S.val np (fun j=>tp (j+ap)))*s)).length+1-(S.fX ((S.val nq (fun j=>tq (j+aq)))*s)).length:=⟨_,rfl⟩
     have hRl:(S.fI (S.fX ((S.val np (fun j=>tp (j+ap)))*s)) 0).length=m+(S.fX ((S.val nq (fun j=>tq (j+aq)))*s)).length:=by rw [yE]; omega
     have hRa: ∀ j,S.at' (S.fI (S.fX ((S.val np (fun j=>tp (j+ap)))*s)) 0) j=S.at' (S.fX ((S.val np (fun j=>tp (j+ap)))*s)) j:=fun j=>by rw [wB]; exact jF
     have hdR: ∀ j,j<m+(S.fX ((S.val nq (fun j=>tq (j+aq)))*s)).length→0≤S.at' (S.fI (S.fX ((S.val np (fun j=>tp (j+ap)))*s)) 0) j∧S.at' (S.fI (S.fX ((S.val np (fun j=>tp (j+ap)))*s)) 0) j<1000000:=fun j _=>by rw [hRa]; exact qi
     have hRv:S.fD (fun j=>S.at' (S.fI (S.fX ((S.val np (fun j=>tp (j+ap)))*s)) 0) j) 0 (m+(S.fX ((S.val nq (fun j=>tq (j+aq)))*s)).length)=(S.val np (fun j=>tp (j+ap)))*s:=by
      rw [show (fun j=>S.at' (S.fI (S.fX ((S.val np (fun j=>tp (j+ap)))*s)) 0) j)=fun j=>S.at' (S.fX ((S.val np (fun j=>tp (j+ap)))*s)) j from funext hRa]
      exact uT (by omega) (by have:=yF (zj (yH (v:=(S.val np (fun j=>tp (j+ap)))*s))) (show (S.fX ((S.val np (fun j=>tp (j+ap)))*s)).length≤m+(S.fX ((S.val nq (fun j=>tq (j+aq)))*s)).length by omega); rw [vE,hU] at this; exact this)
     have hRt:S.fD (fun j=>S.at' (S.fI (S.fX ((S.val np (fun j=>tp (j+ap)))*s)) 0) j) m (m+(S.fX ((S.val nq (fun j=>tq (j+aq)))*s)).length-m)<(S.val nq (fun j=>tq (j+aq)))*s:=by
      rw [show (fun j=>S.at' (S.fI (S.fX ((S.val np (fun j=>tp (j+ap)))*s)) 0) j)=fun j=>S.at' (S.fX ((S.val np (fun j=>tp (j+ap)))*s)) j from funext hRa]
      rw [show m+(S.fX ((S.val nq (fun j=>tq (j+aq)))*s)).length-m=(S.fX ((S.val nq (fun j=>tq (j+aq)))*s)).length-1+1 by omega,yS,show m+((S.fX ((S.val nq (fun j=>tq (j+aq)))*s)).length-1)=(S.fX ((S.val np (fun j=>tp (j+ap)))*s)).length by omega,gL,Int.mul_zero,Int.add_zero]
      exact Int.lt_of_lt_of_le (yw fun j _ _=>qi) lp
     have hz: ∀ j,S.at' (S.fJ m fun _=>(0:Int)) j=0:=fun j=>by
      by_cases h:j<m
      · exact y7 h
      · simp [S.at',List.getElem?_eq_none (show (S.fJ m fun _=>(0:Int)).length≤j by rw [zW]; omega)]
     have hm:=s54' ap np mp tp aq nq mq tq hp' (S.fX ((S.val nq (fun j=>tq (j+aq)))*s)) hDk s ⟨tf,by omega⟩ hV ⟨by omega,by omega⟩ m ⟨by omega,by omega⟩ m (S.fI (S.fX ((S.val np (fun j=>tp (j+ap)))*s)) 0) (S.fJ m fun _=>0) (Nat.le_refl _) hRl zW hdR (fun j _=>by rw [hz]; omega) hRt (by rw [hRv,Nat.sub_self]; simp only [S.fD]; rw [Int.mul_zero,Int.zero_mul,Int.add_zero])
     have c4:(ap+np≤mp∧1≤1)∧(np≤1000∧1≤1000)∧S.fF np (fun j=>tp (j+ap))=true∧(S.fF 1 fun j=>S.lit [s] 0 j)=true:=⟨⟨hp1,by omega⟩,⟨by omega,by omega⟩,g1,hkS⟩
     have c5:(aq+nq≤mq∧1≤1)∧(nq≤1000∧1≤1000)∧S.fF nq (fun j=>tq (j+aq))=true∧(S.fF 1 fun j=>S.lit [s] 0 j)=true:=⟨⟨hp2,by omega⟩,⟨by omega,by omega⟩,g2,hkS⟩
     have e5:(((S.fX ((S.val np (fun j=>tp (j+ap)))*s)).length+1:Nat):Int)-((S.fX ((S.val nq (fun j=>tq (j+aq)))*s)).length:Int)=(m:Int):=by omega
     clear uB vB hRl hRa hdR hRv hRt hU hV lp lm
     unfold p54
     simp only [decide_eq_true c1,decide_eq_false h1',cond_true,cond_false,e1,hs,hv1,decide_eq_true c4,decide_eq_true c5,e5,Int.toNat_natCast]
     repeat' (first|with_reducible refine zN (fun h=> ?_) (fun h=> ?_)<;>(try simp only [SH] at h)|exact zI.mpr (by omega))
     all_goals first|(exfalso; omega)|exact hm
theorem k54_ok:k54.ok Tryz.prog:=by
 intro x hx
 obtain ⟨⟨ap,np,mp,tp,_⟩,⟨aq,nq,mq,tq,_⟩,_⟩:=x
 obtain ⟨h1,h2⟩:=a54 ap np mp tp aq nq mq tq (s54 ap np mp tp aq nq mq tq (zo hx rfl))
 exact ⟨⟨400,(by decide:2+1+2≤400),h1⟩,h2⟩
noncomputable def xF3 (g9:Bool→Prop→Prop→Prop):Ext:=xK g9 [k69,k65,k69v,k65v,k60,k61,k44,k73,k55,k45,k58,k56,k59,k52,k53,k71,k74,k77,k54]
theorem lM:yZ Tryz.prog (xF3 cond):=yN ⟨k69_ok,k65_ok,k69v_ok,k65v_ok,k60_ok,k61_ok,k44_ok,k73_ok,k55_ok,k45_ok,k58_ok,k56_ok,k59_ok,k52_ok,k53_ok,k71_ok,k74_ok,k77_ok,k54_ok,trivial⟩
theorem nr {L:List Int} {x:Int} (hx:0≤x∧x<1000000) (h: ∀ y ∈ L,0≤y∧y<1000000):(S.trim (S.fJ (1+L.length) fun j=>bif Nat.blt j 1 then x else S.at' L (j-1+0)))=S.fX (x+1000000*S.fZ L):=by
 have e:(S.fJ (1+L.length) fun j=>bif Nat.blt j 1 then x else S.at' L (j-1+0))=x::L:=by
  refine gQ (by simp; omega) fun j hj=> ?_
  cases j with
  |zero=>rfl
  |succ j=>
   rw [show Nat.blt (j+1) 1=false from rfl,cond_false]
   simp [S.at']
 rw [e,xL (xA hx h)]
 rfl
theorem iC {X V P v t:Int} (hP:0<P) (hv:0<v) (h1:v*P≤V) (h2:V<(v+1)*P) (h3:t*P≤X) (h4:X<(t+1)*P) (t0:0≤t):0≤Int.tdiv t (v+1)∧Int.tdiv t (v+1)≤X / V∧X / V≤Int.tdiv (t+1) v∧Int.tdiv (t+1) v≤t+1:=by
 rw [Int.tdiv_eq_ediv_of_nonneg t0,Int.tdiv_eq_ediv_of_nonneg (by omega:0≤t+1)]
 have hV:0<V:=by
  have:=Int.mul_pos hv hP
  omega
 have c0:0≤t / (v+1):=Int.ediv_nonneg t0 (by omega)
 have x0:0≤X:=by have:=Int.mul_nonneg t0 (show 0≤P by omega); omega
 refine ⟨c0,(Int.le_ediv_iff_mul_le hV).mpr ?_,(Int.le_ediv_iff_mul_le hv).mpr ?_,Int.ediv_le_self _ (by omega)⟩
 · have a1:t / (v+1)*(v+1)≤t:=Int.ediv_mul_le _ (by omega)
   have a2:t / (v+1)*V≤t / (v+1)*((v+1)*P):=Int.mul_le_mul_of_nonneg_left (by omega) c0
   have a3:t / (v+1)*(v+1)*P≤t*P:=Int.mul_le_mul_of_nonneg_right a1 (by omega)
   rw [Int.mul_assoc] at a3
   omega
 · have d0:0≤X / V:=Int.ediv_nonneg x0 (by omega)
   have a1:X / V*V≤X:=Int.ediv_mul_le _ (by omega)
   have a2:X / V*(v*P)≤X / V*V:=Int.mul_le_mul_of_nonneg_left h1 d0
   rw [← Int.mul_assoc] at a2
   have hh:X / V*v*P<(t+1)*P:=by omega
   have:=Int.lt_of_mul_lt_mul_right hh (by omega)
   omega
theorem mS {L:List Int} {j:Nat}:S.ext L.length (fun j=>S.at' L j) j=S.at' L j:=by
 unfold S.ext
 split
 · rfl
 · simp [S.at',List.getElem?_eq_none (by omega:L.length≤j)]
section
variable (g9:TT) (fA:KS) (fC:KR) (ap np mp:Nat) (tp:NI) (aq nq mq:Nat) (tq:NI)
noncomputable abbrev c57_0_0 (x0 x1:Nat) (x2:Int) (x4:List Int):=S.trim (S.fJ (1+x1) fun j=>bif Nat.blt j 1 then tp (x2.toNat+ap) else S.at' x4 (j-1+x0))
noncomputable abbrev c57_0_1 (x0 x1:Nat) (x2:Int) (x4:List Int):=S.ext (c57_0_0 ap tp x0 x1 x2 x4).length (fun j=>S.at' (c57_0_0 ap tp x0 x1 x2 x4) j) nq*1000000+S.ext (c57_0_0 ap tp x0 x1 x2 x4).length (fun j=>S.at' (c57_0_0 ap tp x0 x1 x2 x4) j) ((nq:Int)-1).toNat
noncomputable abbrev c57_0_2 (x0 x1:Nat) (x2:Int) (x4:List Int):=S.ext (c57_0_0 ap tp x0 x1 x2 x4).length (fun j=>S.at' (c57_0_0 ap tp x0 x1 x2 x4) j) nq*1000000+S.ext (c57_0_0 ap tp x0 x1 x2 x4).length (fun j=>S.at' (c57_0_0 ap tp x0 x1 x2 x4) j) ((nq:Int)-1).toNat+1
noncomputable abbrev c57_0_3 (x0 x1:Nat) (x2:Int) (x4:List Int):=Int.tdiv ((c57_0_1 ap tp nq x0 x1 x2 x4)*1000000+S.ext (c57_0_0 ap tp x0 x1 x2 x4).length (fun j=>S.at' (c57_0_0 ap tp x0 x1 x2 x4) j) ((nq:Int)-2).toNat) (tq (((nq:Int)-1).toNat+aq)*1000000+tq (((nq:Int)-2).toNat+aq)+1)
noncomputable abbrev c57_0_4 (x0 x1:Nat) (x2:Int) (x4:List Int):=(c57_0_1 ap tp nq x0 x1 x2 x4)*1000000+S.ext (c57_0_0 ap tp x0 x1 x2 x4).length (fun j=>S.at' (c57_0_0 ap tp x0 x1 x2 x4) j) ((nq:Int)-2).toNat+1
noncomputable abbrev c57_0_5 (x0 x1:Nat) (x2:Int) (x3 x4:List Int):=([[(1,false,Blk.cols mq [Col.int .i64 tq]),(0,false,Blk.cols mp [Col.int .i64 tp]),(5,true,Blk.cols (c57_0_0 ap tp x0 x1 x2 x4).length [Col.int .i64 fun j=>S.at' (c57_0_0 ap tp x0 x1 x2 x4) j]),(2,true,Blk.cols x3.length [Col.int .i64 fun j=>S.at' x3 j])]])
noncomputable abbrev c57_1_0 (x2:Int):=S.fX ((S.val nq fun j=>tq (j+aq))*S.val 1 fun j=>S.lit [x2] (0:Int) j)
noncomputable abbrev c57_1_1 (x2 x3:Int):=S.fX ((S.val nq fun j=>tq (j+aq))*S.val 1 fun j=>S.lit [Int.tdiv (x2+x3+1) (2:Int)] (0:Int) j)
inductive St57 where
 |h0 (x0:Nat) (x1:Nat) (x2:Int) (x3:List Int) (x4:List Int)
 |h1 (x0:Nat) (x1:Int) (x2:Int) (x3:Int) (x4:List Int) (x5:List Int)
abbrev Rt57:=Nat×Nat×List Int×List Int
noncomputable def V57 (r:Rt57):PV:= .tup [.own 3 1 r.2.2.1.length,.loose (PA.mk 4 1 r.1 0) r.2.1]
noncomputable def N57 (r:Rt57):List Blk:= [CI r.2.2.1,CI r.2.2.2]
noncomputable def I57:St57→Hd
  | .h0 x0 x1 x2 x3 x4=>⟨hd Tryz.f101 0,[.loose ⟨0,1,ap,0⟩ np,
 .loose ⟨1,1,aq,0⟩ nq,
 .own 2 1 x3.length,
 .loose ⟨3,1,x0,0⟩ x1,.int .i64 (nq:Int),
 .int .i64 x2,.unk,.unk],[[(2,(true,CI x3)),(3,(true,CI x4))],[(0,(false,CB mp tp)),(1,(false,CB mq tq))]],4⟩
  | .h1 x0 x1 x2 x3 x4 x5=>⟨hd Tryz.f101 1,[.loose ⟨0,1,ap,0⟩ np,
 .loose ⟨1,1,aq,0⟩ nq,
 .own 2 1 x4.length,
 .loose ⟨3,1,0,0⟩ x0,
 .int .i64 (nq:Int),.int .i64 x1,.int .i64 x2,
 .int .i64 x3],[[(2,(true,CI x4)),(3,(true,CI x5))],[(0,(false,CB mp tp)),(1,(false,CB mq tq))]],4⟩
noncomputable def q57 (ap np mp:Nat) (tp:NI) (aq nq mq:Nat) (tq:NI):St57→Option (St57⊕Rt57)| .h0 x0 x1 x2 x3 x4=>bif (decide (x2≥0)) then (bif (decide ((0:Int)≤x2∧x2<(np:Int))) then (bif (decide (x2.toNat+ap<mp)) then (bif (decide (1+x1≤1000000)) then (bif (decide (x0+x1≤x4.length)) then (bif (decide (1+x1≤1+x1)) then (bif (decide ((↑((c57_0_0 ap tp x0 x1 x2 x4).length):Int)<(nq:Int))) then (bif (lim .i64 (x2-1)) then (some (.inl (.h0 0 (c57_0_0 ap tp x0 x1 x2 x4).length (x2-1) x3 (c57_0_0 ap tp x0 x1 x2 x4)))) else none) else (bif (lim .i64 ((nq:Int)-1)) then (bif (decide ((0:Int)≤(nq:Int)-1∧(nq:Int)-1<(nq:Int))) then (bif (decide (((nq:Int)-1).toNat+aq<mq)) then (bif (decide (0+(c57_0_0 ap tp x0 x1 x2 x4).length≤(c57_0_0 ap tp x0 x1 x2 x4).length∧(0:Int)≤(nq:Int))) then (bif (lim .i64 (S.ext (c57_0_0 ap tp x0 x1 x2 x4).length (fun j=>S.at' (c57_0_0 ap tp x0 x1 x2 x4) j) nq*1000000)) then (bif (decide (0+(c57_0_0 ap tp x0 x1 x2 x4).length≤(c57_0_0 ap tp x0 x1 x2 x4).length∧(0:Int)≤(nq:Int)-1)) then (bif (lim .i64 (c57_0_1 ap tp nq x0 x1 x2 x4)) then (bif (decide ((nq:Int)>1)) then (bif (lim .i64 (tq (((nq:Int)-1).toNat+aq)*1000000)) then (bif (lim .i64 ((nq:Int)-2)) then (bif (decide ((0:Int)≤(nq:Int)-2∧(nq:Int)-2<(nq:Int))) then (bif (decide (((nq:Int)-2).toNat+aq<mq)) then (bif (lim .i64 (tq (((nq:Int)-1).toNat+aq)*1000000+tq (((nq:Int)-2).toNat+aq))) then (bif (lim .i64 ((c57_0_1 ap tp nq x0 x1 x2 x4)*1000000)) then (bif (decide (0+(c57_0_0 ap tp x0 x1 x2 x4).length≤(c57_0_0 ap tp x0 x1 x2 x4).length∧(0:Int)≤(nq:Int)-2)) then (bif (lim .i64 ((c57_0_1 ap tp nq x0 x1 x2 x4)*1000000+S.ext (c57_0_0 ap tp x0 x1 x2 x4).length (fun j=>S.at' (c57_0_0 ap tp x0 x1 x2 x4) j) ((nq:Int)-2).toNat)) then (bif (lim .i64 (tq (((nq:Int)-1).toNat+aq)*1000000+tq (((nq:Int)-2).toNat+aq)+1)) then (bif (decide (tq (((nq:Int)-1).toNat+aq)*1000000+tq (((nq:Int)-2).toNat+aq)+1=0)) then none else (bif (lim .i64 (c57_0_3 ap tp aq nq tq x0 x1 x2 x4)) then (bif (lim .i64 (c57_0_4 ap tp nq x0 x1 x2 x4)) then (bif (decide (tq (((nq:Int)-1).toNat+aq)*1000000+tq (((nq:Int)-2).toNat+aq)=0)) then none else (bif (lim .i64 (Int.tdiv (c57_0_4 ap tp nq x0 x1 x2 x4) (tq (((nq:Int)-1).toNat+aq)*1000000+tq (((nq:Int)-2).toNat+aq)))) then (some (.inl (.h1 (c57_0_0 ap tp x0 x1 x2 x4).length x2 (c57_0_3 ap tp aq nq tq x0 x1 x2 x4) (Min.min (Int.tdiv (c57_0_4 ap tp nq x0 x1 x2 x4) (tq (((nq:Int)-1).toNat+aq)*1000000+tq (((nq:Int)-2).toNat+aq))) (999999:Int)) x3 (c57_0_0 ap tp x0 x1 x2 x4)))) else none)) else none) else none)) else none) else none) else none) else none) else none) else none) else none) else none) else none) else (bif (lim .i64 (tq (((nq:Int)-1).toNat+aq)+1)) then (bif (decide (tq (((nq:Int)-1).toNat+aq)+1=0)) then none else (bif (lim .i64 (Int.tdiv (c57_0_1 ap tp nq x0 x1 x2 x4) (tq (((nq:Int)-1).toNat+aq)+1))) then (bif (lim .i64 (c57_0_2 ap tp nq x0 x1 x2 x4)) then (bif (decide (tq (((nq:Int)-1).toNat+aq)=0)) then none else (bif (lim .i64 (Int.tdiv (c57_0_2 ap tp nq x0 x1 x2 x4) (tq (((nq:Int)-1).toNat+aq)))) then (some (.inl (.h1 (c57_0_0 ap tp x0 x1 x2 x4).length x2 (Int.tdiv (c57_0_1 ap tp nq x0 x1 x2 x4) (tq (((nq:Int)-1).toNat+aq)+1)) (Min.min (Int.tdiv (c57_0_2 ap tp nq x0 x1 x2 x4) (tq (((nq:Int)-1).toNat+aq))) (999999:Int)) x3 (c57_0_0 ap tp x0 x1 x2 x4)))) else none)) else none) else none)) else none)) else none) else none) else none) else none) else none) else none) else none)) else none) else none) else none) else none) else none) else (bif (decide (x3.length≤x3.length)) then (bif (decide (x3.length≤1000000)) then (some (.inr (x0,x1,S.trim (S.fJ x3.length fun j=>S.at' x3 j),x4))) else none) else none)| .h1 x0 x1 x2 x3 x4 x5=>bif (decide (x2<x3)) then (bif (lim .i64 (x2+x3)) then (bif (lim .i64 (x2+x3+1)) then (bif (lim .i64 (Int.tdiv (x2+x3+1) (2:Int))) then (bif (decide ((aq+nq≤mq∧1≤1)∧(nq≤1000∧1≤1000)∧(S.fG nq fun j=>tq (j+aq))=true∧(S.fG 1 fun j=>S.lit [Int.tdiv (x2+x3+1) (2:Int)] (0:Int) j)=true)) then (bif (decide (0+(c57_1_1 aq nq tq x2 x3).length≤(c57_1_1 aq nq tq x2 x3).length∧(c57_1_1 aq nq tq x2 x3).length≤1000000∧0+x0≤x5.length∧x0≤1000000∧(S.fF (c57_1_1 aq nq tq x2 x3).length fun j=>S.at' (c57_1_1 aq nq tq x2 x3) j)=true∧(S.fF x0 fun j=>S.at' x5 j)=true)) then (bif (decide (S.fV (S.val (c57_1_1 aq nq tq x2 x3).length fun j=>S.at' (c57_1_1 aq nq tq x2 x3) j) (S.val x0 fun j=>S.at' x5 j)≤0)) then (some (.inl (.h1 x0 x1 (Int.tdiv (x2+x3+1) (2:Int)) x3 x4 x5))) else (bif (lim .i64 (Int.tdiv (x2+x3+1) (2:Int)-1)) then (some (.inl (.h1 x0 x1 x2 (Int.tdiv (x2+x3+1) (2:Int)-1) x4 x5))) else none)) else none) else none) else none) else none) else none) else (bif (decide ((0:Int)≤x1∧x1<(↑(x4.length):Int))) then (bif (decide (x1.toNat<x4.length)) then (bif (decide ((aq+nq≤mq∧1≤1)∧(nq≤1000∧1≤1000)∧(S.fG nq fun j=>tq (j+aq))=true∧(S.fG 1 fun j=>S.lit [x2] (0:Int) j)=true)) then (bif (decide ((0+x0≤x5.length∧0+(c57_1_0 aq nq tq x2).length≤(c57_1_0 aq nq tq x2).length)∧(x0≤1000∧(c57_1_0 aq nq tq x2).length≤1000)∧(S.fF x0 fun j=>S.at' x5 j)=true∧(S.fF (c57_1_0 aq nq tq x2).length fun j=>S.at' (c57_1_0 aq nq tq x2) j)=true∧(S.val (c57_1_0 aq nq tq x2).length fun j=>S.at' (c57_1_0 aq nq tq x2) j)≤S.val x0 fun j=>S.at' x5 j)) then (bif (lim .i64 (x1-1)) then (some (.inl (.h0 0 (S.fX ((S.val x0 fun j=>S.at' x5 j)-S.val (c57_1_0 aq nq tq x2).length fun j=>S.at' (c57_1_0 aq nq tq x2) j)).length (x1-1) (S.fJ x4.length fun j=>bif Nat.beq j x1.toNat then x2 else S.at' x4 j) (S.fX ((S.val x0 fun j=>S.at' x5 j)-S.val (c57_1_0 aq nq tq x2).length fun j=>S.at' (c57_1_0 aq nq tq x2) j))))) else none) else none) else none) else none) else none)
noncomputable def p57 (ap np mp:Nat) (tp:NI) (aq nq mq:Nat) (tq:NI):Option (St57⊕Rt57):=bif (decide ((np:Int)≤3)) then (bif (decide ((nq:Int)≤3)) then (bif (decide (ap+np≤mp∧np≤3∧(S.fG np fun j=>tp (j+ap))=true)) then (bif (decide (aq+nq≤mq∧nq≤3∧(S.fG nq fun j=>tq (j+aq))=true)) then (bif (decide ((S.val nq fun j=>tq (j+aq))=0)) then none else (bif (lim .i64 (Int.tdiv (S.val np fun j=>tp (j+ap)) (S.val nq fun j=>tq (j+aq)))) then (bif (decide ((0:Int)≤Int.tdiv (S.val np fun j=>tp (j+ap)) (S.val nq fun j=>tq (j+aq))∧Int.tdiv (S.val np fun j=>tp (j+ap)) (S.val nq fun j=>tq (j+aq))≤9223372036854775807)) then (bif (decide ((0:Int)≤Int.tmod (S.val np fun j=>tp (j+ap)) (S.val nq fun j=>tq (j+aq))∧Int.tmod (S.val np fun j=>tp (j+ap)) (S.val nq fun j=>tq (j+aq))≤9223372036854775807)) then (some (.inr (0,(S.fX (Int.tmod (S.val np fun j=>tp (j+ap)) (S.val nq fun j=>tq (j+aq)))).length,S.fX (Int.tdiv (S.val np fun j=>tp (j+ap)) (S.val nq fun j=>tq (j+aq))),S.fX (Int.tmod (S.val np fun j=>tp (j+ap)) (S.val nq fun j=>tq (j+aq)))))) else none) else none) else none)) else none) else none) else (bif (decide ((0:Int)≤(np:Int)∧(np:Int)≤(np:Int)∧(np:Int)≤1000000)) then (bif (lim .i64 ((np:Int)-1)) then (some (.inl (.h0 0 0 ((np:Int)-1) (S.fJ np fun j=>0) []))) else none) else none)) else (bif (decide ((0:Int)≤(np:Int)∧(np:Int)≤(np:Int)∧(np:Int)≤1000000)) then (bif (lim .i64 ((np:Int)-1)) then (some (.inl (.h0 0 0 ((np:Int)-1) (S.fJ np fun j=>0) []))) else none) else none)
def Te57:Prop:=g9 (decide ((np:Int)≤3)) (g9 (decide ((nq:Int)≤3)) (g9 (decide (ap+np≤mp∧np≤3∧(S.fG np (FS tp ap))=true)) (g9 (decide (aq+nq≤mq∧nq≤3∧(S.fG nq (FS tq aq))=true)) (g9 (decide ((S.val nq (FS tq aq))=0)) False (g9 (lim .i64 (Int.tdiv (S.val np (FS tp ap)) (S.val nq (FS tq aq)))) (g9 (decide ((0:Int)≤Int.tdiv (S.val np (FS tp ap)) (S.val nq (FS tq aq))∧Int.tdiv (S.val np (FS tp ap)) (S.val nq (FS tq aq))≤9223372036854775807)) (g9 (decide (ap+np≤mp∧np≤3∧(S.fG np (FS tp ap))=true)) (g9 (decide (aq+nq≤mq∧nq≤3∧(S.fG nq (FS tq aq))=true)) (g9 (decide ((S.val nq (FS tq aq))=0)) False (g9 (decide ((0:Int)≤Int.tmod (S.val np (FS tp ap)) (S.val nq (FS tq aq))∧Int.tmod (S.val np (FS tp ap)) (S.val nq (FS tq aq))≤9223372036854775807)) (fC (.tup [.own 5 1 (S.fX (Int.tdiv (S.val np (FS tp ap)) (S.val nq (FS tq aq)))).length,.own 9 1 (S.fX (Int.tmod (S.val np (FS tp ap)) (S.val nq (FS tq aq)))).length]) ([[(1,false,CB mq tq),(0,false,CB mp tp),(9,true,CI (S.fX (Int.tmod (S.val np (FS tp ap)) (S.val nq (FS tq aq))))),(5,true,CI (S.fX (Int.tdiv (S.val np (FS tp ap)) (S.val nq (FS tq aq)))))]]) 10) False)) False) False) False) False)) False) False) (g9 (decide ((0:Int)≤(np:Int)∧(np:Int)≤(np:Int)∧(np:Int)≤1000000)) (g9 (lim .i64 ((np:Int)-1)) (fA (hd Tryz.f101 0) ([.loose ⟨0,1,ap,0⟩ np,.loose ⟨1,1,aq,0⟩ nq,.own 2 1 np,.nils,.int .i64 (nq:Int),.int .i64 ((np:Int)-1),.unk,.unk]) ([[(1,false,CB mq tq),(0,false,CB mp tp),(2,true,.cols np [.int .i64 fun (x:Nat)=>0])]]) 3) False) False)) (g9 (decide ((0:Int)≤(np:Int)∧(np:Int)≤(np:Int)∧(np:Int)≤1000000)) (g9 (lim .i64 ((np:Int)-1)) (fA (hd Tryz.f101 0) ([.loose ⟨0,1,ap,0⟩ np,.loose ⟨1,1,aq,0⟩ nq,.own 2 1 np,.nils,.int .i64 (nq:Int),.int .i64 ((np:Int)-1),.unk,.unk]) ([[(1,false,CB mq tq),(0,false,CB mp tp),(2,true,.cols np [.int .i64 fun (x:Nat)=>0])]]) 3) False) False)
theorem te57:run g9 Tryz.env true (xG1 g9) true 400 ⟨101,[.cd (zS Tryz.f101).body],yD 0 [.loose ⟨0,1,ap,0⟩ np,.loose ⟨1,1,aq,0⟩ nq],[[],[(0,(false,CB mp tp)),(1,(false,CB mq tq))]],2⟩ (zq 2 [0,1,6,7,8,9,12,13] fA fC)=
 Te57 g9 fA fC ap np mp tp aq nq mq tq:=by kernel_rfl
noncomputable abbrev u57_0_0 (x0 x1:Nat) (x2:Int) (x4:List Int):=S.trim (S.fJ (1+x1) fun j=>bif Nat.blt j 1 then tp (x2.toNat+ap) else S.at' x4 (j-1+x0))
noncomputable abbrev u57_0_1:=tq (((nq:Int)-(1:Int)).toNat+aq)*(1000000:Int)+tq (((nq:Int)-(2:Int)).toNat+aq)
def T57_0 (x0 x1:Nat) (x2:Int) (x3 x4:List Int):Prop:=g9 (decide (x2≥0)) (g9 (decide ((0:Int)≤x2∧x2<(np:Int))) (g9 (decide (x2.toNat+ap<mp)) (g9 (decide (1+x1≤1000000)) (g9 true (g9 (decide (x0+x1≤x4.length)) (g9 (decide (1+x1≤1+x1)) (g9 (decide (1+x1≤1000000)) (g9 (decide ((↑((c57_0_0 ap tp x0 x1 x2 x4).length):Int)<(nq:Int))) (g9 (lim .i64 (x2-1)) (fA (hd Tryz.f101 0) ([.loose ⟨0,1,ap,0⟩ np,.loose ⟨1,1,aq,0⟩ nq,.own 2 1 x3.length,.own 5 1 (c57_0_0 ap tp x0 x1 x2 x4).length,.int .i64 (nq:Int),.int .i64 (x2-1),.unk,.unk]) (c57_0_5 ap mp tp mq tq x0 x1 x2 x3 x4) 7) False) (g9 (lim .i64 ((nq:Int)-1)) (g9 (decide ((0:Int)≤(nq:Int)-1∧(nq:Int)-1<(nq:Int))) (g9 (decide (((nq:Int)-1).toNat+aq<mq)) (g9 (decide (0+(c57_0_0 ap tp x0 x1 x2 x4).length≤(c57_0_0 ap tp x0 x1 x2 x4).length∧(0:Int)≤(nq:Int))) (g9 (lim .i64 (S.ext (c57_0_0 ap tp x0 x1 x2 x4).length (fun j=>S.at' (c57_0_0 ap tp x0 x1 x2 x4) j) nq*1000000)) (g9 (lim .i64 ((nq:Int)-1)) (g9 (decide (0+(c57_0_0 ap tp x0 x1 x2 x4).length≤(c57_0_0 ap tp x0 x1 x2 x4).length∧(0:Int)≤(nq:Int)-1)) (g9 (lim .i64 (c57_0_1 ap tp nq x0 x1 x2 x4)) (g9 (decide ((nq:Int)>1)) (g9 (lim .i64 (tq (((nq:Int)-1).toNat+aq)*1000000)) (g9 (lim .i64 ((nq:Int)-2)) (g9 (decide ((0:Int)≤(nq:Int)-2∧(nq:Int)-2<(nq:Int))) (g9 (decide (((nq:Int)-2).toNat+aq<mq)) (g9 (lim .i64 (u57_0_1 aq nq tq)) (g9 (lim .i64 ((c57_0_1 ap tp nq x0 x1 x2 x4)*1000000)) (g9 (lim .i64 ((nq:Int)-2)) (g9 (decide (0+(c57_0_0 ap tp x0 x1 x2 x4).length≤(c57_0_0 ap tp x0 x1 x2 x4).length∧(0:Int)≤(nq:Int)-2)) (g9 (lim .i64 ((c57_0_1 ap tp nq x0 x1 x2 x4)*1000000+S.ext (c57_0_0 ap tp x0 x1 x2 x4).length (fun j=>S.at' (c57_0_0 ap tp x0 x1 x2 x4) j) ((nq:Int)-2).toNat)) (g9 (lim .i64 (tq (((nq:Int)-1).toNat+aq)*1000000+tq (((nq:Int)-2).toNat+aq)+1)) (g9 (decide (tq (((nq:Int)-1).toNat+aq)*1000000+tq (((nq:Int)-2).toNat+aq)+1=0)) False (g9 (lim .i64 (c57_0_3 ap tp aq nq tq x0 x1 x2 x4)) (g9 (lim .i64 (c57_0_4 ap tp nq x0 x1 x2 x4)) (g9 (decide (tq (((nq:Int)-1).toNat+aq)*1000000+tq (((nq:Int)-2).toNat+aq)=0)) False (g9 (lim .i64 (Int.tdiv (c57_0_4 ap tp nq x0 x1 x2 x4) (u57_0_1 aq nq tq))) (fA (hd Tryz.f101 1) ([.loose ⟨0,1,ap,0⟩ np,.loose ⟨1,1,aq,0⟩ nq,.own 2 1 x3.length,.own 5 1 (c57_0_0 ap tp x0 x1 x2 x4).length,.int .i64 (nq:Int),.int .i64 x2,.int .i64 (c57_0_3 ap tp aq nq tq x0 x1 x2 x4),.int .i64 (Min.min (Int.tdiv ((S.ext (u57_0_0 ap tp x0 x1 x2 x4).length (fun j=>S.at' (u57_0_0 ap tp x0 x1 x2 x4) j) nq*1000000+S.ext (u57_0_0 ap tp x0 x1 x2 x4).length (fun j=>S.at' (u57_0_0 ap tp x0 x1 x2 x4) j) ((nq:Int)-1).toNat)*1000000+S.ext (c57_0_0 ap tp x0 x1 x2 x4).length (fun j=>S.at' (c57_0_0 ap tp x0 x1 x2 x4) j) ((nq:Int)-2).toNat+1) (u57_0_1 aq nq tq)) (999999:Int))]) (c57_0_5 ap mp tp mq tq x0 x1 x2 x3 x4) 10) False)) False) False)) False) False) False) False) False) False) False) False) False) False) (g9 (lim .i64 (tq (((nq:Int)-1).toNat+aq)+1)) (g9 (decide (tq (((nq:Int)-1).toNat+aq)+1=0)) False (g9 (lim .i64 (Int.tdiv (c57_0_1 ap tp nq x0 x1 x2 x4) (tq (((nq:Int)-1).toNat+aq)+1))) (g9 (lim .i64 (c57_0_2 ap tp nq x0 x1 x2 x4)) (g9 (decide (tq (((nq:Int)-1).toNat+aq)=0)) False (g9 (lim .i64 (Int.tdiv (c57_0_2 ap tp nq x0 x1 x2 x4) (tq (((nq:Int)-1).toNat+aq)))) (fA (hd Tryz.f101 1) ([.loose ⟨0,1,ap,0⟩ np,.loose ⟨1,1,aq,0⟩ nq,.own 2 1 x3.length,.own 5 1 (c57_0_0 ap tp x0 x1 x2 x4).length,.int .i64 (nq:Int),.int .i64 x2,.int .i64 (Int.tdiv (c57_0_1 ap tp nq x0 x1 x2 x4) (tq (((nq:Int)-1).toNat+aq)+1)),.int .i64 (Min.min (Int.tdiv (c57_0_2 ap tp nq x0 x1 x2 x4) (tq (((nq:Int)-1).toNat+aq))) (999999:Int))]) (c57_0_5 ap mp tp mq tq x0 x1 x2 x3 x4) 9) False)) False) False)) False)) False) False) False) False) False) False) False) False)) False) False) False) False) False) False) False) (g9 (decide (x3.length≤x3.length)) (g9 (decide (x3.length≤1000000)) (fC (.tup [.own 2 1 (S.trim (S.fJ x3.length fun j=>S.at' x3 j)).length,.loose ⟨3,1,x0,0⟩ x1]) ([[(1,false,CB mq tq),(0,false,CB mp tp),(3,true,CI x4),(2,true,CI (S.trim (S.fJ x3.length fun j=>S.at' x3 j)))]]) 5) False) False)
theorem t57_0 (x0 x1:Nat) (x2:Int) (x3 x4:List Int):run g9 Tryz.env true (xG1 g9) true 400 ⟨101,hd Tryz.f101 0,yc [0,1,6,7,8,9,12,13] [.loose ⟨0,1,ap,0⟩ np,
 .loose ⟨1,1,aq,0⟩ nq,
 .own 2 1 x3.length,
 .loose ⟨3,1,x0,0⟩ x1,.int .i64 (nq:Int),
 .int .i64 x2,.unk,.unk],[[(2,(true,CI x3)),(3,(true,CI x4))],[(0,(false,CB mp tp)),(1,(false,CB mq tq))]],4⟩ (zq 2 [0,1,6,7,8,9,12,13] fA fC)=
  T57_0 g9 fA fC ap np mp tp aq nq mq tq x0 x1 x2 x3 x4:=by kernel_rfl
def T57_1 (x0:Nat) (x1 x2 x3:Int) (x4 x5:List Int):Prop:=g9 (decide (x2<x3)) (g9 (lim .i64 (x2+x3)) (g9 (lim .i64 (x2+x3+1)) (g9 false False (g9 (lim .i64 (Int.tdiv (x2+x3+1) (2:Int))) (g9 (decide ((aq+nq≤mq∧1≤1)∧(nq≤1000∧1≤1000)∧(S.fG nq (FS tq aq))=true∧(S.fG 1 fun j=>S.lit [Int.tdiv (x2+x3+1) (2:Int)] (0:Int) j)=true)) (g9 (decide (0+(c57_1_1 aq nq tq x2 x3).length≤(c57_1_1 aq nq tq x2 x3).length∧(c57_1_1 aq nq tq x2 x3).length≤1000000∧0+x0≤x5.length∧x0≤1000000∧(S.fF (c57_1_1 aq nq tq x2 x3).length fun j=>S.at' (c57_1_1 aq nq tq x2 x3) j)=true∧(S.fF x0 fun j=>S.at' x5 j)=true)) (g9 (decide (S.fV (S.val (c57_1_1 aq nq tq x2 x3).length fun j=>S.at' (c57_1_1 aq nq tq x2 x3) j) (S.val x0 fun j=>S.at' x5 j)≤0)) (fA (hd Tryz.f101 1) ([.loose ⟨0,1,ap,0⟩ np,.loose ⟨1,1,aq,0⟩ nq,.own 2 1 x4.length,.loose ⟨3,1,0,0⟩ x0,.int .i64 (nq:Int),.int .i64 x1,.int .i64 (Int.tdiv (x2+x3+1) (2:Int)),.int .i64 x3]) ([[(1,false,CB mq tq),(0,false,CB mp tp),(3,true,CI x5),(2,true,CI x4)]]) 8) (g9 (lim .i64 (Int.tdiv (x2+x3+1) (2:Int)-1)) (fA (hd Tryz.f101 1) ([.loose ⟨0,1,ap,0⟩ np,.loose ⟨1,1,aq,0⟩ nq,.own 2 1 x4.length,.loose ⟨3,1,0,0⟩ x0,.int .i64 (nq:Int),.int .i64 x1,.int .i64 x2,.int .i64 (Int.tdiv (x2+x3+1) (2:Int)-1)]) ([[(1,false,CB mq tq),(0,false,CB mp tp),(3,true,CI x5),(2,true,CI x4)]]) 8) False)) False) False) False)) False) False) (g9 (decide ((0:Int)≤x1∧x1<(↑(x4.length):Int))) (g9 (decide (x1.toNat<x4.length)) (g9 (decide ((aq+nq≤mq∧1≤1)∧(nq≤1000∧1≤1000)∧(S.fG nq (FS tq aq))=true∧(S.fG 1 fun j=>S.lit [x2] (0:Int) j)=true)) (g9 (decide ((0+x0≤x5.length∧0+(c57_1_0 aq nq tq x2).length≤(c57_1_0 aq nq tq x2).length)∧(x0≤1000∧(c57_1_0 aq nq tq x2).length≤1000)∧(S.fF x0 fun j=>S.at' x5 j)=true∧(S.fF (c57_1_0 aq nq tq x2).length fun j=>S.at' (c57_1_0 aq nq tq x2) j)=true∧(S.val (c57_1_0 aq nq tq x2).length fun j=>S.at' (c57_1_0 aq nq tq x2) j)≤S.val x0 fun j=>S.at' x5 j)) (g9 (lim .i64 (x1-1)) (fA (hd Tryz.f101 0) ([.loose ⟨0,1,ap,0⟩ np,.loose ⟨1,1,aq,0⟩ nq,.own 2 1 x4.length,.own 8 1 (S.fX ((S.val x0 fun j=>S.at' x5 j)-S.val (c57_1_0 aq nq tq x2).length fun j=>S.at' (c57_1_0 aq nq tq x2) j)).length,.int .i64 (nq:Int),.int .i64 (x1-1),.int .i64 x2,.int .i64 x3]) ([[(1,false,CB mq tq),(0,false,CB mp tp),(8,true,CI (S.fX ((S.val x0 fun j=>S.at' x5 j)-S.val (c57_1_0 aq nq tq x2).length fun j=>S.at' (c57_1_0 aq nq tq x2) j))),(2,true,.cols x4.length [.int .i64 fun j=>bif Nat.beq j x1.toNat then x2 else S.at' x4 j])]]) 9) False) False) False) False) False)
theorem t57_1 (x0:Nat) (x1 x2 x3:Int) (x4 x5:List Int):run g9 Tryz.env true (xG1 g9) true 400 ⟨101,hd Tryz.f101 1,yc [0,1,6,7,8,9,12,13] [.loose ⟨0,1,ap,0⟩ np,
 .loose ⟨1,1,aq,0⟩ nq,
 .own 2 1 x4.length,
 .loose ⟨3,1,0,0⟩ x0,
 .int .i64 (nq:Int),.int .i64 x1,.int .i64 x2,
 .int .i64 x3],[[(2,(true,CI x4)),(3,(true,CI x5))],[(0,(false,CB mp tp)),(1,(false,CB mq tq))]],4⟩ (zq 2 [0,1,6,7,8,9,12,13] fA fC)=
  T57_1 g9 fA ap np mp tp aq nq mq tq x0 x1 x2 x3 x4 x5:=by kernel_rfl
noncomputable abbrev J57:Rt57→zQ:=fun r=> [yJ (2+1) ((N57) r)++ [(0,(false,CB mp tp)),(1,(false,CB mq tq))]]
attribute [local irreducible] Int.subNatNat in
theorem a57 {r:Rt57} (h:zX ((q57 ap np mp tp aq nq mq tq)) ((p57 ap np mp tp aq nq mq tq)) r):zn Tryz.prog 101 [.loose ⟨0,1,ap,0⟩ np,.loose ⟨1,1,aq,0⟩ nq] [[(0,(false,CB mp tp)),(1,(false,CB mq tq))]] 2 ((V57) r) ((J57 mp tp mq tq) r) 400∧HB Tryz.prog 101:=by
 refine zf Tryz.envOk Tryz.mixed iL ((I57 ap np mp tp aq nq mq tq)) ((V57)) (J57 mp tp mq tq) (fn:=zS Tryz.f101) (ts:= [0,1,6,7,8,9,12,13]) (n:=400) rfl (by decide) (by simp) (zV rfl) ?_ ?_ ?_ h
 · intro s; cases s<;>exact ⟨ym _ _,by simp [I57],zV rfl,Nat.le_of_ble_eq_true rfl⟩
 · intro fA fC x hS hR h
   refine Holds.eq (te57 cond fA fC ap np mp tp aq nq mq tq) ?_
   unfold Te57
   unfold p57 at h
   refine zA h (fun c0 h=>zA h (fun c1 h=>zA h (fun c2 h=>zA h (fun c3 h=>zA h (fun c4 h=> ?_) (fun c4 h=>zA h (fun c5 h=>zA h (fun c6 h=>zJ c2 (zJ c3 (za c4 (zA h (fun c7 h=>zU hR _ h (fun n=>bif Nat.beq n 3 then 5 else bif Nat.beq n 4 then 9 else n) rfl rfl rfl (zm ⟨(zZ (zD rfl) rfl rfl),(yQ (zD rfl) rfl rfl rfl),trivial⟩) rfl (zL (zD rfl) rfl (Nat.le_of_eq rfl) (zO (fun _ _=>rfl) zP) (zL (zD rfl) rfl (Nat.le_of_eq rfl) (zO (fun _ _=>rfl) zP) (zB (zC rfl) rfl rfl (zB (zC rfl) rfl rfl zE))))) (fun c7 h=> ?_))))) (fun c6 h=> ?_)) (fun c5 h=> ?_))) (fun c3 h=> ?_)) (fun c2 h=> ?_)) (fun c1 h=>zA h (fun c2 h=>zA h (fun c3 h=> ?_) (fun c3 h=> ?_)) (fun c2 h=> ?_))) (fun c0 h=>zA h (fun c1 h=>zA h (fun c2 h=> ?_) (fun c2 h=> ?_)) (fun c1 h=> ?_))
   all_goals first
     |exact zF h
     |exact zb hS _ h (fun n=>bif Nat.beq n 2 then 2 else bif Nat.beq n 3 then 399 else n) rfl rfl rfl ⟨(zM (zC rfl) rfl rfl rfl),⟨(zM (zC rfl) rfl rfl rfl),⟨(zZ (zD rfl) rfl zW),⟨(vz rfl),⟨(zH rfl),⟨(zH rfl),⟨(zh _),⟨(zh _),trivial⟩⟩⟩⟩⟩⟩⟩⟩ rfl (zL (zD rfl) rfl (Nat.le_of_eq zW) (zO (fun _ hj=>z3 (fun (t:Int)=>t) hj) zP) (zY (zD rfl) (zc rfl) (zB (zC rfl) rfl rfl (zB (zC rfl) rfl rfl zE))))
 · intro fA fC x hS hR s h
   cases s with
   | h0 x0 x1 x2 x3 x4=>
    refine Holds.eq (t57_0 cond fA fC ap np mp tp aq nq mq tq x0 x1 x2 x3 x4) ?_
    unfold T57_0
    rw [q57] at h
    refine zA h (fun c0 h=>zA h (fun c1 h=>zA h (fun c2 h=>zA h (fun c3 h=>zJ rfl (zA h (fun c4 h=>zA h (fun c5 h=>zJ c3 (zA h (fun c6 h=>zA h (fun c7 h=>zb hS _ h (fun n=>bif Nat.beq n 2 then 2 else bif Nat.beq n 3 then 5 else n) rfl rfl rfl ⟨(zM (zC rfl) rfl rfl rfl),⟨(zM (zC rfl) rfl rfl rfl),⟨(zZ (zD rfl) rfl rfl),⟨(yQ (zD rfl) rfl rfl rfl),⟨(zH rfl),⟨(zH rfl),⟨(zh _),⟨(zh _),trivial⟩⟩⟩⟩⟩⟩⟩⟩ rfl (zL (zD rfl) rfl (Nat.le_of_eq rfl) (zO (fun _ _=>rfl) zP) (zL (zD rfl) rfl (Nat.le_of_eq rfl) (zO (fun _ _=>rfl) zP) (zB (zC rfl) rfl rfl (zB (zC rfl) rfl rfl zE))))) (fun c7 h=> ?_)) (fun c6 h=>zA h (fun c7 h=>zA h (fun c8 h=>zA h (fun c9 h=>zA h (fun c10 h=>zA h (fun c11 h=>zJ c7 (zA h (fun c12 h=>zA h (fun c13 h=>zA h (fun c14 h=>zA h (fun c15 h=>zA h (fun c16 h=>zA h (fun c17 h=>zA h (fun c18 h=>zA h (fun c19 h=>zA h (fun c20 h=>zJ c16 (zA h (fun c21 h=>zA h (fun c22 h=>zA h (fun c23 h=>zA h (fun c24 h=> ?_) (fun c24 h=>zA h (fun c25 h=>zA h (fun c26 h=>zA h (fun c27 h=> ?_) (fun c27 h=>zA h (fun c28 h=> ?_) (fun c28 h=> ?_))) (fun c26 h=> ?_)) (fun c25 h=> ?_))) (fun c23 h=> ?_)) (fun c22 h=> ?_)) (fun c21 h=> ?_))) (fun c20 h=> ?_)) (fun c19 h=> ?_)) (fun c18 h=> ?_)) (fun c17 h=> ?_)) (fun c16 h=> ?_)) (fun c15 h=> ?_)) (fun c14 h=>zA h (fun c15 h=>zA h (fun c16 h=> ?_) (fun c16 h=>zA h (fun c17 h=>zA h (fun c18 h=>zA h (fun c19 h=> ?_) (fun c19 h=>zA h (fun c20 h=> ?_) (fun c20 h=> ?_))) (fun c18 h=> ?_)) (fun c17 h=> ?_))) (fun c15 h=> ?_))) (fun c13 h=> ?_)) (fun c12 h=> ?_))) (fun c11 h=> ?_)) (fun c10 h=> ?_)) (fun c9 h=> ?_)) (fun c8 h=> ?_)) (fun c7 h=> ?_)))) (fun c5 h=> ?_)) (fun c4 h=> ?_))) (fun c3 h=> ?_)) (fun c2 h=> ?_)) (fun c1 h=> ?_)) (fun c0 h=>zA h (fun c1 h=>zA h (fun c2 h=>zU hR _ h (fun n=>bif Nat.beq n 3 then 2 else bif Nat.beq n 4 then 3 else n) rfl rfl rfl (zm ⟨(zZ (zD rfl) rfl rfl),(zM (zD rfl) rfl rfl rfl),trivial⟩) rfl (zL (zD rfl) rfl (Nat.le_of_eq rfl) (zO (fun _ _=>rfl) zP) (zL (zD rfl) rfl (Nat.le_of_eq rfl) (zO (fun _ _=>rfl) zP) (zB (zC rfl) rfl rfl (zB (zC rfl) rfl rfl zE))))) (fun c2 h=> ?_)) (fun c1 h=> ?_))
    all_goals first
      |exact zF h
      |exact zb hS _ h (fun n=>bif Nat.beq n 2 then 2 else bif Nat.beq n 3 then 5 else n) rfl rfl rfl ⟨(zM (zC rfl) rfl rfl rfl),⟨(zM (zC rfl) rfl rfl rfl),⟨(zZ (zD rfl) rfl rfl),⟨(yQ (zD rfl) rfl rfl rfl),⟨(zH rfl),⟨(zH rfl),⟨(zH rfl),⟨(zH rfl),trivial⟩⟩⟩⟩⟩⟩⟩⟩ rfl (zL (zD rfl) rfl (Nat.le_of_eq rfl) (zO (fun _ _=>rfl) zP) (zL (zD rfl) rfl (Nat.le_of_eq rfl) (zO (fun _ _=>rfl) zP) (zB (zC rfl) rfl rfl (zB (zC rfl) rfl rfl zE))))
   | h1 x0 x1 x2 x3 x4 x5=>
    refine Holds.eq (t57_1 cond fA fC ap np mp tp aq nq mq tq x0 x1 x2 x3 x4 x5) ?_
    unfold T57_1
    rw [q57] at h
    refine zA h (fun c0 h=>zA h (fun c1 h=>zA h (fun c2 h=>za rfl (zA h (fun c3 h=>zA h (fun c4 h=>zA h (fun c5 h=>zA h (fun c6 h=> ?_) (fun c6 h=>zA h (fun c7 h=> ?_) (fun c7 h=> ?_))) (fun c5 h=> ?_)) (fun c4 h=> ?_)) (fun c3 h=> ?_))) (fun c2 h=> ?_)) (fun c1 h=> ?_)) (fun c0 h=>zA h (fun c1 h=>zA h (fun c2 h=>zA h (fun c3 h=>zA h (fun c4 h=>zA h (fun c5 h=>zb hS _ h (fun n=>bif Nat.beq n 2 then 2 else bif Nat.beq n 3 then 8 else n) rfl rfl rfl ⟨(zM (zC rfl) rfl rfl rfl),⟨(zM (zC rfl) rfl rfl rfl),⟨(zZ (zD rfl) rfl zW),⟨(yQ (zD rfl) rfl rfl rfl),⟨(zH rfl),⟨(zH rfl),⟨(zh _),⟨(zh _),trivial⟩⟩⟩⟩⟩⟩⟩⟩ rfl (zL (zD rfl) rfl (Nat.le_of_eq zW) (zO (fun _ hj=>z3 (fun (t:Int)=>t) hj) zP) (zL (zD rfl) rfl (Nat.le_of_eq rfl) (zO (fun _ _=>rfl) zP) (zB (zC rfl) rfl rfl (zB (zC rfl) rfl rfl zE))))) (fun c5 h=> ?_)) (fun c4 h=> ?_)) (fun c3 h=> ?_)) (fun c2 h=> ?_)) (fun c1 h=> ?_))
    all_goals first
      |exact zF h
      |exact zb hS _ h (fun n=>bif Nat.beq n 2 then 2 else bif Nat.beq n 3 then 3 else n) rfl rfl rfl ⟨(zM (zC rfl) rfl rfl rfl),⟨(zM (zC rfl) rfl rfl rfl),⟨(zZ (zD rfl) rfl rfl),⟨(zM (zD rfl) rfl rfl rfl),⟨(zH rfl),⟨(zH rfl),⟨(zH rfl),⟨(zH rfl),trivial⟩⟩⟩⟩⟩⟩⟩⟩ rfl (zL (zD rfl) rfl (Nat.le_of_eq rfl) (zO (fun _ _=>rfl) zP) (zL (zD rfl) rfl (Nat.le_of_eq rfl) (zO (fun _ _=>rfl) zP) (zB (zC rfl) rfl rfl (zB (zC rfl) rfl rfl zE))))
end
end Go.Ev
