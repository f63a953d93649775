/-
  The parts that the statement needs, 3 of 5.
-/
import Derived.Test.YtblfgknonjogfaaGreatDoorZ5032
namespace Go.Ev
open Go.Proofs
open Go.RowKit
set_option linter.unusedVariables false
set_option linter.unusedSimpArgs false
set_option maxRecDepth 100000
theorem k54_ok:k54.ok Tryz.prog:=by
  intro x hx
  obtain ⟨⟨ap,np,mp,tp,_⟩,⟨aq,nq,mq,tq,_⟩,_⟩:=x
  obtain ⟨h1,h2⟩:=a54 ap np mp tp aq nq mq tq (s54 ap np mp tp aq nq mq tq (of_dec hx rfl))
  exact ⟨⟨400,(by decide:2+1+2≤400),h1⟩,h2⟩
noncomputable def xF3 (test:Bool→Prop→Prop→Prop):Ext:=consX test [k69,k65,k69v,k65v,k60,k61,k44,k73,k55,k45,k58,k56,k59,k52,k53,k71,k74,k77,k54]
theorem xF3_ok:ExtOk Tryz.prog (xF3 cond):=consX_ok ⟨k69_ok,k65_ok,k69v_ok,k65v_ok,k60_ok,k61_ok,k44_ok,k73_ok,k55_ok,k45_ok,k58_ok,k56_ok,k59_ok,k52_ok,k53_ok,k71_ok,k74_ok,k77_ok,k54_ok,trivial⟩
theorem cons_trim {L:List Int} {x:Int} (hx:0≤x∧x<1000000) (h: ∀ y ∈ L,0≤y∧y<1000000):(S.trim (S.mkl (1+L.length) fun j=>bif Nat.blt j 1 then x else S.at' L (j-1+0)))=S.grp (x+1000000*S.valL L):=by
  have e:(S.mkl (1+L.length) fun j=>bif Nat.blt j 1 then x else S.at' L (j-1+0))=x::L:=by
    refine mkl_eq (by simp; omega) fun j hj=> ?_
    cases j with
    |zero=>rfl
    |succ j=>
      rw [show Nat.blt (j+1) 1=false from rfl,cond_false]
      simp [S.at']
  rw [e,trim_grp (dig_cons hx h)]
  rfl
theorem guess {X V P v t:Int} (hP:0<P) (hv:0<v) (h1:v*P≤V) (h2:V<(v+1)*P) (h3:t*P≤X) (h4:X<(t+1)*P) (t0:0≤t):0≤Int.tdiv t (v+1)∧Int.tdiv t (v+1)≤X / V∧X / V≤Int.tdiv (t+1) v∧Int.tdiv (t+1) v≤t+1:=by
  rw [Int.tdiv_eq_ediv_of_nonneg t0,Int.tdiv_eq_ediv_of_nonneg (by omega:0≤t+1)]
  have hV:0<V:=by
    have:=Int.mul_pos hv hP
    omega
  have c0:0≤t / (v+1):=Int.ediv_nonneg t0 (by omega)
  have x0:0≤X:=by have:=Int.mul_nonneg t0 (show 0≤P by omega); omega
  refine ⟨c0,(Int.le_ediv_iff_mul_le hV).mpr ?_,(Int.le_ediv_iff_mul_le hv).mpr ?_,Int.ediv_le_self _ (by omega)⟩
  · have a1:t / (v+1)*(v+1)≤t:=Int.ediv_mul_le _ (by omega)
    have a2:t / (v+1)*V≤t / (v+1)*((v+1)*P):=Int.mul_le_mul_of_nonneg_left (by omega) c0
    have a3:t / (v+1)*(v+1)*P≤t*P:=Int.mul_le_mul_of_nonneg_right a1 (by omega)
    rw [Int.mul_assoc] at a3
    omega
  · have d0:0≤X / V:=Int.ediv_nonneg x0 (by omega)
    have a1:X / V*V≤X:=Int.ediv_mul_le _ (by omega)
    have a2:X / V*(v*P)≤X / V*V:=Int.mul_le_mul_of_nonneg_left h1 d0
    rw [← Int.mul_assoc] at a2
    have hh:X / V*v*P<(t+1)*P:=by omega
    have:=Int.lt_of_mul_lt_mul_right hh (by omega)
    omega
theorem ext_at {L:List Int} {j:Nat}:S.ext L.length (fun j=>S.at' L j) j=S.at' L j:=by
  unfold S.ext
  split
  · rfl
  · simp [S.at',List.getElem?_eq_none (by omega:L.length≤j)]
noncomputable abbrev c57_0_0 (ap:Nat) (tp:NI) (x0 x1:Nat) (x2:Int) (x4:List Int):=S.trim (S.mkl (1+x1) fun j=>bif Nat.blt j (1) then tp (Int.toNat x2+ap) else S.at' x4 (j-1+x0))
noncomputable abbrev c57_0_1 (ap:Nat) (tp:NI) (nq x0 x1:Nat) (x2:Int) (x4:List Int):=S.ext (List.length (c57_0_0 ap tp x0 x1 x2 x4)) (fun j=>S.at' (c57_0_0 ap tp x0 x1 x2 x4) j) nq*1000000+S.ext (List.length (c57_0_0 ap tp x0 x1 x2 x4)) (fun j=>S.at' (c57_0_0 ap tp x0 x1 x2 x4) j) (Int.toNat ((↑nq:Int)-1))
noncomputable abbrev c57_0_2 (ap:Nat) (tp:NI) (nq x0 x1:Nat) (x2:Int) (x4:List Int):=S.ext (List.length (c57_0_0 ap tp x0 x1 x2 x4)) (fun j=>S.at' (c57_0_0 ap tp x0 x1 x2 x4) j) nq*1000000+S.ext (List.length (c57_0_0 ap tp x0 x1 x2 x4)) (fun j=>S.at' (c57_0_0 ap tp x0 x1 x2 x4) j) (Int.toNat ((↑nq:Int)-1))+1
noncomputable abbrev c57_0_3 (ap:Nat) (tp:NI) (aq nq:Nat) (tq:NI) (x0 x1:Nat) (x2:Int) (x4:List Int):=Int.tdiv ((c57_0_1 ap tp nq x0 x1 x2 x4)*1000000+S.ext (List.length (c57_0_0 ap tp x0 x1 x2 x4)) (fun j=>S.at' (c57_0_0 ap tp x0 x1 x2 x4) j) (Int.toNat ((↑nq:Int)-2))) (tq (Int.toNat ((↑nq:Int)-1)+aq)*1000000+tq (Int.toNat ((↑nq:Int)-2)+aq)+1)
noncomputable abbrev c57_0_4 (ap:Nat) (tp:NI) (nq x0 x1:Nat) (x2:Int) (x4:List Int):=(c57_0_1 ap tp nq x0 x1 x2 x4)*1000000+S.ext (List.length (c57_0_0 ap tp x0 x1 x2 x4)) (fun j=>S.at' (c57_0_0 ap tp x0 x1 x2 x4) j) (Int.toNat ((↑nq:Int)-2))+1
noncomputable abbrev c57_0_5 (ap mp:Nat) (tp:NI) (mq:Nat) (tq:NI) (x0 x1:Nat) (x2:Int) (x3 x4:List Int):=([[(1,false,Blk.cols mq [Col.int .i64 tq]),(0,false,Blk.cols mp [Col.int .i64 tp]),(5,true,Blk.cols (List.length (c57_0_0 ap tp x0 x1 x2 x4)) [Col.int .i64 fun j=>S.at' (c57_0_0 ap tp x0 x1 x2 x4) j]),(2,true,Blk.cols (List.length x3) [Col.int .i64 fun j=>S.at' x3 j])]])
noncomputable abbrev c57_1_0 (aq nq:Nat) (tq:NI) (x2:Int):=S.grp ((S.val nq fun j=>tq (j+aq))*S.val (1) fun j=>S.lit [x2] (0:Int) j)
noncomputable abbrev c57_1_1 (aq nq:Nat) (tq:NI) (x2 x3:Int):=S.grp ((S.val nq fun j=>tq (j+aq))*S.val (1) fun j=>S.lit [Int.tdiv (x2+x3+1) (2:Int)] (0:Int) j)
inductive St57 where
  |h0 (x0:Nat) (x1:Nat) (x2:Int) (x3:List Int) (x4:List Int)
  |h1 (x0:Nat) (x1:Int) (x2:Int) (x3:Int) (x4:List Int) (x5:List Int)
abbrev Rt57:=Nat×Nat×List Int×List Int
noncomputable def V57 (ap np mp:Nat) (tp:NI) (aq nq mq:Nat) (tq:NI) (r:Rt57):PV:=PV.tup [PV.own (3) (1) (List.length r.2.2.1),PV.loose (PA.mk (4) (1) r.1 (0)) r.2.1]
noncomputable def N57 (ap np mp:Nat) (tp:NI) (aq nq mq:Nat) (tq:NI) (r:Rt57):List Blk:= [Blk.cols (List.length r.2.2.1) [Col.int .i64 fun j=>S.at' r.2.2.1 j],Blk.cols (List.length r.2.2.2) [Col.int .i64 fun j=>S.at' r.2.2.2 j]]
noncomputable def I57 (ap np mp:Nat) (tp:NI) (aq nq mq:Nat) (tq:NI):St57→Hd
  | .h0 x0 x1 x2 x3 x4=>⟨hd Tryz.f101 0,[PV.loose (PA.mk (0) (1) ap (0)) np,
 PV.loose (PA.mk (1) (1) aq (0)) nq,
 PV.own (2) (1) (List.length x3),
 PV.loose (PA.mk (3) (1) x0 (0)) x1,PV.int .i64 (↑nq:Int),
 PV.int .i64 x2,PV.unk,PV.unk],[[(2,(true,Blk.cols (List.length x3) [Col.int .i64 fun j=>S.at' x3 j])),(3,(true,Blk.cols (List.length x4) [Col.int .i64 fun j=>S.at' x4 j]))],[(0,(false,.cols mp [.int .i64 tp])),(1,(false,.cols mq [.int .i64 tq]))]],4⟩
  | .h1 x0 x1 x2 x3 x4 x5=>⟨hd Tryz.f101 1,[PV.loose (PA.mk (0) (1) ap (0)) np,
 PV.loose (PA.mk (1) (1) aq (0)) nq,
 PV.own (2) (1) (List.length x4),
 PV.loose (PA.mk (3) (1) (0) (0)) x0,
 PV.int .i64 (↑nq:Int),PV.int .i64 x1,PV.int .i64 x2,
 PV.int .i64 x3],[[(2,(true,Blk.cols (List.length x4) [Col.int .i64 fun j=>S.at' x4 j])),(3,(true,Blk.cols (List.length x5) [Col.int .i64 fun j=>S.at' x5 j]))],[(0,(false,.cols mp [.int .i64 tp])),(1,(false,.cols mq [.int .i64 tq]))]],4⟩
noncomputable def q57 (ap np mp:Nat) (tp:NI) (aq nq mq:Nat) (tq:NI):St57→Option (St57⊕Rt57)| .h0 x0 x1 x2 x3 x4=>bif (decide (x2≥0)) then (bif (decide ((0:Int)≤x2∧x2<(↑np:Int))) then (bif (decide (Int.toNat x2+ap<mp)) then (bif (decide (1+x1≤1000000)) then (bif (decide (x0+x1≤List.length x4)) then (bif (decide (1+x1≤1+x1)) then (bif (decide ((↑(List.length (c57_0_0 ap tp x0 x1 x2 x4)):Int)<(↑nq:Int))) then (bif (lim .i64 (x2-1)) then (some (.inl (.h0 (0) (List.length (c57_0_0 ap tp x0 x1 x2 x4)) (x2-1) (x3) (c57_0_0 ap tp x0 x1 x2 x4)))) else (none)) else (bif (lim .i64 ((↑nq:Int)-1)) then (bif (decide ((0:Int)≤(↑nq:Int)-1∧(↑nq:Int)-1<(↑nq:Int))) then (bif (decide (Int.toNat ((↑nq:Int)-1)+aq<mq)) then (bif (decide (0+List.length (c57_0_0 ap tp x0 x1 x2 x4)≤List.length (c57_0_0 ap tp x0 x1 x2 x4)∧(0:Int)≤(↑nq:Int))) then (bif (lim .i64 (S.ext (List.length (c57_0_0 ap tp x0 x1 x2 x4)) (fun j=>S.at' (c57_0_0 ap tp x0 x1 x2 x4) j) nq*1000000)) then (bif (decide (0+List.length (c57_0_0 ap tp x0 x1 x2 x4)≤List.length (c57_0_0 ap tp x0 x1 x2 x4)∧(0:Int)≤(↑nq:Int)-1)) then (bif (lim .i64 (c57_0_1 ap tp nq x0 x1 x2 x4)) then (bif (decide ((↑nq:Int)>1)) then (bif (lim .i64 (tq (Int.toNat ((↑nq:Int)-1)+aq)*1000000)) then (bif (lim .i64 ((↑nq:Int)-2)) then (bif (decide ((0:Int)≤(↑nq:Int)-2∧(↑nq:Int)-2<(↑nq:Int))) then (bif (decide (Int.toNat ((↑nq:Int)-2)+aq<mq)) then (bif (lim .i64 (tq (Int.toNat ((↑nq:Int)-1)+aq)*1000000+tq (Int.toNat ((↑nq:Int)-2)+aq))) then (bif (lim .i64 ((c57_0_1 ap tp nq x0 x1 x2 x4)*1000000)) then (bif (decide (0+List.length (c57_0_0 ap tp x0 x1 x2 x4)≤List.length (c57_0_0 ap tp x0 x1 x2 x4)∧(0:Int)≤(↑nq:Int)-2)) then (bif (lim .i64 ((c57_0_1 ap tp nq x0 x1 x2 x4)*1000000+S.ext (List.length (c57_0_0 ap tp x0 x1 x2 x4)) (fun j=>S.at' (c57_0_0 ap tp x0 x1 x2 x4) j) (Int.toNat ((↑nq:Int)-2)))) then (bif (lim .i64 (tq (Int.toNat ((↑nq:Int)-1)+aq)*1000000+tq (Int.toNat ((↑nq:Int)-2)+aq)+1)) then (bif (decide (tq (Int.toNat ((↑nq:Int)-1)+aq)*1000000+tq (Int.toNat ((↑nq:Int)-2)+aq)+1=0)) then (none) else (bif (lim .i64 (c57_0_3 ap tp aq nq tq x0 x1 x2 x4)) then (bif (lim .i64 (c57_0_4 ap tp nq x0 x1 x2 x4)) then (bif (decide (tq (Int.toNat ((↑nq:Int)-1)+aq)*1000000+tq (Int.toNat ((↑nq:Int)-2)+aq)=0)) then (none) else (bif (lim .i64 (Int.tdiv (c57_0_4 ap tp nq x0 x1 x2 x4) (tq (Int.toNat ((↑nq:Int)-1)+aq)*1000000+tq (Int.toNat ((↑nq:Int)-2)+aq)))) then (some (.inl (.h1 (List.length (c57_0_0 ap tp x0 x1 x2 x4)) (x2) (c57_0_3 ap tp aq nq tq x0 x1 x2 x4) (Min.min (Int.tdiv (c57_0_4 ap tp nq x0 x1 x2 x4) (tq (Int.toNat ((↑nq:Int)-1)+aq)*1000000+tq (Int.toNat ((↑nq:Int)-2)+aq))) (999999:Int)) (x3) (c57_0_0 ap tp x0 x1 x2 x4)))) else (none))) else (none)) else (none))) else (none)) else (none)) else (none)) else (none)) else (none)) else (none)) else (none)) else (none)) else (none)) else (bif (lim .i64 (tq (Int.toNat ((↑nq:Int)-1)+aq)+1)) then (bif (decide (tq (Int.toNat ((↑nq:Int)-1)+aq)+1=0)) then (none) else (bif (lim .i64 (Int.tdiv (c57_0_1 ap tp nq x0 x1 x2 x4) (tq (Int.toNat ((↑nq:Int)-1)+aq)+1))) then (bif (lim .i64 (c57_0_2 ap tp nq x0 x1 x2 x4)) then (bif (decide (tq (Int.toNat ((↑nq:Int)-1)+aq)=0)) then (none) else (bif (lim .i64 (Int.tdiv (c57_0_2 ap tp nq x0 x1 x2 x4) (tq (Int.toNat ((↑nq:Int)-1)+aq)))) then (some (.inl (.h1 (List.length (c57_0_0 ap tp x0 x1 x2 x4)) (x2) (Int.tdiv (c57_0_1 ap tp nq x0 x1 x2 x4) (tq (Int.toNat ((↑nq:Int)-1)+aq)+1)) (Min.min (Int.tdiv (c57_0_2 ap tp nq x0 x1 x2 x4) (tq (Int.toNat ((↑nq:Int)-1)+aq))) (999999:Int)) (x3) (c57_0_0 ap tp x0 x1 x2 x4)))) else (none))) else (none)) else (none))) else (none))) else (none)) else (none)) else (none)) else (none)) else (none)) else (none)) else (none))) else (none)) else (none)) else (none)) else (none)) else (none)) else (bif (decide (List.length x3≤List.length x3)) then (bif (decide (List.length x3≤1000000)) then (some (.inr (x0,x1,S.trim (S.mkl (List.length x3) fun j=>S.at' x3 j),x4))) else (none)) else (none))| .h1 x0 x1 x2 x3 x4 x5=>bif (decide (x2<x3)) then (bif (lim .i64 (x2+x3)) then (bif (lim .i64 (x2+x3+1)) then (bif (lim .i64 (Int.tdiv (x2+x3+1) (2:Int))) then (bif (decide ((aq+nq≤mq∧1≤1)∧(nq≤1000∧1≤1000)∧(S.okD nq fun j=>tq (j+aq))=true∧(S.okD (1) fun j=>S.lit [Int.tdiv (x2+x3+1) (2:Int)] (0:Int) j)=true)) then (bif (decide (0+List.length (c57_1_1 aq nq tq x2 x3)≤List.length (c57_1_1 aq nq tq x2 x3)∧List.length (c57_1_1 aq nq tq x2 x3)≤1000000∧0+x0≤List.length x5∧x0≤1000000∧(S.okG (List.length (c57_1_1 aq nq tq x2 x3)) fun j=>S.at' (c57_1_1 aq nq tq x2 x3) j)=true∧(S.okG x0 fun j=>S.at' x5 j)=true)) then (bif (decide (S.cmpS (S.val (List.length (c57_1_1 aq nq tq x2 x3)) fun j=>S.at' (c57_1_1 aq nq tq x2 x3) j) (S.val x0 fun j=>S.at' x5 j)≤0)) then (some (.inl (.h1 (x0) (x1) (Int.tdiv (x2+x3+1) (2:Int)) (x3) (x4) (x5)))) else (bif (lim .i64 (Int.tdiv (x2+x3+1) (2:Int)-1)) then (some (.inl (.h1 (x0) (x1) (x2) (Int.tdiv (x2+x3+1) (2:Int)-1) (x4) (x5)))) else (none))) else (none)) else (none)) else (none)) else (none)) else (none)) else (bif (decide ((0:Int)≤x1∧x1<(↑(List.length x4):Int))) then (bif (decide (Int.toNat x1<List.length x4)) then (bif (decide ((aq+nq≤mq∧1≤1)∧(nq≤1000∧1≤1000)∧(S.okD nq fun j=>tq (j+aq))=true∧(S.okD (1) fun j=>S.lit [x2] (0:Int) j)=true)) then (bif (decide ((0+x0≤List.length x5∧0+List.length (c57_1_0 aq nq tq x2)≤List.length (c57_1_0 aq nq tq x2))∧(x0≤1000∧List.length (c57_1_0 aq nq tq x2)≤1000)∧(S.okG x0 fun j=>S.at' x5 j)=true∧(S.okG (List.length (c57_1_0 aq nq tq x2)) fun j=>S.at' (c57_1_0 aq nq tq x2) j)=true∧(S.val (List.length (c57_1_0 aq nq tq x2)) fun j=>S.at' (c57_1_0 aq nq tq x2) j)≤S.val x0 fun j=>S.at' x5 j)) then (bif (lim .i64 (x1-1)) then (some (.inl (.h0 (0) (List.length (S.grp ((S.val x0 fun j=>S.at' x5 j)-S.val (List.length (c57_1_0 aq nq tq x2)) fun j=>S.at' (c57_1_0 aq nq tq x2) j))) (x1-1) (S.mkl (List.length x4) fun j=>bif Nat.beq j (Int.toNat x1) then x2 else S.at' x4 j) (S.grp ((S.val x0 fun j=>S.at' x5 j)-S.val (List.length (c57_1_0 aq nq tq x2)) fun j=>S.at' (c57_1_0 aq nq tq x2) j))))) else (none)) else (none)) else (none)) else (none)) else (none))
noncomputable def p57 (ap np mp:Nat) (tp:NI) (aq nq mq:Nat) (tq:NI):Option (St57⊕Rt57):=bif (decide ((↑np:Int)≤3)) then (bif (decide ((↑nq:Int)≤3)) then (bif (decide (ap+np≤mp∧np≤3∧(S.okD np fun j=>tp (j+ap))=true)) then (bif (decide (aq+nq≤mq∧nq≤3∧(S.okD nq fun j=>tq (j+aq))=true)) then (bif (decide ((S.val nq fun j=>tq (j+aq))=0)) then (none) else (bif (lim .i64 (Int.tdiv (S.val np fun j=>tp (j+ap)) (S.val nq fun j=>tq (j+aq)))) then (bif (decide ((0:Int)≤Int.tdiv (S.val np fun j=>tp (j+ap)) (S.val nq fun j=>tq (j+aq))∧Int.tdiv (S.val np fun j=>tp (j+ap)) (S.val nq fun j=>tq (j+aq))≤9223372036854775807)) then (bif (decide ((0:Int)≤Int.tmod (S.val np fun j=>tp (j+ap)) (S.val nq fun j=>tq (j+aq))∧Int.tmod (S.val np fun j=>tp (j+ap)) (S.val nq fun j=>tq (j+aq))≤9223372036854775807)) then (some (.inr (0,List.length (S.grp (Int.tmod (S.val np fun j=>tp (j+ap)) (S.val nq fun j=>tq (j+aq)))),S.grp (Int.tdiv (S.val np fun j=>tp (j+ap)) (S.val nq fun j=>tq (j+aq))),S.grp (Int.tmod (S.val np fun j=>tp (j+ap)) (S.val nq fun j=>tq (j+aq)))))) else (none)) else (none)) else (none))) else (none)) else (none)) else (bif (decide ((0:Int)≤(↑np:Int)∧(↑np:Int)≤(↑np:Int)∧(↑np:Int)≤1000000)) then (bif (lim .i64 ((↑np:Int)-1)) then (some (.inl (.h0 (0) (0) ((↑np:Int)-1) (S.mkl np fun j=>0) ([])))) else (none)) else (none))) else (bif (decide ((0:Int)≤(↑np:Int)∧(↑np:Int)≤(↑np:Int)∧(↑np:Int)≤1000000)) then (bif (lim .i64 ((↑np:Int)-1)) then (some (.inl (.h0 (0) (0) ((↑np:Int)-1) (S.mkl np fun j=>0) ([])))) else (none)) else (none))
noncomputable def Te57 (test:TT) (Kst:KS) (Kret:KR) (ap np mp:Nat) (tp:NI) (aq nq mq:Nat) (tq:NI):Prop:=test (decide ((↑np:Int)≤3)) (test (decide ((↑nq:Int)≤3)) (test (decide (ap+np≤mp∧np≤3∧(S.okD np fun j=>tp (j+ap))=true)) (test (decide (aq+nq≤mq∧nq≤3∧(S.okD nq fun j=>tq (j+aq))=true)) (test (decide ((S.val nq fun j=>tq (j+aq))=0)) (False) (test (lim .i64 (Int.tdiv (S.val np fun j=>tp (j+ap)) (S.val nq fun j=>tq (j+aq)))) (test (decide ((0:Int)≤Int.tdiv (S.val np fun j=>tp (j+ap)) (S.val nq fun j=>tq (j+aq))∧Int.tdiv (S.val np fun j=>tp (j+ap)) (S.val nq fun j=>tq (j+aq))≤9223372036854775807)) (test (decide (ap+np≤mp∧np≤3∧(S.okD np fun j=>tp (j+ap))=true)) (test (decide (aq+nq≤mq∧nq≤3∧(S.okD nq fun j=>tq (j+aq))=true)) (test (decide ((S.val nq fun j=>tq (j+aq))=0)) (False) (test (decide ((0:Int)≤Int.tmod (S.val np fun j=>tp (j+ap)) (S.val nq fun j=>tq (j+aq))∧Int.tmod (S.val np fun j=>tp (j+ap)) (S.val nq fun j=>tq (j+aq))≤9223372036854775807)) (Kret (PV.tup [PV.own (5) (1) (List.length (S.grp (Int.tdiv (S.val np fun j=>tp (j+ap)) (S.val nq fun j=>tq (j+aq))))),PV.own (9) (1) (List.length (S.grp (Int.tmod (S.val np fun j=>tp (j+ap)) (S.val nq fun j=>tq (j+aq)))))]) ([[(1,false,Blk.cols mq [Col.int .i64 tq]),(0,false,Blk.cols mp [Col.int .i64 tp]),(9,true,Blk.cols (List.length (S.grp (Int.tmod (S.val np fun j=>tp (j+ap)) (S.val nq fun j=>tq (j+aq))))) [Col.int .i64 fun j=>S.at' (S.grp (Int.tmod (S.val np fun j=>tp (j+ap)) (S.val nq fun j=>tq (j+aq)))) j]),(5,true,Blk.cols (List.length (S.grp (Int.tdiv (S.val np fun j=>tp (j+ap)) (S.val nq fun j=>tq (j+aq))))) [Col.int .i64 fun j=>S.at' (S.grp (Int.tdiv (S.val np fun j=>tp (j+ap)) (S.val nq fun j=>tq (j+aq)))) j])]]) (10)) (False))) (False)) (False)) (False)) (False))) (False)) (False)) (test (decide ((0:Int)≤(↑np:Int)∧(↑np:Int)≤(↑np:Int)∧(↑np:Int)≤1000000)) (test (lim .i64 ((↑np:Int)-1)) (Kst (hd Tryz.f101 0) ([PV.loose (PA.mk (0) (1) ap (0)) np,PV.loose (PA.mk (1) (1) aq (0)) nq,PV.own (2) (1) np,PV.nils,PV.int .i64 (↑nq:Int),PV.int .i64 ((↑np:Int)-1),PV.unk,PV.unk]) ([[(1,false,Blk.cols mq [Col.int .i64 tq]),(0,false,Blk.cols mp [Col.int .i64 tp]),(2,true,Blk.cols np [Col.int .i64 fun (x:Nat)=>0])]]) (3)) (False)) (False))) (test (decide ((0:Int)≤(↑np:Int)∧(↑np:Int)≤(↑np:Int)∧(↑np:Int)≤1000000)) (test (lim .i64 ((↑np:Int)-1)) (Kst (hd Tryz.f101 0) ([PV.loose (PA.mk (0) (1) ap (0)) np,PV.loose (PA.mk (1) (1) aq (0)) nq,PV.own (2) (1) np,PV.nils,PV.int .i64 (↑nq:Int),PV.int .i64 ((↑np:Int)-1),PV.unk,PV.unk]) ([[(1,false,Blk.cols mq [Col.int .i64 tq]),(0,false,Blk.cols mp [Col.int .i64 tp]),(2,true,Blk.cols np [Col.int .i64 fun (x:Nat)=>0])]]) (3)) (False)) (False))
theorem te57 (test:TT) (Kst:KS) (Kret:KR) (ap np mp:Nat) (tp:NI) (aq nq mq:Nat) (tq:NI):run test Tryz.env true (xG1 test) true 400 ⟨101,[.cd (mkFn Tryz.f101).body],argT 0 [.loose ⟨0,1,ap,0⟩ np,.loose ⟨1,1,aq,0⟩ nq],[[],[(0,(false,.cols mp [.int .i64 tp])),(1,(false,.cols mq [.int .i64 tq]))]],2⟩ (proj 2 [0,1,6,7,8,9,12,13] Kst Kret)=
  Te57 test Kst Kret ap np mp tp aq nq mq tq:=by kernel_rfl
noncomputable abbrev u57_0_0 (ap:Nat) (tp:NI) (x0 x1:Nat) (x2:Int) (x4:List Int):=S.trim (S.mkl (1+x1) fun j=>bif Nat.blt j (1) then tp (Int.toNat x2+ap) else S.at' x4 (j-1+x0))
noncomputable abbrev u57_0_1 (aq:Nat) (nq:Nat) (tq:NI):=tq (Int.toNat ((↑nq:Int)-1)+aq)*1000000+tq (Int.toNat ((↑nq:Int)-2)+aq)
noncomputable def T57_0 (test:TT) (Kst:KS) (Kret:KR) (ap np mp:Nat) (tp:NI) (aq nq mq:Nat) (tq:NI) (x0:Nat) (x1:Nat) (x2:Int) (x3:List Int) (x4:List Int):Prop:=test (decide (x2≥0)) (test (decide ((0:Int)≤x2∧x2<(↑np:Int))) (test (decide (Int.toNat x2+ap<mp)) (test (decide (1+x1≤1000000)) (test (true) (test (decide (x0+x1≤List.length x4)) (test (decide (1+x1≤1+x1)) (test (decide (1+x1≤1000000)) (test (decide ((↑(List.length (c57_0_0 ap tp x0 x1 x2 x4)):Int)<(↑nq:Int))) (test (lim .i64 (x2-1)) (Kst (hd Tryz.f101 0) ([PV.loose (PA.mk (0) (1) ap (0)) np,PV.loose (PA.mk (1) (1) aq (0)) nq,PV.own (2) (1) (List.length x3),PV.own (5) (1) (List.length (c57_0_0 ap tp x0 x1 x2 x4)),PV.int .i64 (↑nq:Int),PV.int .i64 (x2-1),PV.unk,PV.unk]) (c57_0_5 ap mp tp mq tq x0 x1 x2 x3 x4) (7)) (False)) (test (lim .i64 ((↑nq:Int)-1)) (test (decide ((0:Int)≤(↑nq:Int)-1∧(↑nq:Int)-1<(↑nq:Int))) (test (decide (Int.toNat ((↑nq:Int)-1)+aq<mq)) (test (decide (0+List.length (c57_0_0 ap tp x0 x1 x2 x4)≤List.length (c57_0_0 ap tp x0 x1 x2 x4)∧(0:Int)≤(↑nq:Int))) (test (lim .i64 (S.ext (List.length (c57_0_0 ap tp x0 x1 x2 x4)) (fun j=>S.at' (c57_0_0 ap tp x0 x1 x2 x4) j) nq*1000000)) (test (lim .i64 ((↑nq:Int)-1)) (test (decide (0+List.length (c57_0_0 ap tp x0 x1 x2 x4)≤List.length (c57_0_0 ap tp x0 x1 x2 x4)∧(0:Int)≤(↑nq:Int)-1)) (test (lim .i64 (c57_0_1 ap tp nq x0 x1 x2 x4)) (test (decide ((↑nq:Int)>1)) (test (lim .i64 (tq (Int.toNat ((↑nq:Int)-1)+aq)*1000000)) (test (lim .i64 ((↑nq:Int)-2)) (test (decide ((0:Int)≤(↑nq:Int)-2∧(↑nq:Int)-2<(↑nq:Int))) (test (decide (Int.toNat ((↑nq:Int)-2)+aq<mq)) (test (lim .i64 (u57_0_1 aq nq tq)) (test (lim .i64 ((c57_0_1 ap tp nq x0 x1 x2 x4)*1000000)) (test (lim .i64 ((↑nq:Int)-2)) (test (decide (0+List.length (c57_0_0 ap tp x0 x1 x2 x4)≤List.length (c57_0_0 ap tp x0 x1 x2 x4)∧(0:Int)≤(↑nq:Int)-2)) (test (lim .i64 ((c57_0_1 ap tp nq x0 x1 x2 x4)*1000000+S.ext (List.length (c57_0_0 ap tp x0 x1 x2 x4)) (fun j=>S.at' (c57_0_0 ap tp x0 x1 x2 x4) j) (Int.toNat ((↑nq:Int)-2)))) (test (lim .i64 (tq (Int.toNat ((↑nq:Int)-1)+aq)*1000000+tq (Int.toNat ((↑nq:Int)-2)+aq)+1)) (test (decide (tq (Int.toNat ((↑nq:Int)-1)+aq)*1000000+tq (Int.toNat ((↑nq:Int)-2)+aq)+1=0)) (False) (test (lim .i64 (c57_0_3 ap tp aq nq tq x0 x1 x2 x4)) (test (lim .i64 (c57_0_4 ap tp nq x0 x1 x2 x4)) (test (decide (tq (Int.toNat ((↑nq:Int)-1)+aq)*1000000+tq (Int.toNat ((↑nq:Int)-2)+aq)=0)) (False) (test (lim .i64 (Int.tdiv (c57_0_4 ap tp nq x0 x1 x2 x4) (u57_0_1 aq nq tq))) (Kst (hd Tryz.f101 1) ([PV.loose (PA.mk (0) (1) ap (0)) np,PV.loose (PA.mk (1) (1) aq (0)) nq,PV.own (2) (1) (List.length x3),PV.own (5) (1) (List.length (c57_0_0 ap tp x0 x1 x2 x4)),PV.int .i64 (↑nq:Int),PV.int .i64 x2,PV.int .i64 (c57_0_3 ap tp aq nq tq x0 x1 x2 x4),PV.int .i64 (Min.min (Int.tdiv ((S.ext (List.length (u57_0_0 ap tp x0 x1 x2 x4)) (fun j=>S.at' (u57_0_0 ap tp x0 x1 x2 x4) j) nq*1000000+S.ext (List.length (u57_0_0 ap tp x0 x1 x2 x4)) (fun j=>S.at' (u57_0_0 ap tp x0 x1 x2 x4) j) (Int.toNat ((↑nq:Int)-1)))*1000000+S.ext (List.length (c57_0_0 ap tp x0 x1 x2 x4)) (fun j=>S.at' (c57_0_0 ap tp x0 x1 x2 x4) j) (Int.toNat ((↑nq:Int)-2))+1) (u57_0_1 aq nq tq)) (999999:Int))]) (c57_0_5 ap mp tp mq tq x0 x1 x2 x3 x4) (10)) (False))) (False)) (False))) (False)) (False)) (False)) (False)) (False)) (False)) (False)) (False)) (False)) (False)) (test (lim .i64 (tq (Int.toNat ((↑nq:Int)-1)+aq)+1)) (test (decide (tq (Int.toNat ((↑nq:Int)-1)+aq)+1=0)) (False) (test (lim .i64 (Int.tdiv (c57_0_1 ap tp nq x0 x1 x2 x4) (tq (Int.toNat ((↑nq:Int)-1)+aq)+1))) (test (lim .i64 (c57_0_2 ap tp nq x0 x1 x2 x4)) (test (decide (tq (Int.toNat ((↑nq:Int)-1)+aq)=0)) (False) (test (lim .i64 (Int.tdiv (c57_0_2 ap tp nq x0 x1 x2 x4) (tq (Int.toNat ((↑nq:Int)-1)+aq)))) (Kst (hd Tryz.f101 1) ([PV.loose (PA.mk (0) (1) ap (0)) np,PV.loose (PA.mk (1) (1) aq (0)) nq,PV.own (2) (1) (List.length x3),PV.own (5) (1) (List.length (c57_0_0 ap tp x0 x1 x2 x4)),PV.int .i64 (↑nq:Int),PV.int .i64 x2,PV.int .i64 (Int.tdiv (c57_0_1 ap tp nq x0 x1 x2 x4) (tq (Int.toNat ((↑nq:Int)-1)+aq)+1)),PV.int .i64 (Min.min (Int.tdiv (c57_0_2 ap tp nq x0 x1 x2 x4) (tq (Int.toNat ((↑nq:Int)-1)+aq))) (999999:Int))]) (c57_0_5 ap mp tp mq tq x0 x1 x2 x3 x4) (9)) (False))) (False)) (False))) (False))) (False)) (False)) (False)) (False)) (False)) (False)) (False)) (False))) (False)) (False)) (False)) (False)) (False)) (False)) (False)) (test (decide (List.length x3≤List.length x3)) (test (decide (List.length x3≤1000000)) (Kret (PV.tup [PV.own (2) (1) (List.length (S.trim (S.mkl (List.length x3) fun j=>S.at' x3 j))),PV.loose (PA.mk (3) (1) x0 (0)) x1]) ([[(1,false,Blk.cols mq [Col.int .i64 tq]),(0,false,Blk.cols mp [Col.int .i64 tp]),(3,true,Blk.cols (List.length x4) [Col.int .i64 fun j=>S.at' x4 j]),(2,true,Blk.cols (List.length (S.trim (S.mkl (List.length x3) fun j=>S.at' x3 j))) [Col.int .i64 fun j=>S.at' (S.trim (S.mkl (List.length x3) fun j=>S.at' x3 j)) j])]]) (5)) (False)) (False))
theorem t57_0 (test:TT) (Kst:KS) (Kret:KR) (ap np mp:Nat) (tp:NI) (aq nq mq:Nat) (tq:NI) (x0 x1:Nat) (x2:Int) (x3 x4:List Int):run test Tryz.env true (xG1 test) true 400 ⟨101,hd Tryz.f101 0,zipT [0,1,6,7,8,9,12,13] [PV.loose (PA.mk (0) (1) ap (0)) np,
 PV.loose (PA.mk (1) (1) aq (0)) nq,
 PV.own (2) (1) (List.length x3),
 PV.loose (PA.mk (3) (1) x0 (0)) x1,PV.int .i64 (↑nq:Int),
 PV.int .i64 x2,PV.unk,PV.unk],[[(2,(true,Blk.cols (List.length x3) [Col.int .i64 fun j=>S.at' x3 j])),(3,(true,Blk.cols (List.length x4) [Col.int .i64 fun j=>S.at' x4 j]))],[(0,(false,.cols mp [.int .i64 tp])),(1,(false,.cols mq [.int .i64 tq]))]],4⟩ (proj 2 [0,1,6,7,8,9,12,13] Kst Kret)=
  T57_0 test Kst Kret ap np mp tp aq nq mq tq x0 x1 x2 x3 x4:=by kernel_rfl
noncomputable def T57_1 (test:TT) (Kst:KS) (Kret:KR) (ap np mp:Nat) (tp:NI) (aq nq mq:Nat) (tq:NI) (x0:Nat) (x1 x2 x3:Int) (x4 x5:List Int):Prop:=test (decide (x2<x3)) (test (lim .i64 (x2+x3)) (test (lim .i64 (x2+x3+1)) (test (false) (False) (test (lim .i64 (Int.tdiv (x2+x3+1) (2:Int))) (test (decide ((aq+nq≤mq∧1≤1)∧(nq≤1000∧1≤1000)∧(S.okD nq fun j=>tq (j+aq))=true∧(S.okD (1) fun j=>S.lit [Int.tdiv (x2+x3+1) (2:Int)] (0:Int) j)=true)) (test (decide (0+List.length (c57_1_1 aq nq tq x2 x3)≤List.length (c57_1_1 aq nq tq x2 x3)∧List.length (c57_1_1 aq nq tq x2 x3)≤1000000∧0+x0≤List.length x5∧x0≤1000000∧(S.okG (List.length (c57_1_1 aq nq tq x2 x3)) fun j=>S.at' (c57_1_1 aq nq tq x2 x3) j)=true∧(S.okG x0 fun j=>S.at' x5 j)=true)) (test (decide (S.cmpS (S.val (List.length (c57_1_1 aq nq tq x2 x3)) fun j=>S.at' (c57_1_1 aq nq tq x2 x3) j) (S.val x0 fun j=>S.at' x5 j)≤0)) (Kst (hd Tryz.f101 1) ([PV.loose (PA.mk (0) (1) ap (0)) np,PV.loose (PA.mk (1) (1) aq (0)) nq,PV.own (2) (1) (List.length x4),PV.loose (PA.mk (3) (1) (0) (0)) x0,PV.int .i64 (↑nq:Int),PV.int .i64 x1,PV.int .i64 (Int.tdiv (x2+x3+1) (2:Int)),PV.int .i64 x3]) ([[(1,false,Blk.cols mq [Col.int .i64 tq]),(0,false,Blk.cols mp [Col.int .i64 tp]),(3,true,Blk.cols (List.length x5) [Col.int .i64 fun j=>S.at' x5 j]),(2,true,Blk.cols (List.length x4) [Col.int .i64 fun j=>S.at' x4 j])]]) (8)) (test (lim .i64 (Int.tdiv (x2+x3+1) (2:Int)-1)) (Kst (hd Tryz.f101 1) ([PV.loose (PA.mk (0) (1) ap (0)) np,PV.loose (PA.mk (1) (1) aq (0)) nq,PV.own (2) (1) (List.length x4),PV.loose (PA.mk (3) (1) (0) (0)) x0,PV.int .i64 (↑nq:Int),PV.int .i64 x1,PV.int .i64 x2,PV.int .i64 (Int.tdiv (x2+x3+1) (2:Int)-1)]) ([[(1,false,Blk.cols mq [Col.int .i64 tq]),(0,false,Blk.cols mp [Col.int .i64 tp]),(3,true,Blk.cols (List.length x5) [Col.int .i64 fun j=>S.at' x5 j]),(2,true,Blk.cols (List.length x4) [Col.int .i64 fun j=>S.at' x4 j])]]) (8)) (False))) (False)) (False)) (False))) (False)) (False)) (test (decide ((0:Int)≤x1∧x1<(↑(List.length x4):Int))) (test (decide (Int.toNat x1<List.length x4)) (test (decide ((aq+nq≤mq∧1≤1)∧(nq≤1000∧1≤1000)∧(S.okD nq fun j=>tq (j+aq))=true∧(S.okD (1) fun j=>S.lit [x2] (0:Int) j)=true)) (test (decide ((0+x0≤List.length x5∧0+List.length (c57_1_0 aq nq tq x2)≤List.length (c57_1_0 aq nq tq x2))∧(x0≤1000∧List.length (c57_1_0 aq nq tq x2)≤1000)∧(S.okG x0 fun j=>S.at' x5 j)=true∧(S.okG (List.length (c57_1_0 aq nq tq x2)) fun j=>S.at' (c57_1_0 aq nq tq x2) j)=true∧(S.val (List.length (c57_1_0 aq nq tq x2)) fun j=>S.at' (c57_1_0 aq nq tq x2) j)≤S.val x0 fun j=>S.at' x5 j)) (test (lim .i64 (x1-1)) (Kst (hd Tryz.f101 0) ([PV.loose (PA.mk (0) (1) ap (0)) np,PV.loose (PA.mk (1) (1) aq (0)) nq,PV.own (2) (1) (List.length x4),PV.own (8) (1) (List.length (S.grp ((S.val x0 fun j=>S.at' x5 j)-S.val (List.length (c57_1_0 aq nq tq x2)) fun j=>S.at' (c57_1_0 aq nq tq x2) j))),PV.int .i64 (↑nq:Int),PV.int .i64 (x1-1),PV.int .i64 x2,PV.int .i64 x3]) ([[(1,false,Blk.cols mq [Col.int .i64 tq]),(0,false,Blk.cols mp [Col.int .i64 tp]),(8,true,Blk.cols (List.length (S.grp ((S.val x0 fun j=>S.at' x5 j)-S.val (List.length (c57_1_0 aq nq tq x2)) fun j=>S.at' (c57_1_0 aq nq tq x2) j))) [Col.int .i64 fun j=>S.at' (S.grp ((S.val x0 fun j=>S.at' x5 j)-S.val (List.length (c57_1_0 aq nq tq x2)) fun j=>S.at' (c57_1_0 aq nq tq x2) j)) j]),(2,true,Blk.cols (List.length x4) [Col.int .i64 fun j=>bif Nat.beq j (Int.toNat x1) then x2 else S.at' x4 j])]]) (9)) (False)) (False)) (False)) (False)) (False))
theorem t57_1 (test:TT) (Kst:KS) (Kret:KR) (ap np mp:Nat) (tp:NI) (aq nq mq:Nat) (tq:NI) (x0:Nat) (x1 x2 x3:Int) (x4 x5:List Int):run test Tryz.env true (xG1 test) true 400 ⟨101,hd Tryz.f101 1,zipT [0,1,6,7,8,9,12,13] [PV.loose (PA.mk (0) (1) ap (0)) np,
 PV.loose (PA.mk (1) (1) aq (0)) nq,
 PV.own (2) (1) (List.length x4),
 PV.loose (PA.mk (3) (1) (0) (0)) x0,
 PV.int .i64 (↑nq:Int),PV.int .i64 x1,PV.int .i64 x2,
 PV.int .i64 x3],[[(2,(true,Blk.cols (List.length x4) [Col.int .i64 fun j=>S.at' x4 j])),(3,(true,Blk.cols (List.length x5) [Col.int .i64 fun j=>S.at' x5 j]))],[(0,(false,.cols mp [.int .i64 tp])),(1,(false,.cols mq [.int .i64 tq]))]],4⟩ (proj 2 [0,1,6,7,8,9,12,13] Kst Kret)=
  T57_1 test Kst Kret ap np mp tp aq nq mq tq x0 x1 x2 x3 x4 x5:=by kernel_rfl
noncomputable abbrev J57 (ap np mp:Nat) (tp:NI) (aq nq mq:Nat) (tq:NI):Rt57→Heap:=fun r=> [newL (2+1) ((N57 ap np mp tp aq nq mq tq) r)++ [(0,(false,.cols mp [.int .i64 tp])),(1,(false,.cols mq [.int .i64 tq]))]]
attribute [local irreducible] Int.subNatNat in
theorem be57 (ap np mp:Nat) (tp:NI) (aq nq mq:Nat) (tq:NI) (Kst:KS) (Kret:KR) (x:St57⊕Rt57) (hS:HS 2 400 ((I57 ap np mp tp aq nq mq tq)) Kst x) (hR:HR 2 400 ((V57 ap np mp tp aq nq mq tq)) (J57 ap np mp tp aq nq mq tq) Kret x) (h:p57 ap np mp tp aq nq mq tq=some x):Te57 cond Kst Kret ap np mp tp aq nq mq tq:=by
  unfold Te57
  unfold p57 at h
  refine bif_split h (fun c0 h=>bif_split h (fun c1 h=>bif_split h (fun c2 h=>bif_split h (fun c3 h=>bif_split h (fun c4 h=> ?_) (fun c4 h=>bif_split h (fun c5 h=>bif_split h (fun c6 h=>cond_yes c2 (cond_yes c3 (cond_no c4 (bif_split h (fun c7 h=>ret_at hR _ h (fun n=>bif Nat.beq n 3 then 5 else bif Nat.beq n 4 then 9 else n) rfl rfl rfl (rn_tup ⟨(rn_own (use_own rfl) rfl rfl),(rn_own_loose (use_own rfl) rfl rfl rfl),trivial⟩) rfl (entl_new (use_own rfl) rfl (Nat.le_of_eq rfl) (rcs_int (fun _ _=>rfl) rcs_nil) (entl_new (use_own rfl) rfl (Nat.le_of_eq rfl) (rcs_int (fun _ _=>rfl) rcs_nil) (entl_bor (use_lo rfl) rfl rfl (entl_bor (use_lo rfl) rfl rfl entl_nil))))) (fun c7 h=> ?_))))) (fun c6 h=> ?_)) (fun c5 h=> ?_))) (fun c3 h=> ?_)) (fun c2 h=> ?_)) (fun c1 h=>bif_split h (fun c2 h=>bif_split h (fun c3 h=> ?_) (fun c3 h=> ?_)) (fun c2 h=> ?_))) (fun c0 h=>bif_split h (fun c1 h=>bif_split h (fun c2 h=> ?_) (fun c2 h=> ?_)) (fun c1 h=> ?_))
  all_goals first
    |exact no_some h
    |exact stop_at hS _ h (fun n=>bif Nat.beq n 2 then 2 else bif Nat.beq n 3 then 399 else n) rfl rfl rfl ⟨(rn_loose (use_lo rfl) rfl rfl rfl),⟨(rn_loose (use_lo rfl) rfl rfl rfl),⟨(rn_own (use_own rfl) rfl mkl_len),⟨(rn_loose_nils rfl),⟨(rn_int rfl),⟨(rn_int rfl),⟨(rn_unk _),⟨(rn_unk _),trivial⟩⟩⟩⟩⟩⟩⟩⟩ rfl (entl_new (use_own rfl) rfl (Nat.le_of_eq mkl_len) (rcs_int (fun _ hj=>col_mkl (fun (t:Int)=>t) hj) rcs_nil) (entl_fresh (use_own rfl) (fresh_ok rfl) (entl_bor (use_lo rfl) rfl rfl (entl_bor (use_lo rfl) rfl rfl entl_nil))))
attribute [local irreducible] Int.subNatNat in
theorem b57_0 (ap np mp:Nat) (tp:NI) (aq nq mq:Nat) (tq:NI) (Kst:KS) (Kret:KR) (x:St57⊕Rt57) (hS:HS 2 400 ((I57 ap np mp tp aq nq mq tq)) Kst x) (hR:HR 2 400 ((V57 ap np mp tp aq nq mq tq)) (J57 ap np mp tp aq nq mq tq) Kret x) (x0 x1:Nat) (x2:Int) (x3 x4:List Int) (h:q57 ap np mp tp aq nq mq tq (.h0 x0 x1 x2 x3 x4)=some x):T57_0 cond Kst Kret ap np mp tp aq nq mq tq x0 x1 x2 x3 x4:=by
  unfold T57_0
  rw [q57] at h
  refine bif_split h (fun c0 h=>bif_split h (fun c1 h=>bif_split h (fun c2 h=>bif_split h (fun c3 h=>cond_yes rfl (bif_split h (fun c4 h=>bif_split h (fun c5 h=>cond_yes c3 (bif_split h (fun c6 h=>bif_split h (fun c7 h=>stop_at hS _ h (fun n=>bif Nat.beq n 2 then 2 else bif Nat.beq n 3 then 5 else n) rfl rfl rfl ⟨(rn_loose (use_lo rfl) rfl rfl rfl),⟨(rn_loose (use_lo rfl) rfl rfl rfl),⟨(rn_own (use_own rfl) rfl rfl),⟨(rn_own_loose (use_own rfl) rfl rfl rfl),⟨(rn_int rfl),⟨(rn_int rfl),⟨(rn_unk _),⟨(rn_unk _),trivial⟩⟩⟩⟩⟩⟩⟩⟩ rfl (entl_new (use_own rfl) rfl (Nat.le_of_eq rfl) (rcs_int (fun _ _=>rfl) rcs_nil) (entl_new (use_own rfl) rfl (Nat.le_of_eq rfl) (rcs_int (fun _ _=>rfl) rcs_nil) (entl_bor (use_lo rfl) rfl rfl (entl_bor (use_lo rfl) rfl rfl entl_nil))))) (fun c7 h=> ?_)) (fun c6 h=>bif_split h (fun c7 h=>bif_split h (fun c8 h=>bif_split h (fun c9 h=>bif_split h (fun c10 h=>bif_split h (fun c11 h=>cond_yes c7 (bif_split h (fun c12 h=>bif_split h (fun c13 h=>bif_split h (fun c14 h=>bif_split h (fun c15 h=>bif_split h (fun c16 h=>bif_split h (fun c17 h=>bif_split h (fun c18 h=>bif_split h (fun c19 h=>bif_split h (fun c20 h=>cond_yes c16 (bif_split h (fun c21 h=>bif_split h (fun c22 h=>bif_split h (fun c23 h=>bif_split h (fun c24 h=> ?_) (fun c24 h=>bif_split h (fun c25 h=>bif_split h (fun c26 h=>bif_split h (fun c27 h=> ?_) (fun c27 h=>bif_split h (fun c28 h=> ?_) (fun c28 h=> ?_))) (fun c26 h=> ?_)) (fun c25 h=> ?_))) (fun c23 h=> ?_)) (fun c22 h=> ?_)) (fun c21 h=> ?_))) (fun c20 h=> ?_)) (fun c19 h=> ?_)) (fun c18 h=> ?_)) (fun c17 h=> ?_)) (fun c16 h=> ?_)) (fun c15 h=> ?_)) (fun c14 h=>bif_split h (fun c15 h=>bif_split h (fun c16 h=> ?_) (fun c16 h=>bif_split h (fun c17 h=>bif_split h (fun c18 h=>bif_split h (fun c19 h=> ?_) (fun c19 h=>bif_split h (fun c20 h=> ?_) (fun c20 h=> ?_))) (fun c18 h=> ?_)) (fun c17 h=> ?_))) (fun c15 h=> ?_))) (fun c13 h=> ?_)) (fun c12 h=> ?_))) (fun c11 h=> ?_)) (fun c10 h=> ?_)) (fun c9 h=> ?_)) (fun c8 h=> ?_)) (fun c7 h=> ?_)))) (fun c5 h=> ?_)) (fun c4 h=> ?_))) (fun c3 h=> ?_)) (fun c2 h=> ?_)) (fun c1 h=> ?_)) (fun c0 h=>bif_split h (fun c1 h=>bif_split h (fun c2 h=>ret_at hR _ h (fun n=>bif Nat.beq n 3 then 2 else bif Nat.beq n 4 then 3 else n) rfl rfl rfl (rn_tup ⟨(rn_own (use_own rfl) rfl rfl),(rn_loose (use_own rfl) rfl rfl rfl),trivial⟩) rfl (entl_new (use_own rfl) rfl (Nat.le_of_eq rfl) (rcs_int (fun _ _=>rfl) rcs_nil) (entl_new (use_own rfl) rfl (Nat.le_of_eq rfl) (rcs_int (fun _ _=>rfl) rcs_nil) (entl_bor (use_lo rfl) rfl rfl (entl_bor (use_lo rfl) rfl rfl entl_nil))))) (fun c2 h=> ?_)) (fun c1 h=> ?_))
  all_goals first
    |exact no_some h
    |exact stop_at hS _ h (fun n=>bif Nat.beq n 2 then 2 else bif Nat.beq n 3 then 5 else n) rfl rfl rfl ⟨(rn_loose (use_lo rfl) rfl rfl rfl),⟨(rn_loose (use_lo rfl) rfl rfl rfl),⟨(rn_own (use_own rfl) rfl rfl),⟨(rn_own_loose (use_own rfl) rfl rfl rfl),⟨(rn_int rfl),⟨(rn_int rfl),⟨(rn_int rfl),⟨(rn_int rfl),trivial⟩⟩⟩⟩⟩⟩⟩⟩ rfl (entl_new (use_own rfl) rfl (Nat.le_of_eq rfl) (rcs_int (fun _ _=>rfl) rcs_nil) (entl_new (use_own rfl) rfl (Nat.le_of_eq rfl) (rcs_int (fun _ _=>rfl) rcs_nil) (entl_bor (use_lo rfl) rfl rfl (entl_bor (use_lo rfl) rfl rfl entl_nil))))
attribute [local irreducible] Int.subNatNat in
theorem b57_1 (ap np mp:Nat) (tp:NI) (aq nq mq:Nat) (tq:NI) (Kst:KS) (Kret:KR) (x:St57⊕Rt57) (hS:HS 2 400 ((I57 ap np mp tp aq nq mq tq)) Kst x) (hR:HR 2 400 ((V57 ap np mp tp aq nq mq tq)) (J57 ap np mp tp aq nq mq tq) Kret x) (x0:Nat) (x1 x2 x3:Int) (x4 x5:List Int) (h:q57 ap np mp tp aq nq mq tq (.h1 x0 x1 x2 x3 x4 x5)=some x):T57_1 cond Kst Kret ap np mp tp aq nq mq tq x0 x1 x2 x3 x4 x5:=by
  unfold T57_1
  rw [q57] at h
  refine bif_split h (fun c0 h=>bif_split h (fun c1 h=>bif_split h (fun c2 h=>cond_no rfl (bif_split h (fun c3 h=>bif_split h (fun c4 h=>bif_split h (fun c5 h=>bif_split h (fun c6 h=> ?_) (fun c6 h=>bif_split h (fun c7 h=> ?_) (fun c7 h=> ?_))) (fun c5 h=> ?_)) (fun c4 h=> ?_)) (fun c3 h=> ?_))) (fun c2 h=> ?_)) (fun c1 h=> ?_)) (fun c0 h=>bif_split h (fun c1 h=>bif_split h (fun c2 h=>bif_split h (fun c3 h=>bif_split h (fun c4 h=>bif_split h (fun c5 h=>stop_at hS _ h (fun n=>bif Nat.beq n 2 then 2 else bif Nat.beq n 3 then 8 else n) rfl rfl rfl ⟨(rn_loose (use_lo rfl) rfl rfl rfl),⟨(rn_loose (use_lo rfl) rfl rfl rfl),⟨(rn_own (use_own rfl) rfl mkl_len),⟨(rn_own_loose (use_own rfl) rfl rfl rfl),⟨(rn_int rfl),⟨(rn_int rfl),⟨(rn_unk _),⟨(rn_unk _),trivial⟩⟩⟩⟩⟩⟩⟩⟩ rfl (entl_new (use_own rfl) rfl (Nat.le_of_eq mkl_len) (rcs_int (fun _ hj=>col_mkl (fun (t:Int)=>t) hj) rcs_nil) (entl_new (use_own rfl) rfl (Nat.le_of_eq rfl) (rcs_int (fun _ _=>rfl) rcs_nil) (entl_bor (use_lo rfl) rfl rfl (entl_bor (use_lo rfl) rfl rfl entl_nil))))) (fun c5 h=> ?_)) (fun c4 h=> ?_)) (fun c3 h=> ?_)) (fun c2 h=> ?_)) (fun c1 h=> ?_))
  all_goals first
    |exact no_some h
    |exact stop_at hS _ h (fun n=>bif Nat.beq n 2 then 2 else bif Nat.beq n 3 then 3 else n) rfl rfl rfl ⟨(rn_loose (use_lo rfl) rfl rfl rfl),⟨(rn_loose (use_lo rfl) rfl rfl rfl),⟨(rn_own (use_own rfl) rfl rfl),⟨(rn_loose (use_own rfl) rfl rfl rfl),⟨(rn_int rfl),⟨(rn_int rfl),⟨(rn_int rfl),⟨(rn_int rfl),trivial⟩⟩⟩⟩⟩⟩⟩⟩ rfl (entl_new (use_own rfl) rfl (Nat.le_of_eq rfl) (rcs_int (fun _ _=>rfl) rcs_nil) (entl_new (use_own rfl) rfl (Nat.le_of_eq rfl) (rcs_int (fun _ _=>rfl) rcs_nil) (entl_bor (use_lo rfl) rfl rfl (entl_bor (use_lo rfl) rfl rfl entl_nil))))
theorem a57 (ap np mp:Nat) (tp:NI) (aq nq mq:Nat) (tq:NI) {r:Rt57} (h:Goes ((q57 ap np mp tp aq nq mq tq)) ((p57 ap np mp tp aq nq mq tq)) r):CallR Tryz.prog 101 [.loose ⟨0,1,ap,0⟩ np,.loose ⟨1,1,aq,0⟩ nq] [[(0,(false,.cols mp [.int .i64 tp])),(1,(false,.cols mq [.int .i64 tq]))]] 2 ((V57 ap np mp tp aq nq mq tq) r) ((J57 ap np mp tp aq nq mq tq) r) 400∧ ∃ F,Tryz.prog.funcs[101]? =some F∧F.body.isSome=true∧(F.name== "runtime.NumGoroutine")=false:=by
  refine dec_calls (f:=101) (lo:=2) (hi:=400) Tryz.envOk Tryz.mixed xG1_ok ((I57 ap np mp tp aq nq mq tq)) ((V57 ap np mp tp aq nq mq tq)) (J57 ap np mp tp aq nq mq tq) (fn:=mkFn Tryz.f101) (ts:= [0,1,6,7,8,9,12,13]) (n:=400) rfl (by decide) (by simp) (names_of rfl) ?_ ?_ ?_ h
  · intro s; cases s<;>exact ⟨hd_ok _ _,by simp [I57],names_of rfl,Nat.le_of_ble_eq_true rfl⟩
  · intro Kst Kret x hS hR h
    exact Holds.eq (te57 cond Kst Kret ap np mp tp aq nq mq tq) (be57 ap np mp tp aq nq mq tq Kst Kret x hS hR h)
  · intro Kst Kret x hS hR s h
    cases s with
    |h0 x0 x1 x2 x3 x4=>exact Holds.eq (t57_0 cond Kst Kret ap np mp tp aq nq mq tq x0 x1 x2 x3 x4) (b57_0 ap np mp tp aq nq mq tq Kst Kret x hS hR x0 x1 x2 x3 x4 h)
    |h1 x0 x1 x2 x3 x4 x5=>exact Holds.eq (t57_1 cond Kst Kret ap np mp tp aq nq mq tq x0 x1 x2 x3 x4 x5) (b57_1 ap np mp tp aq nq mq tq Kst Kret x hS hR x0 x1 x2 x3 x4 x5 h)
noncomputable abbrev w57 {α:Type} (g:Nat→Nat→Nat→(Nat→Int)→Nat→Nat→Nat→(Nat→Int)→α) (x:(Nat×Nat×Nat×(Nat→Int)×Unit)×(Nat×Nat×Nat×(Nat→Int)×Unit)×Unit):α:=g x.1.1 x.1.2.1 x.1.2.2.1 x.1.2.2.2.1 x.2.1.1 x.2.1.2.1 x.2.1.2.2.1 x.2.1.2.2.2.1
noncomputable def k57:Con:=⟨101,[.one (.list [.int .i64]),.one (.list [.int .i64])],w57 (fun ap np mp tp aq nq mq tq=>decide ((ap+np≤mp∧aq+nq≤mq)∧(np≤900∧nq≤900)∧S.okG np (fun j=>tp (j+ap))=true∧S.okG nq (fun j=>tq (j+aq))=true∧0<nq)),w57 (fun ap np mp tp aq nq mq tq=>(V57 ap np mp tp aq nq mq tq) (0,(S.grp ((S.val np (fun j=>tp (j+ap))) % (S.val nq (fun j=>tq (j+aq))))).length,S.grp ((S.val np (fun j=>tp (j+ap))) / (S.val nq (fun j=>tq (j+aq)))),S.grp ((S.val np (fun j=>tp (j+ap))) % (S.val nq (fun j=>tq (j+aq)))))),w57 (fun ap np mp tp aq nq mq tq=>(N57 ap np mp tp aq nq mq tq) (0,(S.grp ((S.val np (fun j=>tp (j+ap))) % (S.val nq (fun j=>tq (j+aq))))).length,S.grp ((S.val np (fun j=>tp (j+ap))) / (S.val nq (fun j=>tq (j+aq)))),S.grp ((S.val np (fun j=>tp (j+ap))) % (S.val nq (fun j=>tq (j+aq)))))),fun _ _=> .dead⟩
theorem s57i (ap np mp:Nat) (tp:Nat→Int) (aq nq mq:Nat) (tq:Nat→Int) (hp:(ap+np≤mp∧aq+nq≤mq)∧(np≤900∧nq≤900)∧S.okG np (fun j=>tp (j+ap))=true∧S.okG nq (fun j=>tq (j+aq))=true∧0<nq) (X:Int) (hX:0≤X∧X<1000000*(S.val nq (fun j=>tq (j+aq)))) (i:Int) (Q:List Int) (res:Rt57) (hC:Comes (q57 ap np mp tp aq nq mq tq) (.h1 (S.grp X).length i (X / (S.val nq (fun j=>tq (j+aq)))) (X / (S.val nq (fun j=>tq (j+aq)))) Q (S.grp X)) res): ∀ (n:Nat) (a c:Int),(c-a).toNat≤n→0≤a→a≤X / (S.val nq (fun j=>tq (j+aq)))→X / (S.val nq (fun j=>tq (j+aq)))≤c→c≤999999→Comes (q57 ap np mp tp aq nq mq tq) (.h1 (S.grp X).length i a c Q (S.grp X)) res:=by
  obtain ⟨⟨hp1,hp2⟩,⟨hp3,hp4⟩,g1,g2,hq0⟩:=hp
  have vp:=val_pos g2 hq0
  have vl:=val_lt (okG_D g2) (Nat.le_refl nq)
  intro n
  induction n with
  |zero=>
    intro a c hn h0 ha hc h9
    obtain rfl:a=X / (S.val nq (fun j=>tq (j+aq))):=by omega
    obtain rfl:c=X / (S.val nq (fun j=>tq (j+aq))):=by omega
    exact hC
  | succ n ih=>
    intro a c hn h0 ha hc h9
    by_cases hac:a<c
    · have n1:Int.tdiv (a+c+1) 2=(a+c+1) / 2:=Int.tdiv_eq_ediv_of_nonneg (by omega)
      obtain ⟨m,hm⟩: ∃ m,m=(a+c+1) / 2:=⟨_,rfl⟩
      have i1:=ih m c (by omega) (by omega)
      have i2:=ih a (m-1) (by omega) (by omega)
      have hlit:(S.val 1 fun j=>S.lit [m] 0 j)=m:=mkl_lit rfl
      have hkD:(S.okD 1 fun j=>S.lit [m] 0 j)=true:=okD_iff.mpr fun j hj=>by rw [lit_at hj]; omega
      have c1:(aq+nq≤mq∧1≤1)∧(nq≤1000∧1≤1000)∧(S.okD nq fun j=>tq (j+aq))=true∧(S.okD 1 fun j=>S.lit [m] 0 j)=true:=⟨⟨hp2,Nat.le_refl _⟩,⟨by omega,by decide⟩,okG_D g2,hkD⟩
      have w0:0≤(S.val nq (fun j=>tq (j+aq)))*m:=Int.mul_nonneg (by omega) (by omega)
      have hv:=val_grpL w0
      have hv2:=val_grpL hX.1
      have l1:=grp_le (v:=(S.val nq (fun j=>tq (j+aq)))*m) (n:=nq+1) (by
        have h1:=(mul_lt (a:=nq) (b:=1) ⟨by omega,vl⟩ (show 0≤m∧m<S.pw 1 from ⟨by omega,by show m<1000000; omega⟩)).2
        exact h1)
      have l2:=grp_le (v:=X) (n:=nq+1) (by have:S.pw (nq+1)=1000000*S.pw nq:=rfl; omega)
      have c2:0+(S.grp ((S.val nq (fun j=>tq (j+aq)))*m)).length≤(S.grp ((S.val nq (fun j=>tq (j+aq)))*m)).length∧(S.grp ((S.val nq (fun j=>tq (j+aq)))*m)).length≤1000000∧0+(S.grp X).length≤(S.grp X).length∧(S.grp X).length≤1000000∧(S.okG (S.grp ((S.val nq (fun j=>tq (j+aq)))*m)).length fun j=>S.at' (S.grp ((S.val nq (fun j=>tq (j+aq)))*m)) j)=true∧(S.okG (S.grp X).length fun j=>S.at' (S.grp X) j)=true:=⟨by omega,by omega,by omega,by omega,grp_ok,grp_ok⟩
      have hle:S.cmpS ((S.val nq (fun j=>tq (j+aq)))*m) X≤0↔m≤X / (S.val nq (fun j=>tq (j+aq))):=by
        rw [Int.le_ediv_iff_mul_le vp,Int.mul_comm m]
        unfold S.cmpS
        (repeat' split)<;>omega
      apply Comes.of
      show Goes _ _ _
      rw [q57]
      simp only [c57_1_0,c57_1_1,n1,← hm,hlit,decide_eq_true c1,cond_true,decide_eq_true c2,hv,hv2]
      by_cases hd:m≤X / (S.val nq (fun j=>tq (j+aq)))
      · have i1:=i1 hd hc h9
        simp only [decide_eq_true (hle.mpr hd),cond_true]
        repeat' (first|with_reducible refine goes_if (fun h=> ?_) (fun h=> ?_)<;>(try simp only [SH] at h)|exact goes_none.mpr (by omega))
        all_goals first|(exfalso; omega)|exact i1
      · have i2:=i2 ha (by omega) (by omega)
        simp only [decide_eq_false (fun h=>hd (hle.mp h)),cond_false]
        repeat' (first|with_reducible refine goes_if (fun h=> ?_) (fun h=> ?_)<;>(try simp only [SH] at h)|exact goes_none.mpr (by omega))
        all_goals first|(exfalso; omega)|exact i2
    · obtain rfl:a=X / (S.val nq (fun j=>tq (j+aq))):=by omega
      obtain rfl:c=X / (S.val nq (fun j=>tq (j+aq))):=by omega
      exact hC
theorem s57' (ap np mp:Nat) (tp:Nat→Int) (aq nq mq:Nat) (tq:Nat→Int) (hp:(ap+np≤mp∧aq+nq≤mq)∧(np≤900∧nq≤900)∧S.okG np (fun j=>tp (j+ap))=true∧S.okG nq (fun j=>tq (j+aq))=true∧0<nq): ∀ (k:Nat) (R:Int) (Q:List Int),k≤np→R=S.valF (fun j=>tp (j+ap)) k (np-k) % (S.val nq (fun j=>tq (j+aq)))→Q.length=np→(∀ j,j<np→0≤S.at' Q j∧S.at' Q j<1000000)→(∀ j,j<k→S.at' Q j=0)→S.valF (S.at' Q) k (np-k)=S.valF (fun j=>tp (j+ap)) k (np-k) / (S.val nq (fun j=>tq (j+aq)))→Comes (q57 ap np mp tp aq nq mq tq) (.h0 0 (S.grp R).length ((k:Int)-1) Q (S.grp R)) (0,(S.grp ((S.val np (fun j=>tp (j+ap))) % (S.val nq (fun j=>tq (j+aq))))).length,S.grp ((S.val np (fun j=>tp (j+ap))) / (S.val nq (fun j=>tq (j+aq)))),S.grp ((S.val np (fun j=>tp (j+ap))) % (S.val nq (fun j=>tq (j+aq))))):=by
  have hp':=hp
  obtain ⟨⟨hp1,hp2⟩,⟨hp3,hp4⟩,g1,g2,hq0⟩:=hp
  have vp:=val_pos g2 hq0
  have vl:=val_lt (okG_D g2) (Nat.le_refl nq)
  have dP:=(okG_iff.mp g1).1
  have dQ:=(okG_iff.mp g2).1
  intro k
  induction k with
  | zero=>
    intro R Q hk hR hQ hd hz hv
    rw [Nat.sub_zero] at hR hv
    have e:S.trim (S.mkl Q.length fun j=>S.at' Q j)=S.grp ((S.val np (fun j=>tp (j+ap))) / (S.val nq (fun j=>tq (j+aq)))):=by
      rw [mkl1_at,trim_val hQ hd]
      exact congrArg S.grp hv
    have hR:R=(S.val np (fun j=>tp (j+ap))) % (S.val nq (fun j=>tq (j+aq))):=hR
    rw [← hR]
    apply Comes.of
    show Goes _ _ _
    rw [q57]
    rw [hQ] at e
    simp only [hQ,e]
    repeat' (first|with_reducible refine goes_if (fun h=> ?_) (fun h=> ?_)<;>(try simp only [SH] at h)|exact goes_none.mpr (by omega))
    all_goals first|(exfalso; omega)|exact goes_inr.mpr rfl
  | succ k ih=>
    intro R Q hk hR hQ hd hz hv
    have hx:=dP k (by omega)
    have st:=div_step (V:=(S.val nq (fun j=>tq (j+aq)))) (X:=S.valF (fun j=>tp (j+ap)) (k+1) (np-(k+1))) (x:=tp (k+ap)) vp hx (suf_nn dP)
    have s1:=suf_step (t:=(fun j=>tp (j+ap))) (n:=np) (i:=k) (by omega)
    (try dsimp only at s1 hx)
    rw [← s1,← hR] at st
    have r0:0≤R:=by rw [hR]; exact Int.emod_nonneg _ (by omega)
    have r1:R<(S.val nq (fun j=>tq (j+aq))):=by rw [hR]; exact Int.emod_lt_of_pos _ vp
    obtain ⟨X,hX⟩: ∃ X,X=tp (k+ap)+1000000*R:=⟨_,rfl⟩
    rw [← hX] at st
    obtain ⟨st1,st2,st3,st4⟩:=st
    have x0:0≤X:=by omega
    have x1:X<1000000*(S.val nq (fun j=>tq (j+aq))):=by omega
    have eT:S.trim (S.mkl (1+(S.grp R).length) fun j=>bif Nat.blt j 1 then tp (k+ap) else S.at' (S.grp R) (j-1+0))=S.grp X:=by
      rw [cons_trim hx fun y hy=>grp_dig y hy,val_grp r0,hX]
    have l2:=grp_le (v:=X) (n:=nq+1) (by have:S.pw (nq+1)=1000000*S.pw nq:=rfl; omega)
    have lR:=grp_le (v:=R) (n:=nq) (by omega)
    have e1:(((k+1:Nat):Int)-1)=k:=by omega
    rw [e1]
    have sv:S.valF (S.at' Q) (k+1) (np-(k+1))=S.valF (fun j=>tp (j+ap)) (k+1) (np-(k+1)) / (S.val nq (fun j=>tq (j+aq))):=hv
    by_cases hl:(S.grp X).length<nq
    · have xs:X<(S.val nq (fun j=>tq (j+aq))):=by
        refine Int.not_le.mp fun h=> ?_
        have:=len_ge (v:=X) (k:=nq-1) (Int.le_trans ?_ h)
        · omega
        · have h:=valF_snoc (t:=(fun j=>tq (j+aq))) (i:=0) (k:=nq-1)
          rw [show nq-1+1=nq by omega,Nat.zero_add] at h
          have h':(S.val nq (fun j=>tq (j+aq)))=S.valF (fun j=>tq (j+aq)) 0 (nq-1)+S.pw (nq-1)*tq (nq-1+aq):=h
          have n0:=valF_nn (t:=(fun j=>tq (j+aq))) (k:=nq-1) (i:=0) fun j _ h=>(dQ j (by omega)).1
          have l2:1≤tq (nq-1+aq):=by
            have:=(okG_iff.mp g2).2
            have h0:=dQ (nq-1) (by omega)
            (try dsimp only at h0)
            rcases this with h|h
            · omega
            · (try dsimp only at h); omega
          have:S.pw (nq-1)*1≤S.pw (nq-1)*tq (nq-1+aq):=Int.mul_le_mul_of_nonneg_left l2 (by have:=pw_pos (k:=nq-1); omega)
          omega
      have d0:X / (S.val nq (fun j=>tq (j+aq)))=0:=Int.ediv_eq_zero_of_lt x0 xs
      have d1:X % (S.val nq (fun j=>tq (j+aq)))=X:=Int.emod_eq_of_lt x0 xs
      have ih:=ih X Q (by omega) (by rw [st2,d1]) hQ hd (fun j hj=>hz j (by omega)) (by
        rw [st1,d0,show np-k=(np-(k+1))+1 by omega]
        simp only [S.valF]
        rw [hz k (by omega),← sv])
      apply Comes.of
      show Goes _ _ _
      rw [q57]
      simp only [c57_0_0,c57_0_1,c57_0_2,c57_0_3,c57_0_4,c57_0_5,Int.toNat_natCast,eT]
      generalize (S.grp X)=G at*
      repeat' (first|with_reducible refine goes_if (fun h=> ?_) (fun h=> ?_)<;>(try simp only [SH] at h)|exact goes_none.mpr (by omega))
      all_goals first|(exfalso; omega)|exact ih
    · obtain ⟨d,hdd⟩: ∃ d,d=X / (S.val nq (fun j=>tq (j+aq))):=⟨_,rfl⟩
      have hqd:(S.val nq (fun j=>tq (j+aq)))*d≤X∧X % (S.val nq (fun j=>tq (j+aq)))=X-(S.val nq (fun j=>tq (j+aq)))*d:=by
        have h3:=Int.emod_add_mul_ediv X (S.val nq (fun j=>tq (j+aq)))
        have h4:=Int.emod_nonneg X (show (S.val nq (fun j=>tq (j+aq)))≠0 by omega)
        rw [← hdd] at h3
        omega
      rw [← hdd] at st1 st3 st4
      have ih:=ih (X % (S.val nq (fun j=>tq (j+aq)))) (S.mkl np fun j=>bif Nat.beq j k then d else S.at' Q j) (by omega) st2.symm mkl_len (upd_dig hQ hd ⟨st3,st4⟩) (fun j hj=>by rw [upd_at (by omega),if_neg (by omega)]; exact hz j (by omega)) (by
        rw [st1,show np-k=(np-(k+1))+1 by omega]
        simp only [S.valF]
        rw [upd_at (by omega),if_pos rfl,← sv,valF_congr (u:=S.at' Q) fun j h1 h2=>by rw [upd_at (by omega),if_neg (by omega)]])
      have hlit:(S.val 1 fun j=>S.lit [d] 0 j)=d:=mkl_lit rfl
      have hkD:(S.okD 1 fun j=>S.lit [d] 0 j)=true:=okD_iff.mpr fun j hj=>by rw [lit_at hj]; omega
      have c1:(aq+nq≤mq∧1≤1)∧(nq≤1000∧1≤1000)∧(S.okD nq fun j=>tq (j+aq))=true∧(S.okD 1 fun j=>S.lit [d] 0 j)=true:=⟨⟨hp2,Nat.le_refl _⟩,⟨by omega,by decide⟩,okG_D g2,hkD⟩
      have w0:0≤(S.val nq (fun j=>tq (j+aq)))*d:=Int.mul_nonneg (by omega) st3
      have hv1:=val_grpL w0
      have hv2:=val_grpL x0
      have l1:=grp_le (v:=(S.val nq (fun j=>tq (j+aq)))*d) (n:=nq+1) (by have:S.pw (nq+1)=1000000*S.pw nq:=rfl; omega)
      have c2:(0+(S.grp X).length≤(S.grp X).length∧0+(S.grp ((S.val nq (fun j=>tq (j+aq)))*d)).length≤(S.grp ((S.val nq (fun j=>tq (j+aq)))*d)).length)∧((S.grp X).length≤1000∧(S.grp ((S.val nq (fun j=>tq (j+aq)))*d)).length≤1000)∧(S.okG (S.grp X).length fun j=>S.at' (S.grp X) j)=true∧(S.okG (S.grp ((S.val nq (fun j=>tq (j+aq)))*d)).length fun j=>S.at' (S.grp ((S.val nq (fun j=>tq (j+aq)))*d)) j)=true∧(S.val nq (fun j=>tq (j+aq)))*d≤X:=⟨⟨by omega,by omega⟩,⟨by omega,by omega⟩,grp_ok,grp_ok,hqd.1⟩
      have hE:Comes (q57 ap np mp tp aq nq mq tq) (.h1 (S.grp X).length (k:Int) d d Q (S.grp X)) (0,(S.grp ((S.val np (fun j=>tp (j+ap))) % (S.val nq (fun j=>tq (j+aq))))).length,S.grp ((S.val np (fun j=>tp (j+ap))) / (S.val nq (fun j=>tq (j+aq)))),S.grp ((S.val np (fun j=>tp (j+ap))) % (S.val nq (fun j=>tq (j+aq))))):=by
        rw [hqd.2] at ih
        apply Comes.of
        show Goes _ _ _
        rw [q57]
        simp only [c57_1_0,c57_1_1,hlit,decide_eq_true c1,cond_true,hv1,hv2,decide_eq_true c2,Int.toNat_natCast,hQ]
        generalize S.grp (X-_)=G at*
        repeat' (first|with_reducible refine goes_if (fun h=> ?_) (fun h=> ?_)<;>(try simp only [SH] at h)|exact goes_none.mpr (by omega))
        all_goals first|(exfalso; omega)|exact ih
      have hI:=fun a c h0 h1 h2 h3=>s57i ap np mp tp aq nq mq tq hp' X ⟨x0,x1⟩ (k:Int) Q (0,(S.grp ((S.val np (fun j=>tp (j+ap))) % (S.val nq (fun j=>tq (j+aq))))).length,S.grp ((S.val np (fun j=>tp (j+ap))) / (S.val nq (fun j=>tq (j+aq)))),S.grp ((S.val np (fun j=>tp (j+ap))) % (S.val nq (fun j=>tq (j+aq))))) (by rw [← hdd]; exact hE) (c-a).toNat a c (Nat.le_refl _) h0 h1 h2 h3
      rw [← hdd] at hI
      have gd: ∀ j,0≤S.at' (S.grp X) j∧S.at' (S.grp X) j<1000000:=fun j=>grp_at
      have xv:=grp_valF (k:=nq+1) x0 (by have:S.pw (nq+1)=1000000*S.pw nq:=rfl; omega)
      have topp:1≤tq (nq-1+aq):=by
        have:=(okG_iff.mp g2).2
        have h0:=dQ (nq-1) (by omega)
        (try dsimp only at h0)
        rcases this with h|h
        · omega
        · (try dsimp only at h); omega
      have e2:((nq:Int)-1).toNat=nq-1:=by omega
      have e3:((nq:Int)-2).toNat=nq-2:=by omega
      have tq1:=dQ (nq-1) (by omega)
      (try dsimp only at tq1)
      have g0:=gd (nq-2)
      have g1':=gd (nq-1)
      have g2':=gd nq
      have c3:0+(S.grp X).length≤(S.grp X).length∧0≤(nq:Int):=by omega
      have c4:0+(S.grp X).length≤(S.grp X).length∧0≤(nq:Int)-1:=by omega
      clear ih hE hv st1 st2 sv hv1 hv2 c1 c2 hlit hkD s1 l1 hd hz
      by_cases hn:nq=1
      · have hvq:(S.val nq (fun j=>tq (j+aq)))=tq (nq-1+aq):=by subst hn; exact mkl_lit rfl
        have xv:S.at' (S.grp X) (nq-1)+1000000*S.at' (S.grp X) nq=X:=by
          subst hn
          simp only [S.valF,Nat.zero_add,Nat.sub_self] at xv ⊢
          omega
        have gs:=guess (X:=X) (V:=(S.val nq (fun j=>tq (j+aq)))) (P:=1) (v:=tq (nq-1+aq)) (t:=S.at' (S.grp X) nq*1000000+S.at' (S.grp X) (nq-1)) (by decide) (by omega) (by rw [hvq]; omega) (by rw [hvq]; omega) (by omega) (by omega) (by omega)
        rw [← hdd] at gs
        have hI:=hI (Int.tdiv (S.at' (S.grp X) nq*1000000+S.at' (S.grp X) (nq-1)) (tq (nq-1+aq)+1)) (min (Int.tdiv (S.at' (S.grp X) nq*1000000+S.at' (S.grp X) (nq-1)+1) (tq (nq-1+aq))) 999999) gs.1 gs.2.1 (by omega) (by omega)
        apply Comes.of
        show Goes _ _ _
        rw [q57]
        simp only [c57_0_0,c57_0_1,c57_0_2,c57_0_3,c57_0_4,c57_0_5,Int.toNat_natCast,eT,ext_at,e2,decide_eq_true c3,decide_eq_true c4,cond_true]
        generalize Int.tdiv (S.at' (S.grp X) nq*1000000+S.at' (S.grp X) (nq-1)) (tq (nq-1+aq)+1)=t1 at*
        generalize Int.tdiv (S.at' (S.grp X) nq*1000000+S.at' (S.grp X) (nq-1)+1) (tq (nq-1+aq))=t2 at*
        clear eT
        repeat' (first|with_reducible refine goes_if (fun h=> ?_) (fun h=> ?_)<;>(try simp only [SH] at h)|exact goes_none.mpr (by omega))
        all_goals first|(exfalso; omega)|exact hI
      · have hw:=pw_pos (k:=nq-2)
        have tq2:=dQ (nq-2) (by omega)
        (try dsimp only at tq2)
        have xv:S.valF (fun j=>S.at' (S.grp X) j) 0 (nq-2)+S.pw (nq-2)*((S.at' (S.grp X) nq*1000000+S.at' (S.grp X) (nq-1))*1000000+S.at' (S.grp X) (nq-2))=X:=by
          rw [show nq+1=nq-2+3 by omega,valF_add,Nat.zero_add] at xv
          simp only [S.valF] at xv
          rw [show nq-2+1=nq-1 by omega,show nq-1+1=nq by omega] at xv
          refine Eq.trans ?_ xv
          congr 2
          omega
        have vv:S.valF (fun j=>tq (j+aq)) 0 (nq-2)+S.pw (nq-2)*(tq (nq-1+aq)*1000000+tq (nq-2+aq))=(S.val nq (fun j=>tq (j+aq))):=by
          have h:(S.val nq (fun j=>tq (j+aq)))=S.valF (fun j=>tq (j+aq)) 0 (nq-2+2):=by rw [show nq-2+2=nq by omega]; rfl
          rw [h,valF_add,Nat.zero_add]
          simp only [S.valF]
          rw [show nq-2+1=nq-1 by omega]
          congr 2
          omega
        have lv0:=valF_nn (t:=(fun j=>tq (j+aq))) (k:=nq-2) (i:=0) fun j _ h=>(dQ j (by omega)).1
        have lv1:=valF_lt (t:=(fun j=>tq (j+aq))) (k:=nq-2) (i:=0) fun j _ h=>dQ j (by omega)
        have lu0:=valF_nn (t:=fun j=>S.at' (S.grp X) j) (k:=nq-2) (i:=0) fun j _ h=>(gd j).1
        have lu1:=valF_lt (t:=fun j=>S.at' (S.grp X) j) (k:=nq-2) (i:=0) fun j _ h=>gd j
        obtain ⟨v,hvv⟩: ∃ v,v=tq (nq-1+aq)*1000000+tq (nq-2+aq):=⟨_,rfl⟩
        obtain ⟨t,htt⟩: ∃ t,t=(S.at' (S.grp X) nq*1000000+S.at' (S.grp X) (nq-1))*1000000+S.at' (S.grp X) (nq-2):=⟨_,rfl⟩
        rw [← hvv,Int.mul_comm _ v] at vv
        rw [← htt,Int.mul_comm _ t] at xv
        have gs:=guess (X:=X) (V:=(S.val nq (fun j=>tq (j+aq)))) (P:=S.pw (nq-2)) (v:=v) (t:=t) hw (by omega) (by omega) (by rw [Int.add_mul]; omega) (by omega) (by rw [Int.add_mul]; omega) (by omega)
        rw [← hdd] at gs
        have hI:=hI (Int.tdiv t (v+1)) (min (Int.tdiv (t+1) v) 999999) gs.1 gs.2.1 (by omega) (by omega)
        have c5:0+(S.grp X).length≤(S.grp X).length∧0≤(nq:Int)-2:=by omega
        clear xv vv lv0 lv1 lu0 lu1 hw
        apply Comes.of
        show Goes _ _ _
        rw [q57]
        simp only [c57_0_0,c57_0_1,c57_0_2,c57_0_3,c57_0_4,c57_0_5,Int.toNat_natCast,eT,ext_at,e2,e3,decide_eq_true c3,decide_eq_true c4,decide_eq_true c5,cond_true,← hvv,← htt]
        generalize Int.tdiv t (v+1)=t1 at*
        generalize Int.tdiv (t+1) v=t2 at*
        clear eT
        repeat' (first|with_reducible refine goes_if (fun h=> ?_) (fun h=> ?_)<;>(try simp only [SH] at h)|exact goes_none.mpr (by omega))
        all_goals first|(exfalso; omega)|exact hI
theorem s57 (ap np mp:Nat) (tp:Nat→Int) (aq nq mq:Nat) (tq:Nat→Int) (hp:(ap+np≤mp∧aq+nq≤mq)∧(np≤900∧nq≤900)∧S.okG np (fun j=>tp (j+ap))=true∧S.okG nq (fun j=>tq (j+aq))=true∧0<nq):Goes ((q57 ap np mp tp aq nq mq tq)) ((p57 ap np mp tp aq nq mq tq)) ((0,(S.grp ((S.val np (fun j=>tp (j+ap))) % (S.val nq (fun j=>tq (j+aq))))).length,S.grp ((S.val np (fun j=>tp (j+ap))) / (S.val nq (fun j=>tq (j+aq)))),S.grp ((S.val np (fun j=>tp (j+ap))) % (S.val nq (fun j=>tq (j+aq)))))):=by
  have hp':=hp
  obtain ⟨⟨hp1,hp2⟩,⟨hp3,hp4⟩,g1,g2,hq0⟩:=hp
  have vp:=val_pos g2 hq0
  have up:=val_nn (okG_D g1)
  have z: ∀ j,S.at' (S.mkl np fun _=>(0:Int)) j=0:=fun j=>by
    by_cases h:j<np
    · exact at_mkl h
    · simp [S.at',List.getElem?_eq_none (show (S.mkl np fun _=>(0:Int)).length≤j by rw [mkl_len]; omega)]
  have hm:=s57' ap np mp tp aq nq mq tq hp' np 0 (S.mkl np fun _=>0) (Nat.le_refl _) (by rw [Nat.sub_self]; exact (Int.zero_emod _).symm) mkl_len (fun j _=>by rw [z]; omega) (fun j _=>z j) (by rw [Nat.sub_self]; exact (Int.zero_ediv _).symm)
  rw [grp_zero] at hm
  by_cases h3:np≤3∧nq≤3
  · have c1:ap+np≤mp∧np≤3∧S.okD np (fun j=>tp (j+ap))=true:=⟨hp1,h3.1,okG_D g1⟩
    have c2:aq+nq≤mq∧nq≤3∧S.okD nq (fun j=>tq (j+aq))=true:=⟨hp2,h3.2,okG_D g2⟩
    have ul:=val_lt (okG_D g1) h3.1
    have vl:=val_lt (okG_D g2) h3.2
    have w3:S.pw 3=1000000000000000000:=rfl
    rw [← Int.tdiv_eq_ediv_of_nonneg up,← Int.tmod_eq_emod_of_nonneg up]
    have d0:0≤Int.tdiv (S.val np (fun j=>tp (j+ap))) (S.val nq (fun j=>tq (j+aq)))∧Int.tdiv (S.val np (fun j=>tp (j+ap))) (S.val nq (fun j=>tq (j+aq)))≤(S.val np (fun j=>tp (j+ap))):=by rw [Int.tdiv_eq_ediv_of_nonneg up]; exact ⟨Int.ediv_nonneg up (by omega),Int.ediv_le_self _ up⟩
    have m0:0≤Int.tmod (S.val np (fun j=>tp (j+ap))) (S.val nq (fun j=>tq (j+aq)))∧Int.tmod (S.val np (fun j=>tp (j+ap))) (S.val nq (fun j=>tq (j+aq)))<(S.val nq (fun j=>tq (j+aq))):=by rw [Int.tmod_eq_emod_of_nonneg up]; exact ⟨Int.emod_nonneg _ (by omega),Int.emod_lt_of_pos _ vp⟩
    unfold p57
    simp only [decide_eq_true c1,decide_eq_true c2,cond_true]
    generalize Int.tdiv (S.val np (fun j=>tp (j+ap))) (S.val nq (fun j=>tq (j+aq)))=D at*
    generalize Int.tmod (S.val np (fun j=>tp (j+ap))) (S.val nq (fun j=>tq (j+aq)))=M at*
    generalize (S.val np (fun j=>tp (j+ap)))=U at*
    generalize (S.val nq (fun j=>tq (j+aq)))=V at*
    repeat' (first|with_reducible refine goes_if (fun h=> ?_) (fun h=> ?_)<;>(try simp only [SH] at h)|exact goes_none.mpr (by omega))
    all_goals first|(exfalso; omega)|exact goes_inr.mpr rfl
  · unfold p57
    repeat' (first|with_reducible refine goes_if (fun h=> ?_) (fun h=> ?_)<;>(try simp only [SH] at h)|exact goes_none.mpr (by omega))
    all_goals first|(exfalso; omega)|exact hm
theorem k57_ok:k57.ok Tryz.prog:=by
  intro x hx
  obtain ⟨⟨ap,np,mp,tp,_⟩,⟨aq,nq,mq,tq,_⟩,_⟩:=x
  obtain ⟨h1,h2⟩:=a57 ap np mp tp aq nq mq tq (s57 ap np mp tp aq nq mq tq (of_dec hx rfl))
  exact ⟨⟨400,(by decide:2+1+2≤400),h1⟩,h2⟩
noncomputable def xG2 (test:Bool→Prop→Prop→Prop):Ext:=consX test [k69,k65,k69v,k65v,k60,k61,k44,k73,k55,k45,k58,k56,k59,k46,k18,k19,k54,k57]
theorem xG2_ok:ExtOk Tryz.prog (xG2 cond):=consX_ok ⟨k69_ok,k65_ok,k69v_ok,k65v_ok,k60_ok,k61_ok,k44_ok,k73_ok,k55_ok,k45_ok,k58_ok,k56_ok,k59_ok,k46_ok,k18_ok,k19_ok,k54_ok,k57_ok,trivial⟩
namespace S
noncomputable def divV (v w:Int):Bool×Int×List Int×List Int:=if (grp ((v / w).natAbs:Int)).length>80 then (false,3,[],[]) else (decide (v / w<0),0,grp (v % w),grp ((v / w).natAbs:Int))
noncomputable def divI (n1:Bool) (n:Nat) (t:Nat→Int) (n2:Bool) (m:Nat) (u:Nat→Int):Bool×Int×List Int×List Int:=if okI n1 n t=true∧okI n2 m u=true then (if m=0 then (false,13,[],[]) else divV (sv n1 (val n t)) (sv n2 (val m u))) else (false,1,[],[])
def dq (n1:Bool) (V W:Int):Int:=if n1=true∧V % W>0 then V / W+1 else V / W
def dr (n1:Bool) (V W:Int):Int:=if n1=true∧V % W>0 then W-V % W else V % W
end S
theorem ediv_at {p q c m:Int} (h0:0≤m) (h1:m<q) (h:p=q*c+m):p / q=c∧p % q=m:=by
  have e:p / q=c:=by rw [h,Int.add_comm,Int.add_mul_ediv_left _ _ (by omega),Int.ediv_eq_zero_of_lt h0 h1,Int.zero_add]
  refine ⟨e,?_⟩
  rw [Int.emod_def,e]; omega
theorem div_sv {n1 n2:Bool} {V W:Int} (hV:0≤V) (hW:0<W):S.sv n1 V / S.sv n2 W=S.sv (n1 != n2) (S.dq n1 V W)∧S.sv n1 V % S.sv n2 W=S.dr n1 V W∧0≤S.dq n1 V W∧S.dq n1 V W≤V / W+1∧0≤S.dr n1 V W∧S.dr n1 V W<W:=by
  have h1:=Int.emod_nonneg V (show W≠0 by omega)
  have h2:=Int.emod_lt_of_pos V hW
  have h3:=Int.mul_ediv_add_emod V W
  have h4:=Int.ediv_nonneg hV (show 0≤W by omega)
  have key:S.sv n1 V / W=S.sv n1 (S.dq n1 V W)∧S.sv n1 V % W=S.dr n1 V W∧0≤S.dq n1 V W∧S.dq n1 V W≤V / W+1∧0≤S.dr n1 V W∧S.dr n1 V W<W:=by
    unfold S.dq S.dr S.sv
    cases n1
    · simp only [cond_false,Bool.false_eq_true,false_and,if_false]
      exact ⟨trivial,trivial,h4,by omega,h1,h2⟩
    · simp only [cond_true,true_and]
      by_cases hR:V % W>0
      · rw [if_pos hR,if_pos hR]
        obtain ⟨e1,e2⟩:=ediv_at (p:= -V) (q:=W) (c:= -(V / W+1)) (m:=W-V % W) (by omega) (by omega) (by
          rw [Int.mul_neg,Int.mul_add]; omega)
        rw [e1,e2]
        exact ⟨rfl,rfl,by omega,by omega,by omega,by omega⟩
      · rw [if_neg hR,if_neg hR]
        obtain ⟨e1,e2⟩:=ediv_at (p:= -V) (q:=W) (c:= -(V / W)) (m:=0) (by omega) (by omega) (by
          rw [Int.mul_neg]; omega)
        rw [e1,e2]
        exact ⟨rfl,by omega,by omega,by omega,by omega,by omega⟩
  obtain ⟨k1,k2,k3⟩:=key
  refine ⟨?_,?_,k3⟩
  · cases n2
    · show S.sv n1 V / W=_
      rw [k1]; cases n1<;>rfl
    · show S.sv n1 V / (-W)=_
      rw [Int.ediv_neg,k1]; cases n1<;>simp [S.sv]
  · cases n2
    · exact k2
    · show S.sv n1 V % (-W)=_
      rw [Int.emod_neg,k2]
theorem divV_sv {n1 n2:Bool} {V W:Int} (hV:0≤V) (hW:0<W):S.divV (S.sv n1 V) (S.sv n2 W)=if (S.grp (S.dq n1 V W)).length>80 then (false,3,[],[]) else (S.sgB (n1 != n2) (S.dq n1 V W),0,S.grp (S.dr n1 V W),S.grp (S.dq n1 V W)):=by
  obtain ⟨h1,h2,h3,-⟩:=div_sv (n1:=n1) (n2:=n2) hV hW
  unfold S.divV
  rw [h1,h2]
  have e:=big_of (neg:=(n1 != n2)) h3
  unfold S.bigI at e
  simp only [Prod.mk.injEq] at e
  rw [e.1,e.2]
  rfl
theorem fin_q {c:Bool} {q:Int} (hq:0≤q) (h:((S.grp q).length:Int)=0):S.sgB c q=false∧S.grp q= []:=by
  have:q≤0:=len_zero.mp (by omega)
  refine ⟨?_,grp_neg this⟩
  unfold S.sgB
  rw [decide_eq_false (by omega),Bool.and_false]
theorem fin_q2 {c:Bool} {q:Int} (h: ¬ ((S.grp q).length:Int)=0):S.sgB c q=c:=by
  have: ¬ q≤0:=fun h2=>h (by have:=len_zero.mpr h2; omega)
  unfold S.sgB
  rw [decide_eq_true (by omega),Bool.and_true]
theorem fin_r {r:Int} (h:((S.grp r).length:Int)=0):S.grp r= []:=List.length_eq_zero_iff.mp (by omega)
section
variable {c:Bool} {q r:Int}
abbrev G9:Bool×Int×List Int×List Int→Bool×Int×List Int×List Int:=fun e=>(e.1,e.2.1,e.2.2.1,e.2.2.2)
abbrev G0:Bool×Int×List Int×List Int→Bool×Bool×Int×List Int×List Int:=fun e=>(e.1,false,e.2.1,e.2.2.1,e.2.2.2)
theorem finA (hq:0≤q) (h:((S.grp q).length:Int)=0) (h2:((S.grp r).length:Int)=0):(S.sgB c q,(0:Int),S.grp r,S.grp q)=(false,0,[],[]):=by rw [(fin_q hq h).1,(fin_q (c:=c) hq h).2,fin_r h2]
theorem finB (hq:0≤q) (h:((S.grp q).length:Int)=0):(S.sgB c q,(0:Int),S.grp r,S.grp q)=(false,0,S.grp r,[]):=by rw [(fin_q hq h).1,(fin_q (c:=c) hq h).2]
theorem finC (h: ¬ ((S.grp q).length:Int)=0) (h2:((S.grp r).length:Int)=0):(S.sgB c q,(0:Int),S.grp r,S.grp q)=(c,0,[],S.grp q):=by rw [fin_q2 h,fin_r h2]
theorem finD (h: ¬ ((S.grp q).length:Int)=0):(S.sgB c q,(0:Int),S.grp r,S.grp q)=(c,0,S.grp r,S.grp q):=by rw [fin_q2 h]
end
noncomputable abbrev c29_e_0 (ap np:Nat) (tp:NI) (aq nq:Nat) (tq:NI):=S.grp ((S.val nq fun j=>tq (j+aq))-S.val (List.length (S.grp ((S.val np fun j=>tp (j+ap)) % S.val nq fun j=>tq (j+aq)))) fun j=>S.at' (S.grp ((S.val np fun j=>tp (j+ap)) % S.val nq fun j=>tq (j+aq))) j)
noncomputable abbrev c29_e_1 (ap np mp:Nat) (tp:NI) (aq nq mq:Nat) (tq:NI):=([[(1,false,Blk.cols mq [Col.int .i64 tq]),(0,false,Blk.cols mp [Col.int .i64 tp]),(9,true,Blk.cols (List.length (S.grp ((S.val np fun j=>tp (j+ap)) % S.val nq fun j=>tq (j+aq)))) [Col.int .i64 fun j=>S.at' (S.grp ((S.val np fun j=>tp (j+ap)) % S.val nq fun j=>tq (j+aq))) j])]])
noncomputable abbrev c29_e_2 (ap np:Nat) (tp:NI) (aq nq:Nat) (tq:NI):=S.grp ((S.val (List.length (S.grp ((S.val np fun j=>tp (j+ap)) / S.val nq fun j=>tq (j+aq)))) fun j=>S.at' (S.grp ((S.val np fun j=>tp (j+ap)) / S.val nq fun j=>tq (j+aq))) j)+1)
noncomputable abbrev c29_e_3 (mp:Nat) (tp:NI) (mq:Nat) (tq:NI):=([[(1,false,Blk.cols mq [Col.int .i64 tq]),(0,false,Blk.cols mp [Col.int .i64 tp])]])
noncomputable abbrev c29_e_4 (ap np mp:Nat) (tp:NI) (aq nq mq:Nat) (tq:NI):=([[(1,false,Blk.cols mq [Col.int .i64 tq]),(0,false,Blk.cols mp [Col.int .i64 tp]),(9,true,Blk.cols (List.length (S.grp ((S.val np fun j=>tp (j+ap)) % S.val nq fun j=>tq (j+aq)))) [Col.int .i64 fun j=>S.at' (S.grp ((S.val np fun j=>tp (j+ap)) % S.val nq fun j=>tq (j+aq))) j]),(10,true,Blk.cols (List.length (S.grp ((S.val np fun j=>tp (j+ap)) / S.val nq fun j=>tq (j+aq)))) [Col.int .i64 fun j=>S.at' (S.grp ((S.val np fun j=>tp (j+ap)) / S.val nq fun j=>tq (j+aq))) j])]])
noncomputable abbrev c29_e_5 (ap np:Nat) (tp:NI) (aq nq:Nat) (tq:NI):=(PV.tup [PV.agg [PV.tf false,PV.nils],PV.agg [PV.tf false,PV.own (9) (1) (List.length (S.grp ((S.val np fun j=>tp (j+ap)) % S.val nq fun j=>tq (j+aq))))],PV.int .i64 (0:Int)])
noncomputable abbrev c29_e_6:=(PV.tup [PV.agg [PV.tf false,PV.nils],PV.agg [PV.tf false,PV.nils],PV.int .i64 (0:Int)])
noncomputable abbrev c29_e_7 (ap np:Nat) (tp:NI) (aq nq:Nat) (tq:NI):=(↑(List.length (S.grp ((S.val np fun j=>tp (j+ap)) % S.val nq fun j=>tq (j+aq)))):Int)==0
noncomputable abbrev c29_e_8 (ap np mp:Nat) (tp:NI) (aq nq mq:Nat) (tq:NI):=([[(1,false,Blk.cols mq [Col.int .i64 tq]),(0,false,Blk.cols mp [Col.int .i64 tp]),(10,true,Blk.cols (List.length (S.grp ((S.val np fun j=>tp (j+ap)) / S.val nq fun j=>tq (j+aq)))) [Col.int .i64 fun j=>S.at' (S.grp ((S.val np fun j=>tp (j+ap)) / S.val nq fun j=>tq (j+aq))) j])]])
noncomputable abbrev c29_e_9 (ap np mp:Nat) (tp:NI) (aq nq mq:Nat) (tq:NI):=([[(1,false,Blk.cols mq [Col.int .i64 tq]),(0,false,Blk.cols mp [Col.int .i64 tp]),(15,true,Blk.cols (List.length (c29_e_0 ap np tp aq nq tq)) [Col.int .i64 fun j=>S.at' (c29_e_0 ap np tp aq nq tq) j])]])
noncomputable abbrev c29_e_10 (ap np:Nat) (tp:NI) (aq nq:Nat) (tq:NI):=List.length (S.grp ((S.val np fun j=>tp (j+ap)) / S.val nq fun j=>tq (j+aq)))
noncomputable abbrev c29_e_11:=(PV.tup [PV.agg [PV.tf false,PV.nils],PV.agg [PV.tf false,PV.nils],PV.int .i64 (3:Int)])
noncomputable abbrev c29_e_12 (ap np:Nat) (tp:NI) (aq nq:Nat) (tq:NI):=(PV.tup [PV.agg [PV.tf false,PV.nils],PV.agg [PV.tf false,PV.own (15) (1) (List.length (c29_e_0 ap np tp aq nq tq))],PV.int .i64 (0:Int)])
noncomputable abbrev c29_e_13 (ap np:Nat) (tp:NI) (aq nq:Nat) (tq:NI):=S.grp ((S.val np fun j=>tp (j+ap)) / S.val nq fun j=>tq (j+aq))
noncomputable abbrev c29_e_14 (ap np mp:Nat) (tp:NI) (aq nq mq:Nat) (tq:NI):=([[(1,false,Blk.cols mq [Col.int .i64 tq]),(0,false,Blk.cols mp [Col.int .i64 tp]),(15,true,Blk.cols (List.length (c29_e_0 ap np tp aq nq tq)) [Col.int .i64 fun j=>S.at' (c29_e_0 ap np tp aq nq tq) j]),(13,true,Blk.cols (List.length (c29_e_2 ap np tp aq nq tq)) [Col.int .i64 fun j=>S.at' (c29_e_2 ap np tp aq nq tq) j])]])
noncomputable abbrev c29_e_15 (ap np:Nat) (tp:NI) (aq nq:Nat) (tq:NI):=S.grp ((S.val np fun j=>tp (j+ap)) % S.val nq fun j=>tq (j+aq))
noncomputable abbrev c29_e_16 (ap np:Nat) (tp:NI) (aq nq:Nat) (tq:NI):=(S.val nq fun j=>tq (j+aq))-S.val (List.length (S.grp ((S.val np fun j=>tp (j+ap)) % S.val nq fun j=>tq (j+aq)))) fun j=>S.at' (S.grp ((S.val np fun j=>tp (j+ap)) % S.val nq fun j=>tq (j+aq))) j
noncomputable abbrev c29_e_17 (ap np mp:Nat) (tp:NI) (aq nq mq:Nat) (tq:NI):=([[(1,false,Blk.cols mq [Col.int .i64 tq]),(0,false,Blk.cols mp [Col.int .i64 tp]),(13,true,Blk.cols (List.length (c29_e_2 ap np tp aq nq tq)) [Col.int .i64 fun j=>S.at' (c29_e_2 ap np tp aq nq tq) j])]])
abbrev St29:=Empty
abbrev Rt29:=Bool×Int×List Int×List Int
noncomputable def V29 (n1:Bool) (ap np mp:Nat) (tp:NI) (n2:Bool) (aq nq mq:Nat) (tq:NI) (r:Rt29):PV:=PV.tup [PV.agg [PV.bool r.1,PV.own (4) (1) (List.length r.2.2.2)],PV.agg [PV.tf false,PV.own (3) (1) (List.length r.2.2.1)],PV.int .i64 r.2.1]
noncomputable def N29 (n1:Bool) (ap np mp:Nat) (tp:NI) (n2:Bool) (aq nq mq:Nat) (tq:NI) (r:Rt29):List Blk:= [Blk.cols (List.length r.2.2.1) [Col.int .i64 fun j=>S.at' r.2.2.1 j],Blk.cols (List.length r.2.2.2) [Col.int .i64 fun j=>S.at' r.2.2.2 j]]
noncomputable def I29 (n1:Bool) (ap np mp:Nat) (tp:NI) (n2:Bool) (aq nq mq:Nat) (tq:NI):St29→Hd:=fun s=>s.elim
noncomputable def q29 (n1:Bool) (ap np mp:Nat) (tp:NI) (n2:Bool) (aq nq mq:Nat) (tq:NI):St29→Option (St29⊕Rt29):=fun s=>s.elim
noncomputable abbrev d29_0 (n1:Bool) (ap np mp:Nat) (tp:NI) (n2:Bool) (aq nq mq:Nat) (tq:NI):Option (St29⊕Rt29):=(bif ((↑(c29_e_10 ap np tp aq nq tq):Int)==0) then (bif (c29_e_7 ap np tp aq nq tq) then (some (.inr (false,(0:Int),[],[]))) else (some (.inr (false,(0:Int),S.grp ((S.val np fun j=>tp (j+ap)) % S.val nq fun j=>tq (j+aq)),[])))) else (bif (decide ((↑(c29_e_10 ap np tp aq nq tq):Int)>80)) then (some (.inr (false,(3:Int),[],[]))) else (bif (c29_e_7 ap np tp aq nq tq) then (some (.inr (false,(0:Int),[],S.grp ((S.val np fun j=>tp (j+ap)) / S.val nq fun j=>tq (j+aq))))) else (some (.inr (false,(0:Int),S.grp ((S.val np fun j=>tp (j+ap)) % S.val nq fun j=>tq (j+aq)),S.grp ((S.val np fun j=>tp (j+ap)) / S.val nq fun j=>tq (j+aq))))))))
noncomputable abbrev d29_1 (n1:Bool) (ap np mp:Nat) (tp:NI) (n2:Bool) (aq nq mq:Nat) (tq:NI):Option (St29⊕Rt29):=(bif ((↑(c29_e_10 ap np tp aq nq tq):Int)==0) then (bif (c29_e_7 ap np tp aq nq tq) then (some (.inr (false,(0:Int),[],[]))) else (some (.inr (false,(0:Int),S.grp ((S.val np fun j=>tp (j+ap)) % S.val nq fun j=>tq (j+aq)),[])))) else (bif (decide ((↑(c29_e_10 ap np tp aq nq tq):Int)>80)) then (some (.inr (false,(3:Int),[],[]))) else (bif (c29_e_7 ap np tp aq nq tq) then (some (.inr (true,(0:Int),[],S.grp ((S.val np fun j=>tp (j+ap)) / S.val nq fun j=>tq (j+aq))))) else (some (.inr (true,(0:Int),S.grp ((S.val np fun j=>tp (j+ap)) % S.val nq fun j=>tq (j+aq)),S.grp ((S.val np fun j=>tp (j+ap)) / S.val nq fun j=>tq (j+aq))))))))
noncomputable def p29 (n1:Bool) (ap np mp:Nat) (tp:NI) (n2:Bool) (aq nq mq:Nat) (tq:NI):Option (St29⊕Rt29):=bif (decide (ap+np≤mp∧np≤1000000)) then (bif (S.okI n1 np fun j=>tp (j+ap)) then (bif (decide (aq+nq≤mq∧nq≤1000000)) then (bif (S.okI n2 nq fun j=>tq (j+aq)) then (bif ((↑nq:Int)==0) then (some (.inr (false,(13:Int),[],[]))) else (bif (decide ((ap+np≤mp∧aq+nq≤mq)∧(np≤900∧nq≤900)∧(S.okG np fun j=>tp (j+ap))=true∧(S.okG nq fun j=>tq (j+aq))=true∧0<nq)) then (bif (n1) then (bif (decide ((↑(List.length (S.grp ((S.val np fun j=>tp (j+ap)) % S.val nq fun j=>tq (j+aq)))):Int)>0)) then (bif (decide ((0+List.length (c29_e_13 ap np tp aq nq tq)≤List.length (S.grp ((S.val np fun j=>tp (j+ap)) / S.val nq fun j=>tq (j+aq)))∧1≤1)∧(List.length (c29_e_13 ap np tp aq nq tq)≤1000∧1≤1000)∧(S.okG (List.length (c29_e_13 ap np tp aq nq tq)) fun j=>S.at' (c29_e_13 ap np tp aq nq tq) j)=true∧true=true)) then (bif (decide ((aq+nq≤mq∧0+List.length (c29_e_15 ap np tp aq nq tq)≤List.length (S.grp ((S.val np fun j=>tp (j+ap)) % S.val nq fun j=>tq (j+aq))))∧(nq≤1000∧List.length (c29_e_15 ap np tp aq nq tq)≤1000)∧(S.okG nq fun j=>tq (j+aq))=true∧(S.okG (List.length (c29_e_15 ap np tp aq nq tq)) fun j=>S.at' (c29_e_15 ap np tp aq nq tq) j)=true∧(S.val (List.length (c29_e_15 ap np tp aq nq tq)) fun j=>S.at' (c29_e_15 ap np tp aq nq tq) j)≤S.val nq fun j=>tq (j+aq))) then (bif (n2) then (bif ((↑(List.length (c29_e_2 ap np tp aq nq tq)):Int)==0) then (bif ((↑(List.length (c29_e_0 ap np tp aq nq tq)):Int)==0) then (some (.inr (false,(0:Int),[],[]))) else (some (.inr (false,(0:Int),S.grp (c29_e_16 ap np tp aq nq tq),[])))) else (bif (decide ((↑(List.length (c29_e_2 ap np tp aq nq tq)):Int)>80)) then (some (.inr (false,(3:Int),[],[]))) else (bif ((↑(List.length (c29_e_0 ap np tp aq nq tq)):Int)==0) then (some (.inr (false,(0:Int),[],S.grp ((S.val (c29_e_10 ap np tp aq nq tq) fun j=>S.at' (S.grp ((S.val np fun j=>tp (j+ap)) / S.val nq fun j=>tq (j+aq))) j)+1)))) else (some (.inr (false,(0:Int),S.grp (c29_e_16 ap np tp aq nq tq),S.grp ((S.val (c29_e_10 ap np tp aq nq tq) fun j=>S.at' (S.grp ((S.val np fun j=>tp (j+ap)) / S.val nq fun j=>tq (j+aq))) j)+1))))))) else (bif ((↑(List.length (c29_e_2 ap np tp aq nq tq)):Int)==0) then (bif ((↑(List.length (c29_e_0 ap np tp aq nq tq)):Int)==0) then (some (.inr (false,(0:Int),[],[]))) else (some (.inr (false,(0:Int),S.grp (c29_e_16 ap np tp aq nq tq),[])))) else (bif (decide ((↑(List.length (c29_e_2 ap np tp aq nq tq)):Int)>80)) then (some (.inr (false,(3:Int),[],[]))) else (bif ((↑(List.length (c29_e_0 ap np tp aq nq tq)):Int)==0) then (some (.inr (true,(0:Int),[],S.grp ((S.val (c29_e_10 ap np tp aq nq tq) fun j=>S.at' (S.grp ((S.val np fun j=>tp (j+ap)) / S.val nq fun j=>tq (j+aq))) j)+1)))) else (some (.inr (true,(0:Int),S.grp (c29_e_16 ap np tp aq nq tq),S.grp ((S.val (c29_e_10 ap np tp aq nq tq) fun j=>S.at' (S.grp ((S.val np fun j=>tp (j+ap)) / S.val nq fun j=>tq (j+aq))) j)+1)))))))) else (none)) else (none)) else (bif (n2) then (d29_0 n1 ap np mp tp n2 aq nq mq tq) else (d29_1 n1 ap np mp tp n2 aq nq mq tq))) else (bif (n2) then (d29_1 n1 ap np mp tp n2 aq nq mq tq) else (d29_0 n1 ap np mp tp n2 aq nq mq tq))) else (none))) else (some (.inr (false,(1:Int),[],[])))) else (none)) else (some (.inr (false,(1:Int),[],[])))) else (none)
noncomputable abbrev g29_2 (test:TT) (Kst:KS) (Kret:KR) (n1:Bool) (ap np mp:Nat) (tp:NI) (n2:Bool) (aq nq mq:Nat) (tq:NI):Prop:=(test ((↑(c29_e_10 ap np tp aq nq tq):Int)==0) (test (false) (test (true) (Kret (c29_e_11) (c29_e_3 mp tp mq tq) (15)) (test (c29_e_7 ap np tp aq nq tq) (Kret (c29_e_6) (c29_e_3 mp tp mq tq) (16)) (Kret (c29_e_5 ap np tp aq nq tq) (c29_e_1 ap np mp tp aq nq mq tq) (16)))) (test (false) (Kret (c29_e_6) (c29_e_3 mp tp mq tq) (15)) (test (c29_e_7 ap np tp aq nq tq) (Kret (c29_e_6) (c29_e_3 mp tp mq tq) (16)) (Kret (c29_e_5 ap np tp aq nq tq) (c29_e_1 ap np mp tp aq nq mq tq) (16))))) (test (decide ((↑(c29_e_10 ap np tp aq nq tq):Int)>80)) (test (true) (Kret (c29_e_11) (c29_e_3 mp tp mq tq) (15)) (test (c29_e_7 ap np tp aq nq tq) (Kret (c29_e_6) (c29_e_3 mp tp mq tq) (16)) (Kret (c29_e_5 ap np tp aq nq tq) (c29_e_1 ap np mp tp aq nq mq tq) (16)))) (test (false) (Kret (c29_e_6) (c29_e_3 mp tp mq tq) (15)) (test (c29_e_7 ap np tp aq nq tq) (Kret (PV.tup [PV.agg [PV.tf false,PV.own (10) (1) (List.length (c29_e_13 ap np tp aq nq tq))],PV.agg [PV.tf false,PV.nils],PV.int .i64 (0:Int)]) (c29_e_8 ap np mp tp aq nq mq tq) (16)) (Kret (PV.tup [PV.agg [PV.tf false,PV.own (10) (1) (List.length (c29_e_13 ap np tp aq nq tq))],PV.agg [PV.tf false,PV.own (9) (1) (List.length (c29_e_15 ap np tp aq nq tq))],PV.int .i64 (0:Int)]) (c29_e_4 ap np mp tp aq nq mq tq) (16))))))
noncomputable abbrev g29_3 (test:TT) (Kst:KS) (Kret:KR) (n1:Bool) (ap np mp:Nat) (tp:NI) (n2:Bool) (aq nq mq:Nat) (tq:NI):Prop:=(test ((↑(c29_e_10 ap np tp aq nq tq):Int)==0) (test (false) (test (true) (Kret (c29_e_11) (c29_e_3 mp tp mq tq) (15)) (test (c29_e_7 ap np tp aq nq tq) (Kret (c29_e_6) (c29_e_3 mp tp mq tq) (16)) (Kret (c29_e_5 ap np tp aq nq tq) (c29_e_1 ap np mp tp aq nq mq tq) (16)))) (test (false) (Kret (c29_e_6) (c29_e_3 mp tp mq tq) (15)) (test (c29_e_7 ap np tp aq nq tq) (Kret (c29_e_6) (c29_e_3 mp tp mq tq) (16)) (Kret (c29_e_5 ap np tp aq nq tq) (c29_e_1 ap np mp tp aq nq mq tq) (16))))) (test (decide ((↑(c29_e_10 ap np tp aq nq tq):Int)>80)) (test (true) (Kret (c29_e_11) (c29_e_3 mp tp mq tq) (15)) (test (c29_e_7 ap np tp aq nq tq) (Kret (c29_e_6) (c29_e_3 mp tp mq tq) (16)) (Kret (c29_e_5 ap np tp aq nq tq) (c29_e_1 ap np mp tp aq nq mq tq) (16)))) (test (false) (Kret (c29_e_6) (c29_e_3 mp tp mq tq) (15)) (test (c29_e_7 ap np tp aq nq tq) (Kret (PV.tup [PV.agg [PV.tf true,PV.own (10) (1) (List.length (c29_e_13 ap np tp aq nq tq))],PV.agg [PV.tf false,PV.nils],PV.int .i64 (0:Int)]) (c29_e_8 ap np mp tp aq nq mq tq) (16)) (Kret (PV.tup [PV.agg [PV.tf true,PV.own (10) (1) (List.length (c29_e_13 ap np tp aq nq tq))],PV.agg [PV.tf false,PV.own (9) (1) (List.length (c29_e_15 ap np tp aq nq tq))],PV.int .i64 (0:Int)]) (c29_e_4 ap np mp tp aq nq mq tq) (16))))))
noncomputable abbrev g29_0 (test:TT) (Kst:KS) (Kret:KR) (n1:Bool) (ap np mp:Nat) (tp:NI) (n2:Bool) (aq nq mq:Nat) (tq:NI):Prop:=(test (n1) (test (n2) (g29_2 test Kst Kret n1 ap np mp tp n2 aq nq mq tq) (g29_3 test Kst Kret n1 ap np mp tp n2 aq nq mq tq)) (test (n2) (g29_3 test Kst Kret n1 ap np mp tp n2 aq nq mq tq) (g29_2 test Kst Kret n1 ap np mp tp n2 aq nq mq tq)))
noncomputable abbrev g29_1 (test:TT) (Kst:KS) (Kret:KR) (n1:Bool) (ap np mp:Nat) (tp:NI) (n2:Bool) (aq nq mq:Nat) (tq:NI):Prop:=(test (false) (test (true) (Kret (c29_e_11) (c29_e_3 mp tp mq tq) (20)) (test ((↑(List.length (c29_e_0 ap np tp aq nq tq)):Int)==0) (Kret (c29_e_6) (c29_e_3 mp tp mq tq) (21)) (Kret (c29_e_12 ap np tp aq nq tq) (c29_e_9 ap np mp tp aq nq mq tq) (21)))) (test (false) (Kret (c29_e_6) (c29_e_3 mp tp mq tq) (20)) (test ((↑(List.length (c29_e_0 ap np tp aq nq tq)):Int)==0) (Kret (c29_e_6) (c29_e_3 mp tp mq tq) (21)) (Kret (c29_e_12 ap np tp aq nq tq) (c29_e_9 ap np mp tp aq nq mq tq) (21)))))
noncomputable abbrev g29_4 (test:TT) (Kst:KS) (Kret:KR) (n1:Bool) (ap np mp:Nat) (tp:NI) (n2:Bool) (aq nq mq:Nat) (tq:NI):Prop:=(test ((↑(List.length (c29_e_2 ap np tp aq nq tq)):Int)==0) (g29_1 test Kst Kret n1 ap np mp tp n2 aq nq mq tq) (test (decide ((↑(List.length (c29_e_2 ap np tp aq nq tq)):Int)>80)) (test (true) (Kret (c29_e_11) (c29_e_3 mp tp mq tq) (20)) (test ((↑(List.length (c29_e_0 ap np tp aq nq tq)):Int)==0) (Kret (c29_e_6) (c29_e_3 mp tp mq tq) (21)) (Kret (c29_e_12 ap np tp aq nq tq) (c29_e_9 ap np mp tp aq nq mq tq) (21)))) (test (false) (Kret (c29_e_6) (c29_e_3 mp tp mq tq) (20)) (test ((↑(List.length (c29_e_0 ap np tp aq nq tq)):Int)==0) (Kret (PV.tup [PV.agg [PV.tf false,PV.own (13) (1) (List.length (c29_e_2 ap np tp aq nq tq))],PV.agg [PV.tf false,PV.nils],PV.int .i64 (0:Int)]) (c29_e_17 ap np mp tp aq nq mq tq) (21)) (Kret (PV.tup [PV.agg [PV.tf false,PV.own (13) (1) (List.length (c29_e_2 ap np tp aq nq tq))],PV.agg [PV.tf false,PV.own (15) (1) (List.length (c29_e_0 ap np tp aq nq tq))],PV.int .i64 (0:Int)]) (c29_e_14 ap np mp tp aq nq mq tq) (21))))))
noncomputable abbrev g29_5 (test:TT) (Kst:KS) (Kret:KR) (n1:Bool) (ap np mp:Nat) (tp:NI) (n2:Bool) (aq nq mq:Nat) (tq:NI):Prop:=(test ((↑(List.length (c29_e_2 ap np tp aq nq tq)):Int)==0) (g29_1 test Kst Kret n1 ap np mp tp n2 aq nq mq tq) (test (decide ((↑(List.length (c29_e_2 ap np tp aq nq tq)):Int)>80)) (test (true) (Kret (c29_e_11) (c29_e_3 mp tp mq tq) (20)) (test ((↑(List.length (c29_e_0 ap np tp aq nq tq)):Int)==0) (Kret (c29_e_6) (c29_e_3 mp tp mq tq) (21)) (Kret (c29_e_12 ap np tp aq nq tq) (c29_e_9 ap np mp tp aq nq mq tq) (21)))) (test (false) (Kret (c29_e_6) (c29_e_3 mp tp mq tq) (20)) (test ((↑(List.length (c29_e_0 ap np tp aq nq tq)):Int)==0) (Kret (PV.tup [PV.agg [PV.tf true,PV.own (13) (1) (List.length (c29_e_2 ap np tp aq nq tq))],PV.agg [PV.tf false,PV.nils],PV.int .i64 (0:Int)]) (c29_e_17 ap np mp tp aq nq mq tq) (21)) (Kret (PV.tup [PV.agg [PV.tf true,PV.own (13) (1) (List.length (c29_e_2 ap np tp aq nq tq))],PV.agg [PV.tf false,PV.own (15) (1) (List.length (c29_e_0 ap np tp aq nq tq))],PV.int .i64 (0:Int)]) (c29_e_14 ap np mp tp aq nq mq tq) (21))))))
noncomputable def Te29 (test:TT) (Kst:KS) (Kret:KR) (n1:Bool) (ap np mp:Nat) (tp:NI) (n2:Bool) (aq nq mq:Nat) (tq:NI):Prop:=test (decide (ap+np≤mp∧np≤1000000)) (test (S.okI n1 np fun j=>tp (j+ap)) (test (decide (aq+nq≤mq∧nq≤1000000)) (test (S.okI n2 nq fun j=>tq (j+aq)) (test ((↑nq:Int)==0) (Kret (PV.tup [PV.agg [PV.tf false,PV.nils],PV.agg [PV.tf false,PV.nils],PV.int .i64 (13:Int)]) (c29_e_3 mp tp mq tq) (8)) (test (decide ((ap+np≤mp∧aq+nq≤mq)∧(np≤900∧nq≤900)∧(S.okG np fun j=>tp (j+ap))=true∧(S.okG nq fun j=>tq (j+aq))=true∧0<nq)) (test (n1) (test (decide ((↑(List.length (S.grp ((S.val np fun j=>tp (j+ap)) % S.val nq fun j=>tq (j+aq)))):Int)>0)) (test (decide ((0+List.length (c29_e_13 ap np tp aq nq tq)≤List.length (S.grp ((S.val np fun j=>tp (j+ap)) / S.val nq fun j=>tq (j+aq)))∧1≤1)∧(List.length (c29_e_13 ap np tp aq nq tq)≤1000∧1≤1000)∧(S.okG (List.length (c29_e_13 ap np tp aq nq tq)) fun j=>S.at' (c29_e_13 ap np tp aq nq tq) j)=true∧true=true)) (test (decide ((aq+nq≤mq∧0+List.length (c29_e_15 ap np tp aq nq tq)≤List.length (S.grp ((S.val np fun j=>tp (j+ap)) % S.val nq fun j=>tq (j+aq))))∧(nq≤1000∧List.length (c29_e_15 ap np tp aq nq tq)≤1000)∧(S.okG nq fun j=>tq (j+aq))=true∧(S.okG (List.length (c29_e_15 ap np tp aq nq tq)) fun j=>S.at' (c29_e_15 ap np tp aq nq tq) j)=true∧(S.val (List.length (c29_e_15 ap np tp aq nq tq)) fun j=>S.at' (c29_e_15 ap np tp aq nq tq) j)≤S.val nq fun j=>tq (j+aq))) (test (n1) (test (n2) (g29_4 test Kst Kret n1 ap np mp tp n2 aq nq mq tq) (g29_5 test Kst Kret n1 ap np mp tp n2 aq nq mq tq)) (test (n2) (g29_5 test Kst Kret n1 ap np mp tp n2 aq nq mq tq) (g29_4 test Kst Kret n1 ap np mp tp n2 aq nq mq tq))) (False)) (False)) (g29_0 test Kst Kret n1 ap np mp tp n2 aq nq mq tq)) (g29_0 test Kst Kret n1 ap np mp tp n2 aq nq mq tq)) (False))) (Kret (PV.tup [PV.agg [PV.tf false,PV.nils],PV.agg [PV.tf false,PV.nils],PV.int .i64 (1:Int)]) (c29_e_3 mp tp mq tq) (8))) (False)) (Kret (PV.tup [PV.agg [PV.tf false,PV.nils],PV.agg [PV.tf false,PV.nils],PV.int .i64 (1:Int)]) (c29_e_3 mp tp mq tq) (7))) (False)
theorem te29 (test:TT) (Kst:KS) (Kret:KR) (n1:Bool) (ap np mp:Nat) (tp:NI) (n2:Bool) (aq nq mq:Nat) (tq:NI):run test Tryz.env true (xG2 test) true 400 ⟨85,[.cd (mkFn Tryz.f85).body],argT 0 [.agg [.bool n1,.loose ⟨0,1,ap,0⟩ np],.agg [.bool n2,.loose ⟨1,1,aq,0⟩ nq]],[[],[(0,(false,.cols mp [.int .i64 tp])),(1,(false,.cols mq [.int .i64 tq]))]],2⟩ (proj 2 [] Kst Kret)=
  Te29 test Kst Kret n1 ap np mp tp n2 aq nq mq tq:=by kernel_rfl
noncomputable abbrev J29 (n1:Bool) (ap np mp:Nat) (tp:NI) (n2:Bool) (aq nq mq:Nat) (tq:NI):Rt29→Heap:=fun r=> [newL (2+1) ((N29 n1 ap np mp tp n2 aq nq mq tq) r)++ [(0,(false,.cols mp [.int .i64 tp])),(1,(false,.cols mq [.int .i64 tq]))]]
attribute [local irreducible] Int.subNatNat in
theorem be29 (n1:Bool) (ap np mp:Nat) (tp:NI) (n2:Bool) (aq nq mq:Nat) (tq:NI) (Kst:KS) (Kret:KR) (x:St29⊕Rt29) (hS:HS 2 400 ((I29 n1 ap np mp tp n2 aq nq mq tq)) Kst x) (hR:HR 2 400 ((V29 n1 ap np mp tp n2 aq nq mq tq)) (J29 n1 ap np mp tp n2 aq nq mq tq) Kret x) (h:p29 n1 ap np mp tp n2 aq nq mq tq=some x):Te29 cond Kst Kret n1 ap np mp tp n2 aq nq mq tq:=by
  unfold Te29
  unfold p29 at h
  refine bif_split h (fun c0 h=>bif_split h (fun c1 h=>bif_split h (fun c2 h=>bif_split h (fun c3 h=>bif_split h (fun c4 h=> ?_) (fun c4 h=>bif_split h (fun c5 h=>bif_split h (fun c6 h=>bif_split h (fun c7 h=>bif_split h (fun c8 h=>bif_split h (fun c9 h=>cond_yes c6 (bif_split h (fun c10 h=>bif_split h (fun c11 h=>cond_no rfl (cond_no rfl (bif_split h (fun c12 h=> ?_) (fun c12 h=> ?_)))) (fun c11 h=>bif_split h (fun c12 h=>cond_yes rfl (ret_at hR _ h (fun n=>bif Nat.beq n 3 then 399 else bif Nat.beq n 4 then 398 else n) rfl rfl rfl (rn_tup ⟨(rn_agg ⟨(rn_bool_tf rfl),(rn_own_nils rfl),trivial⟩),(rn_agg ⟨(rn_tf rfl),(rn_own_nils rfl),trivial⟩),(rn_int rfl),trivial⟩) rfl (entl_fresh (use_own rfl) (fresh_ok rfl) (entl_fresh (use_own rfl) (fresh_ok rfl) (entl_bor (use_lo rfl) rfl rfl (entl_bor (use_lo rfl) rfl rfl entl_nil)))))) (fun c12 h=>cond_no rfl (bif_split h (fun c13 h=> ?_) (fun c13 h=> ?_))))) (fun c10 h=>bif_split h (fun c11 h=>cond_no rfl (cond_no rfl (bif_split h (fun c12 h=> ?_) (fun c12 h=> ?_)))) (fun c11 h=>bif_split h (fun c12 h=>cond_yes rfl (ret_at hR _ h (fun n=>bif Nat.beq n 3 then 399 else bif Nat.beq n 4 then 398 else n) rfl rfl rfl (rn_tup ⟨(rn_agg ⟨(rn_bool_tf rfl),(rn_own_nils rfl),trivial⟩),(rn_agg ⟨(rn_tf rfl),(rn_own_nils rfl),trivial⟩),(rn_int rfl),trivial⟩) rfl (entl_fresh (use_own rfl) (fresh_ok rfl) (entl_fresh (use_own rfl) (fresh_ok rfl) (entl_bor (use_lo rfl) rfl rfl (entl_bor (use_lo rfl) rfl rfl entl_nil)))))) (fun c12 h=>cond_no rfl (bif_split h (fun c13 h=> ?_) (fun c13 h=> ?_))))))) (fun c9 h=> ?_)) (fun c8 h=> ?_)) (fun c7 h=>cond_yes c6 (bif_split h (fun c8 h=>bif_split h (fun c9 h=>cond_no rfl (cond_no rfl (bif_split h (fun c10 h=> ?_) (fun c10 h=> ?_)))) (fun c9 h=>bif_split h (fun c10 h=>cond_yes rfl (ret_at hR _ h (fun n=>bif Nat.beq n 3 then 399 else bif Nat.beq n 4 then 398 else n) rfl rfl rfl (rn_tup ⟨(rn_agg ⟨(rn_bool_tf rfl),(rn_own_nils rfl),trivial⟩),(rn_agg ⟨(rn_tf rfl),(rn_own_nils rfl),trivial⟩),(rn_int rfl),trivial⟩) rfl (entl_fresh (use_own rfl) (fresh_ok rfl) (entl_fresh (use_own rfl) (fresh_ok rfl) (entl_bor (use_lo rfl) rfl rfl (entl_bor (use_lo rfl) rfl rfl entl_nil)))))) (fun c10 h=>cond_no rfl (bif_split h (fun c11 h=> ?_) (fun c11 h=> ?_))))) (fun c8 h=>bif_split h (fun c9 h=>cond_no rfl (cond_no rfl (bif_split h (fun c10 h=> ?_) (fun c10 h=> ?_)))) (fun c9 h=>bif_split h (fun c10 h=>cond_yes rfl (ret_at hR _ h (fun n=>bif Nat.beq n 3 then 399 else bif Nat.beq n 4 then 398 else n) rfl rfl rfl (rn_tup ⟨(rn_agg ⟨(rn_bool_tf rfl),(rn_own_nils rfl),trivial⟩),(rn_agg ⟨(rn_tf rfl),(rn_own_nils rfl),trivial⟩),(rn_int rfl),trivial⟩) rfl (entl_fresh (use_own rfl) (fresh_ok rfl) (entl_fresh (use_own rfl) (fresh_ok rfl) (entl_bor (use_lo rfl) rfl rfl (entl_bor (use_lo rfl) rfl rfl entl_nil)))))) (fun c10 h=>cond_no rfl (bif_split h (fun c11 h=> ?_) (fun c11 h=> ?_)))))))) (fun c6 h=>cond_no c6 (bif_split h (fun c7 h=>bif_split h (fun c8 h=>cond_no rfl (cond_no rfl (bif_split h (fun c9 h=> ?_) (fun c9 h=> ?_)))) (fun c8 h=>bif_split h (fun c9 h=>cond_yes rfl (ret_at hR _ h (fun n=>bif Nat.beq n 3 then 399 else bif Nat.beq n 4 then 398 else n) rfl rfl rfl (rn_tup ⟨(rn_agg ⟨(rn_bool_tf rfl),(rn_own_nils rfl),trivial⟩),(rn_agg ⟨(rn_tf rfl),(rn_own_nils rfl),trivial⟩),(rn_int rfl),trivial⟩) rfl (entl_fresh (use_own rfl) (fresh_ok rfl) (entl_fresh (use_own rfl) (fresh_ok rfl) (entl_bor (use_lo rfl) rfl rfl (entl_bor (use_lo rfl) rfl rfl entl_nil)))))) (fun c9 h=>cond_no rfl (bif_split h (fun c10 h=> ?_) (fun c10 h=> ?_))))) (fun c7 h=>bif_split h (fun c8 h=>cond_no rfl (cond_no rfl (bif_split h (fun c9 h=> ?_) (fun c9 h=> ?_)))) (fun c8 h=>bif_split h (fun c9 h=>cond_yes rfl (ret_at hR _ h (fun n=>bif Nat.beq n 3 then 399 else bif Nat.beq n 4 then 398 else n) rfl rfl rfl (rn_tup ⟨(rn_agg ⟨(rn_bool_tf rfl),(rn_own_nils rfl),trivial⟩),(rn_agg ⟨(rn_tf rfl),(rn_own_nils rfl),trivial⟩),(rn_int rfl),trivial⟩) rfl (entl_fresh (use_own rfl) (fresh_ok rfl) (entl_fresh (use_own rfl) (fresh_ok rfl) (entl_bor (use_lo rfl) rfl rfl (entl_bor (use_lo rfl) rfl rfl entl_nil)))))) (fun c9 h=>cond_no rfl (bif_split h (fun c10 h=> ?_) (fun c10 h=> ?_)))))))) (fun c5 h=> ?_))) (fun c3 h=> ?_)) (fun c2 h=> ?_)) (fun c1 h=> ?_)) (fun c0 h=> ?_)
  all_goals first
    |exact ret_at hR _ h (fun n=>bif Nat.beq n 3 then 399 else bif Nat.beq n 4 then 398 else n) rfl rfl rfl (rn_tup ⟨(rn_agg ⟨(rn_bool_tf rfl),(rn_own_nils rfl),trivial⟩),(rn_agg ⟨(rn_tf rfl),(rn_own_nils rfl),trivial⟩),(rn_int rfl),trivial⟩) rfl (entl_fresh (use_own rfl) (fresh_ok rfl) (entl_fresh (use_own rfl) (fresh_ok rfl) (entl_bor (use_lo rfl) rfl rfl (entl_bor (use_lo rfl) rfl rfl entl_nil))))
    |exact no_some h
    |exact ret_at hR _ h (fun n=>bif Nat.beq n 3 then 9 else bif Nat.beq n 4 then 399 else n) rfl rfl rfl (rn_tup ⟨(rn_agg ⟨(rn_bool_tf rfl),(rn_own_nils rfl),trivial⟩),(rn_agg ⟨(rn_tf rfl),(rn_own (use_own rfl) rfl rfl),trivial⟩),(rn_int rfl),trivial⟩) rfl (entl_new (use_own rfl) rfl (Nat.le_of_eq rfl) (rcs_int (fun _ _=>rfl) rcs_nil) (entl_fresh (use_own rfl) (fresh_ok rfl) (entl_bor (use_lo rfl) rfl rfl (entl_bor (use_lo rfl) rfl rfl entl_nil))))
    |exact ret_at hR _ h (fun n=>bif Nat.beq n 3 then 399 else bif Nat.beq n 4 then 10 else n) rfl rfl rfl (rn_tup ⟨(rn_agg ⟨(rn_bool_tf rfl),(rn_own (use_own rfl) rfl rfl),trivial⟩),(rn_agg ⟨(rn_tf rfl),(rn_own_nils rfl),trivial⟩),(rn_int rfl),trivial⟩) rfl (entl_fresh (use_own rfl) (fresh_ok rfl) (entl_new (use_own rfl) rfl (Nat.le_of_eq rfl) (rcs_int (fun _ _=>rfl) rcs_nil) (entl_bor (use_lo rfl) rfl rfl (entl_bor (use_lo rfl) rfl rfl entl_nil))))
    |exact ret_at hR _ h (fun n=>bif Nat.beq n 3 then 9 else bif Nat.beq n 4 then 10 else n) rfl rfl rfl (rn_tup ⟨(rn_agg ⟨(rn_bool_tf rfl),(rn_own (use_own rfl) rfl rfl),trivial⟩),(rn_agg ⟨(rn_tf rfl),(rn_own (use_own rfl) rfl rfl),trivial⟩),(rn_int rfl),trivial⟩) rfl (entl_new (use_own rfl) rfl (Nat.le_of_eq rfl) (rcs_int (fun _ _=>rfl) rcs_nil) (entl_new (use_own rfl) rfl (Nat.le_of_eq rfl) (rcs_int (fun _ _=>rfl) rcs_nil) (entl_bor (use_lo rfl) rfl rfl (entl_bor (use_lo rfl) rfl rfl entl_nil))))
    |exact ret_at hR _ h (fun n=>bif Nat.beq n 3 then 15 else bif Nat.beq n 4 then 399 else n) rfl rfl rfl (rn_tup ⟨(rn_agg ⟨(rn_bool_tf rfl),(rn_own_nils rfl),trivial⟩),(rn_agg ⟨(rn_tf rfl),(rn_own (use_own rfl) rfl rfl),trivial⟩),(rn_int rfl),trivial⟩) rfl (entl_new (use_own rfl) rfl (Nat.le_of_eq rfl) (rcs_int (fun _ _=>rfl) rcs_nil) (entl_fresh (use_own rfl) (fresh_ok rfl) (entl_bor (use_lo rfl) rfl rfl (entl_bor (use_lo rfl) rfl rfl entl_nil))))
    |exact ret_at hR _ h (fun n=>bif Nat.beq n 3 then 399 else bif Nat.beq n 4 then 13 else n) rfl rfl rfl (rn_tup ⟨(rn_agg ⟨(rn_bool_tf rfl),(rn_own (use_own rfl) rfl rfl),trivial⟩),(rn_agg ⟨(rn_tf rfl),(rn_own_nils rfl),trivial⟩),(rn_int rfl),trivial⟩) rfl (entl_fresh (use_own rfl) (fresh_ok rfl) (entl_new (use_own rfl) rfl (Nat.le_of_eq rfl) (rcs_int (fun _ _=>rfl) rcs_nil) (entl_bor (use_lo rfl) rfl rfl (entl_bor (use_lo rfl) rfl rfl entl_nil))))
    |exact ret_at hR _ h (fun n=>bif Nat.beq n 3 then 15 else bif Nat.beq n 4 then 13 else n) rfl rfl rfl (rn_tup ⟨(rn_agg ⟨(rn_bool_tf rfl),(rn_own (use_own rfl) rfl rfl),trivial⟩),(rn_agg ⟨(rn_tf rfl),(rn_own (use_own rfl) rfl rfl),trivial⟩),(rn_int rfl),trivial⟩) rfl (entl_new (use_own rfl) rfl (Nat.le_of_eq rfl) (rcs_int (fun _ _=>rfl) rcs_nil) (entl_new (use_own rfl) rfl (Nat.le_of_eq rfl) (rcs_int (fun _ _=>rfl) rcs_nil) (entl_bor (use_lo rfl) rfl rfl (entl_bor (use_lo rfl) rfl rfl entl_nil))))
theorem a29 (n1:Bool) (ap np mp:Nat) (tp:NI) (n2:Bool) (aq nq mq:Nat) (tq:NI) {r:Rt29} (h:Goes ((q29 n1 ap np mp tp n2 aq nq mq tq)) ((p29 n1 ap np mp tp n2 aq nq mq tq)) r):CallR Tryz.prog 85 [.agg [.bool n1,.loose ⟨0,1,ap,0⟩ np],.agg [.bool n2,.loose ⟨1,1,aq,0⟩ nq]] [[(0,(false,.cols mp [.int .i64 tp])),(1,(false,.cols mq [.int .i64 tq]))]] 2 ((V29 n1 ap np mp tp n2 aq nq mq tq) r) ((J29 n1 ap np mp tp n2 aq nq mq tq) r) 400∧ ∃ F,Tryz.prog.funcs[85]? =some F∧F.body.isSome=true∧(F.name== "runtime.NumGoroutine")=false:=by
  refine dec_calls (f:=85) (lo:=2) (hi:=400) Tryz.envOk Tryz.mixed xG2_ok ((I29 n1 ap np mp tp n2 aq nq mq tq)) ((V29 n1 ap np mp tp n2 aq nq mq tq)) (J29 n1 ap np mp tp n2 aq nq mq tq) (fn:=mkFn Tryz.f85) (ts:= []) (n:=400) rfl (by decide) (by simp) (names_of rfl) ?_ ?_ ?_ h
  · intro s; exact s.elim
  · intro Kst Kret x hS hR h
    exact Holds.eq (te29 cond Kst Kret n1 ap np mp tp n2 aq nq mq tq) (be29 n1 ap np mp tp n2 aq nq mq tq Kst Kret x hS hR h)
  · intro Kst Kret x hS hR s h; exact s.elim
noncomputable abbrev w29 {α:Type} (g:Bool→Nat→Nat→Nat→(Nat→Int)→Bool→Nat→Nat→Nat→(Nat→Int)→α) (x:(Bool×(Nat×Nat×Nat×(Nat→Int)×Unit)×Unit)×(Bool×(Nat×Nat×Nat×(Nat→Int)×Unit)×Unit)×Unit):α:=g x.1.1 x.1.2.1.1 x.1.2.1.2.1 x.1.2.1.2.2.1 x.1.2.1.2.2.2.1 x.2.1.1 x.2.1.2.1.1 x.2.1.2.1.2.1 x.2.1.2.1.2.2.1 x.2.1.2.1.2.2.2.1
noncomputable def k29:Con:=⟨85,[.agg [.plain (.bool),.list [.int .i64]],.agg [.plain (.bool),.list [.int .i64]]],w29 (fun n1 ap np mp tp n2 aq nq mq tq=>decide ((ap+np≤mp∧np≤1000000)∧aq+nq≤mq∧nq≤1000000)),w29 (fun n1 ap np mp tp n2 aq nq mq tq=>(V29 n1 ap np mp tp n2 aq nq mq tq) ((S.divI n1 np (fun j=>tp (j+ap)) n2 nq (fun j=>tq (j+aq))).1,(S.divI n1 np (fun j=>tp (j+ap)) n2 nq (fun j=>tq (j+aq))).2.1,(S.divI n1 np (fun j=>tp (j+ap)) n2 nq (fun j=>tq (j+aq))).2.2.1,(S.divI n1 np (fun j=>tp (j+ap)) n2 nq (fun j=>tq (j+aq))).2.2.2)),w29 (fun n1 ap np mp tp n2 aq nq mq tq=>(N29 n1 ap np mp tp n2 aq nq mq tq) ((S.divI n1 np (fun j=>tp (j+ap)) n2 nq (fun j=>tq (j+aq))).1,(S.divI n1 np (fun j=>tp (j+ap)) n2 nq (fun j=>tq (j+aq))).2.1,(S.divI n1 np (fun j=>tp (j+ap)) n2 nq (fun j=>tq (j+aq))).2.2.1,(S.divI n1 np (fun j=>tp (j+ap)) n2 nq (fun j=>tq (j+aq))).2.2.2)),fun _ _=> .dead⟩
theorem s29 (n1 : Bool) (ap np mp:Nat) (tp:Nat→Int) (n2:Bool) (aq nq mq:Nat) (tq:Nat→Int) (hp:(ap+np≤mp∧np≤1000000)∧aq+nq≤mq∧nq≤1000000):Goes ((q29 n1 ap np mp tp n2 aq nq mq tq)) ((p29 n1 ap np mp tp n2 aq nq mq tq)) (((S.divI n1 np (fun j=>tp (j+ap)) n2 nq (fun j=>tq (j+aq))).1,(S.divI n1 np (fun j=>tp (j+ap)) n2 nq (fun j=>tq (j+aq))).2.1,(S.divI n1 np (fun j=>tp (j+ap)) n2 nq (fun j=>tq (j+aq))).2.2.1,(S.divI n1 np (fun j=>tp (j+ap)) n2 nq (fun j=>tq (j+aq))).2.2.2)):=by
  obtain ⟨⟨hp1,hp2⟩,hp3,hp4⟩:=hp
  have d1:ap+np≤mp∧np≤1000000:=⟨hp1,hp2⟩
  have d2:aq+nq≤mq∧nq≤1000000:=⟨hp3,hp4⟩
  unfold S.divI
  by_cases g1:S.okI n1 np (fun j=>tp (j+ap))=true
  · obtain ⟨l1, k1⟩ :=okI_G g1
    by_cases g2:S.okI n2 nq (fun j=>tq (j+aq))=true
    · obtain ⟨l2, k2⟩:=okI_G g2
      rw [if_pos ⟨g1,g2⟩]
      by_cases h0:nq=0
      · rw [if_pos h0]
        unfold p29
        simp only [g1,g2,decide_eq_true d1,decide_eq_true d2,cond_true]
        exact goes_ok (by rw [h0]; rfl) (goes_inr.mpr rfl)
      · rw [if_neg h0]
        have up:=val_nn (okG_D k1)
        have vp:=val_pos k2 (by omega)
        have ul:=val_lt (okG_D k1) (Nat.le_refl np)
        have vl:=val_lt (okG_D k2) (Nat.le_refl nq)
        rw [divV_sv up vp]
        have hq:(ap+np≤mp∧aq+nq≤mq)∧(np≤900∧nq≤900)∧S.okG np (fun j=>tp (j+ap))=true∧S.okG nq (fun j=>tq (j+aq))=true∧0<nq:=⟨⟨hp1,hp3⟩,⟨by omega,by omega⟩,k1,k2,by omega⟩
        have e0:((nq:Int)==0)=false:=by rw [beq_eq_false_iff_ne]; omega
        have m0:=Int.emod_nonneg (S.val np (fun j=>tp (j+ap))) (show (S.val nq (fun j=>tq (j+aq)))≠0 by omega)
        have m1:=Int.emod_lt_of_pos (S.val np (fun j=>tp (j+ap))) vp
        have q0:=Int.ediv_nonneg up (show 0≤(S.val nq (fun j=>tq (j+aq))) by omega)
        have q1:=Int.ediv_le_self (S.val nq (fun j=>tq (j+aq))) up
        have hw:=pw_mono (k:=np) (m:=80) l1
        obtain ⟨Q,hQ⟩: ∃ Q,(S.val np (fun j=>tp (j+ap))) / (S.val nq (fun j=>tq (j+aq)))=Q:=⟨_,rfl⟩
        obtain ⟨R,hR⟩: ∃ R,(S.val np (fun j=>tp (j+ap))) % (S.val nq (fun j=>tq (j+aq)))=R:=⟨_,rfl⟩
        rw [hQ] at q0 q1
        rw [hR] at m0 m1
        have lq:=grp_le (v:=Q) (n:=80) (by omega)
        have lq1:=grp_le (v:=Q+1) (n:=81) (by have:S.pw 81=1000000*S.pw 80:=rfl; have:=pw_pos (k:=80); omega)
        have lr:=grp_le (v:=R) (n:=nq) (by omega)
        have lr1:=grp_le (v:=(S.val nq (fun j=>tq (j+aq)))-R) (n:=nq+1) (by have:S.pw (nq+1)=1000000*S.pw nq:=rfl; omega)
        have vQ:=val_grpL q0
        have vR:=val_grpL m0
        have vQ1:=val_grpL (v:=Q+1) (by omega)
        have vR1:=val_grpL (v:=(S.val nq (fun j=>tq (j+aq)))-R) (by omega)
        have a1:(0+(S.grp Q).length≤(S.grp Q).length∧1≤1)∧((S.grp Q).length≤1000∧1≤1000)∧(S.okG (S.grp Q).length fun j=>S.at' (S.grp Q) j)=true∧true=true:=⟨⟨by omega,by omega⟩,⟨by omega,by omega⟩,grp_ok,rfl⟩
        have a2:(aq+nq≤mq∧0+(S.grp R).length≤(S.grp R).length)∧(nq≤1000∧(S.grp R).length≤1000)∧S.okG nq (fun j=>tq (j+aq))=true∧(S.okG (S.grp R).length fun j=>S.at' (S.grp R) j)=true∧R≤(S.val nq (fun j=>tq (j+aq))):=⟨⟨hp3,by omega⟩,⟨by omega,by omega⟩,k2,grp_ok,by omega⟩
        have b1:0+(S.grp Q).length≤(S.grp Q).length∧(S.grp Q).length≤1000000∧(S.okD (S.grp Q).length fun j=>S.at' (S.grp Q) j)=true:=⟨by omega,by omega,okG_D grp_ok⟩
        have b2:0+(S.grp R).length≤(S.grp R).length∧(S.grp R).length≤1000000∧(S.okD (S.grp R).length fun j=>S.at' (S.grp R) j)=true:=⟨by omega,by omega,okG_D grp_ok⟩
        have b3:0+(S.grp (Q+1)).length≤(S.grp (Q+1)).length∧(S.grp (Q+1)).length≤1000000∧(S.okD (S.grp (Q+1)).length fun j=>S.at' (S.grp (Q+1)) j)=true:=⟨by omega,by omega,okG_D grp_ok⟩
        have b4:0+(S.grp ((S.val nq (fun j=>tq (j+aq)))-R)).length≤(S.grp ((S.val nq (fun j=>tq (j+aq)))-R)).length∧(S.grp ((S.val nq (fun j=>tq (j+aq)))-R)).length≤1000000∧(S.okD (S.grp ((S.val nq (fun j=>tq (j+aq)))-R)).length fun j=>S.at' (S.grp ((S.val nq (fun j=>tq (j+aq)))-R)) j)=true:=⟨by omega,by omega,okG_D grp_ok⟩
        unfold p29
        simp only [-eq_self,g1,g2,decide_eq_true d1,decide_eq_true d2,cond_true,cond_false,e0,decide_eq_true hq,c29_e_0,c29_e_1,c29_e_2,c29_e_3,c29_e_4,c29_e_5,c29_e_6,c29_e_7,c29_e_8,c29_e_9,c29_e_10,c29_e_11,c29_e_12,c29_e_13,c29_e_14,c29_e_15,c29_e_16,c29_e_17,d29_0,d29_1,S.grpP,hQ,hR,vQ,vR,decide_eq_true a1,decide_eq_true a2,vQ1,vR1,decide_eq_true b1,decide_eq_true b2,decide_eq_true b3,decide_eq_true b4]
        have hR0:((S.grp R).length:Int)>0↔R>0:=by
          have:= @len_zero R
          omega
        have key: ∀ (c:Bool) (q r:Int),0≤q→(S.dq n1 (S.val np (fun j=>tp (j+ap))) (S.val nq (fun j=>tq (j+aq)))=q)→S.dr n1 (S.val np (fun j=>tp (j+ap))) (S.val nq (fun j=>tq (j+aq)))=r→(n1 != n2)=c→((if (S.grp (S.dq n1 (S.val np (fun j=>tp (j+ap))) (S.val nq (fun j=>tq (j+aq))))).length>80 then ((false,3,[],[]):Bool×Int×List Int×List Int) else (S.sgB (n1 != n2) (S.dq n1 (S.val np (fun j=>tp (j+ap))) (S.val nq (fun j=>tq (j+aq)))),0,S.grp (S.dr n1 (S.val np (fun j=>tp (j+ap))) (S.val nq (fun j=>tq (j+aq)))),S.grp (S.dq n1 (S.val np (fun j=>tp (j+ap))) (S.val nq (fun j=>tq (j+aq)))))))=if (S.grp q).length>80 then (false,3,[],[]) else (S.sgB c q,0,S.grp r,S.grp q):=fun c q r h0 h1 h2 h3=>by rw [h1,h2,h3]
        clear hq a1 a2 b1 b2 b3 b4 vQ vR vQ1 vR1 up vp ul vl k1 k2 g1 g2 hw
        cases n1
        · have e1 :S.dq false (S.val np (fun j=>tp (j+ap))) (S.val nq (fun j=>tq (j+aq)))=Q∧S.dr false (S.val np (fun j=>tp (j+ap))) (S.val nq (fun j=>tq (j+aq)))=R:=by
            unfold S.dq S.dr
            simp only [Bool.false_eq_true,false_and,if_false]
            exact ⟨hQ,hR⟩
          cases n2<;>
          (rw [key _ (Q) (R) (by omega) e1.1 e1.2 rfl]
           simp only [cond_true,cond_false]
           repeat' first
             |with_reducible refine goes_if (fun h=> ?_) (fun h=> ?_)<;>(try simp only [SH] at h)
           all_goals first
             |(exfalso; omega)
             |(rw [if_pos (by omega)]; exact goes_inr.mpr rfl)
             | (rw [if_neg (by omega)]
                refine goes_inr.mpr ?_
                first
                  |rfl
                  |exact congrArg G9 (finA (q:=Q) (r:=R) (by omega) (by assumption) (by assumption)).symm
                  |exact congrArg G9 (finB (q:=Q) (r:=R) (by omega) (by assumption)).symm
                  |exact congrArg G9 (finC (q:=Q) (r:=R) (by assumption) (by assumption)).symm
                  |exact congrArg G9 (finD (q:=Q) (r:=R) (by assumption)).symm))
        · by_cases hr:R>0
          · have e1 :S.dq true (S.val np (fun j=>tp (j+ap))) (S.val nq (fun j=>tq (j+aq)))=Q+1∧S.dr true (S.val np (fun j=>tp (j+ap))) (S.val nq (fun j=>tq (j+aq)))=(S.val nq (fun j=>tq (j+aq)))-R:=by
              unfold S.dq S.dr
              rw [hR,if_pos ⟨rfl,hr⟩,if_pos ⟨rfl,hr⟩]
              exact ⟨by rw [hQ],rfl⟩
            cases n2<;>
            (rw [key _ (Q+1) ((S.val nq (fun j=>tq (j+aq)))-R) (by omega) e1.1 e1.2 rfl]
             simp only [cond_true,cond_false,decide_eq_true (hR0.mpr hr)]
             repeat' first
               |with_reducible refine goes_if (fun h=> ?_) (fun h=> ?_)<;>(try simp only [SH] at h)
             all_goals first
               |(exfalso; omega)
               |(rw [if_pos (by omega)]; exact goes_inr.mpr rfl)
               | (rw [if_neg (by omega)]
                  refine goes_inr.mpr ?_
                  first
                    |rfl
                    |exact congrArg G9 (finA (q:=Q+1) (r:=(S.val nq (fun j=>tq (j+aq)))-R) (by omega) (by assumption) (by assumption)).symm
                    |exact congrArg G9 (finB (q:=Q+1) (r:=(S.val nq (fun j=>tq (j+aq)))-R) (by omega) (by assumption)).symm
                    |exact congrArg G9 (finC (q:=Q+1) (r:=(S.val nq (fun j=>tq (j+aq)))-R) (by assumption) (by assumption)).symm
                    |exact congrArg G9 (finD (q:=Q+1) (r:=(S.val nq (fun j=>tq (j+aq)))-R) (by assumption)).symm))
          · have e1 :S.dq true (S.val np (fun j=>tp (j+ap))) (S.val nq (fun j=>tq (j+aq)))=Q∧S.dr true (S.val np (fun j=>tp (j+ap))) (S.val nq (fun j=>tq (j+aq)))=R:=by
              unfold S.dq S.dr
              rw [hR,if_neg (fun h=>hr h.2),if_neg (fun h=>hr h.2)]
              exact ⟨hQ,rfl⟩
            cases n2<;>
            (rw [key _ (Q) (R) (by omega) e1.1 e1.2 rfl]
             simp only [cond_true,cond_false,decide_eq_false (fun h=>hr (hR0.mp h))]
             repeat' first
               |with_reducible refine goes_if (fun h=> ?_) (fun h=> ?_)<;>(try simp only [SH] at h)
             all_goals first
               |(exfalso; omega)
               |(rw [if_pos (by omega)]; exact goes_inr.mpr rfl)
               | (rw [if_neg (by omega)]
                  refine goes_inr.mpr ?_
                  first
                    |rfl
                    |exact congrArg G9 (finA (q:=Q) (r:=R) (by omega) (by assumption) (by assumption)).symm
                    |exact congrArg G9 (finB (q:=Q) (r:=R) (by omega) (by assumption)).symm
                    |exact congrArg G9 (finC (q:=Q) (r:=R) (by assumption) (by assumption)).symm
                    |exact congrArg G9 (finD (q:=Q) (r:=R) (by assumption)).symm))
    · rw [if_neg (fun h=>g2 h.2)]
      have g2:=Bool.not_eq_true _ ▸ g2
      unfold p29
      simp only [cond_true,cond_false,g1,g2,decide_eq_true d1,decide_eq_true d2]
      exact goes_inr.mpr rfl
  · rw [if_neg (fun h=>g1 h.1)]
    have g1:=Bool.not_eq_true _ ▸ g1
    unfold p29
    simp only [cond_true,cond_false,g1,decide_eq_true d1]
    exact goes_inr.mpr rfl
theorem k29_ok:k29.ok Tryz.prog:=by
  intro x hx
  obtain ⟨⟨n1,⟨ap,np,mp,tp,_⟩,_⟩,⟨n2,⟨aq,nq,mq,tq,_⟩,_⟩,_⟩:=x
  obtain ⟨h1,h2⟩:=a29 n1 ap np mp tp n2 aq nq mq tq (s29 n1 ap np mp tp n2 aq nq mq tq (of_dec hx rfl))
  exact ⟨⟨400,(by decide:2+1+2≤400),h1⟩,h2⟩
noncomputable abbrev c30_e_0 (ap np:Nat) (tp:NI) (aq nq:Nat) (tq:NI):=S.val (List.length (S.grp ((S.val np fun j=>tp (j+ap)) / S.val nq fun j=>tq (j+aq)))) fun j=>S.at' (S.grp ((S.val np fun j=>tp (j+ap)) / S.val nq fun j=>tq (j+aq))) j
noncomputable abbrev c30_e_1 (ap np:Nat) (tp:NI) (aq nq:Nat) (tq:NI):=S.grp ((S.val np fun j=>tp (j+ap)) % S.val nq fun j=>tq (j+aq))
noncomputable abbrev c30_e_2 (ap np:Nat) (tp:NI) (aq nq:Nat) (tq:NI):=decide (0+List.length (S.grp ((S.val np fun j=>tp (j+ap)) % S.val nq fun j=>tq (j+aq)))≤List.length (S.grp ((S.val np fun j=>tp (j+ap)) % S.val nq fun j=>tq (j+aq)))∧List.length (S.grp ((S.val np fun j=>tp (j+ap)) % S.val nq fun j=>tq (j+aq)))≤1000000∧(S.okD (List.length (S.grp ((S.val np fun j=>tp (j+ap)) % S.val nq fun j=>tq (j+aq)))) fun j=>S.at' (S.grp ((S.val np fun j=>tp (j+ap)) % S.val nq fun j=>tq (j+aq))) j)=true)
noncomputable abbrev c30_e_3 (ap np:Nat) (tp:NI) (aq nq:Nat) (tq:NI):=S.grp (S.val (List.length (S.grp ((S.val nq fun j=>tq (j+aq))-S.val (List.length (S.grp ((S.val np fun j=>tp (j+ap)) % S.val nq fun j=>tq (j+aq)))) fun j=>S.at' (S.grp ((S.val np fun j=>tp (j+ap)) % S.val nq fun j=>tq (j+aq))) j))) fun j=>S.at' (S.grp ((S.val nq fun j=>tq (j+aq))-S.val (List.length (S.grp ((S.val np fun j=>tp (j+ap)) % S.val nq fun j=>tq (j+aq)))) fun j=>S.at' (S.grp ((S.val np fun j=>tp (j+ap)) % S.val nq fun j=>tq (j+aq))) j)) j)
noncomputable abbrev c30_e_4 (ap np:Nat) (tp:NI) (aq nq:Nat) (tq:NI):=decide (0+List.length (S.grp ((S.val nq fun j=>tq (j+aq))-S.val (List.length (c30_e_1 ap np tp aq nq tq)) fun j=>S.at' (c30_e_1 ap np tp aq nq tq) j))≤List.length (S.grp ((S.val nq fun j=>tq (j+aq))-S.val (List.length (c30_e_1 ap np tp aq nq tq)) fun j=>S.at' (c30_e_1 ap np tp aq nq tq) j))∧List.length (S.grp ((S.val nq fun j=>tq (j+aq))-S.val (List.length (c30_e_1 ap np tp aq nq tq)) fun j=>S.at' (c30_e_1 ap np tp aq nq tq) j))≤1000000∧(S.okD (List.length (S.grp ((S.val nq fun j=>tq (j+aq))-S.val (List.length (c30_e_1 ap np tp aq nq tq)) fun j=>S.at' (c30_e_1 ap np tp aq nq tq) j))) fun j=>S.at' (S.grp ((S.val nq fun j=>tq (j+aq))-S.val (List.length (c30_e_1 ap np tp aq nq tq)) fun j=>S.at' (c30_e_1 ap np tp aq nq tq) j)) j)=true)
noncomputable abbrev c30_e_5 (ap np:Nat) (tp:NI) (aq nq:Nat) (tq:NI):=S.val (Prod.fst (S.grpP ((S.val (List.length (S.grp ((S.val np fun j=>tp (j+ap)) / S.val nq fun j=>tq (j+aq)))) fun j=>S.at' (S.grp ((S.val np fun j=>tp (j+ap)) / S.val nq fun j=>tq (j+aq))) j)+1))) fun j=>S.at' (Prod.snd (S.grpP ((S.val (List.length (S.grp ((S.val np fun j=>tp (j+ap)) / S.val nq fun j=>tq (j+aq)))) fun j=>S.at' (S.grp ((S.val np fun j=>tp (j+ap)) / S.val nq fun j=>tq (j+aq))) j)+1))) j
noncomputable abbrev c30_e_6 (ap np:Nat) (tp:NI) (aq nq:Nat) (tq:NI):=S.val (List.length (S.grp ((S.val nq fun j=>tq (j+aq))-S.val (List.length (S.grp ((S.val np fun j=>tp (j+ap)) % S.val nq fun j=>tq (j+aq)))) fun j=>S.at' (c30_e_1 ap np tp aq nq tq) j))) fun j=>S.at' (S.grp ((S.val nq fun j=>tq (j+aq))-S.val (List.length (S.grp ((S.val np fun j=>tp (j+ap)) % S.val nq fun j=>tq (j+aq)))) fun j=>S.at' (c30_e_1 ap np tp aq nq tq) j)) j
noncomputable abbrev c30_e_7 (ap np:Nat) (tp:NI) (aq nq:Nat) (tq:NI):=decide (0+List.length (S.grp ((S.val np fun j=>tp (j+ap)) / S.val nq fun j=>tq (j+aq)))≤List.length (S.grp ((S.val np fun j=>tp (j+ap)) / S.val nq fun j=>tq (j+aq)))∧List.length (S.grp ((S.val np fun j=>tp (j+ap)) / S.val nq fun j=>tq (j+aq)))≤1000000∧(S.okD (List.length (S.grp ((S.val np fun j=>tp (j+ap)) / S.val nq fun j=>tq (j+aq)))) fun j=>S.at' (S.grp ((S.val np fun j=>tp (j+ap)) / S.val nq fun j=>tq (j+aq))) j)=true)
noncomputable abbrev c30_e_8 (ap np:Nat) (tp:NI) (aq nq:Nat) (tq:NI):=S.val (List.length (c30_e_1 ap np tp aq nq tq)) fun j=>S.at' (c30_e_1 ap np tp aq nq tq) j
noncomputable abbrev c30_e_9 (ap np:Nat) (tp:NI) (aq nq:Nat) (tq:NI):=S.grp (S.val (Prod.fst (S.grpP ((S.val (List.length (S.grp ((S.val np fun j=>tp (j+ap)) / S.val nq fun j=>tq (j+aq)))) fun j=>S.at' (S.grp ((S.val np fun j=>tp (j+ap)) / S.val nq fun j=>tq (j+aq))) j)+1))) fun j=>S.at' (Prod.snd (S.grpP ((S.val (List.length (S.grp ((S.val np fun j=>tp (j+ap)) / S.val nq fun j=>tq (j+aq)))) fun j=>S.at' (S.grp ((S.val np fun j=>tp (j+ap)) / S.val nq fun j=>tq (j+aq))) j)+1))) j)
noncomputable abbrev c30_e_10 (ap np mp:Nat) (tp:NI) (aq nq mq:Nat) (tq:NI):=([[(1,false,Blk.cols mq [Col.int .i64 tq]),(0,false,Blk.cols mp [Col.int .i64 tp]),(17,true,Blk.cols (List.length (S.grp (c30_e_8 ap np tp aq nq tq))) [Col.int .i64 fun j=>S.at' (S.grp (c30_e_8 ap np tp aq nq tq)) j]),(12,true,Blk.cols (List.length (S.grp (c30_e_0 ap np tp aq nq tq))) [Col.int .i64 fun j=>S.at' (S.grp (c30_e_0 ap np tp aq nq tq)) j])]])
noncomputable abbrev c30_e_11 (ap np:Nat) (tp:NI) (aq nq:Nat) (tq:NI):=decide (0+Prod.fst (S.grpP ((c30_e_0 ap np tp aq nq tq)+1))≤List.length (Prod.snd (S.grpP ((c30_e_0 ap np tp aq nq tq)+1)))∧Prod.fst (S.grpP ((c30_e_0 ap np tp aq nq tq)+1))≤1000000∧(S.okD (Prod.fst (S.grpP ((c30_e_0 ap np tp aq nq tq)+1))) fun j=>S.at' (Prod.snd (S.grpP ((c30_e_0 ap np tp aq nq tq)+1))) j)=true)
noncomputable abbrev c30_e_12 (mp:Nat) (tp:NI) (mq:Nat) (tq:NI):=([[(1,false,Blk.cols mq [Col.int .i64 tq]),(0,false,Blk.cols mp [Col.int .i64 tp])]])
noncomputable abbrev c30_e_13 (ap np mp:Nat) (tp:NI) (aq nq mq:Nat) (tq:NI):=([[(1,false,Blk.cols mq [Col.int .i64 tq]),(0,false,Blk.cols mp [Col.int .i64 tp]),(17,true,Blk.cols (List.length (S.grp (c30_e_8 ap np tp aq nq tq))) [Col.int .i64 fun j=>S.at' (S.grp (c30_e_8 ap np tp aq nq tq)) j])]])
noncomputable abbrev c30_e_14 (ap np:Nat) (tp:NI) (aq nq:Nat) (tq:NI):=S.val (List.length (S.grp ((S.val np fun j=>tp (j+ap)) / S.val nq fun j=>tq (j+aq)))) fun j=>S.at' (S.grp ((S.val np fun j=>tp (j+ap)) / S.val nq fun j=>tq (j+aq))) j
noncomputable abbrev c30_e_15 (ap np:Nat) (tp:NI) (aq nq:Nat) (tq:NI):=S.val (List.length (S.grp ((S.val np fun j=>tp (j+ap)) % S.val nq fun j=>tq (j+aq)))) fun j=>S.at' (S.grp ((S.val np fun j=>tp (j+ap)) % S.val nq fun j=>tq (j+aq))) j
noncomputable abbrev c30_e_16 (ap np:Nat) (tp:NI) (aq nq:Nat) (tq:NI):=(PV.tup [PV.agg [PV.tf false,PV.nils],PV.agg [PV.bool (S.sgB false (c30_e_8 ap np tp aq nq tq)),PV.own (17) (1) (List.length (S.grp (c30_e_8 ap np tp aq nq tq)))],PV.int .i64 (0:Int)])
noncomputable abbrev c30_e_17 (ap np mp:Nat) (tp:NI) (aq nq mq:Nat) (tq:NI):=([[(1,false,Blk.cols mq [Col.int .i64 tq]),(0,false,Blk.cols mp [Col.int .i64 tp]),(22,true,Blk.cols (List.length (S.grp (c30_e_6 ap np tp aq nq tq))) [Col.int .i64 fun j=>S.at' (c30_e_3 ap np tp aq nq tq) j]),(17,true,Blk.cols (List.length (S.grp (c30_e_5 ap np tp aq nq tq))) [Col.int .i64 fun j=>S.at' (c30_e_9 ap np tp aq nq tq) j])]])
noncomputable abbrev c30_e_18 (ap np:Nat) (tp:NI) (aq nq:Nat) (tq:NI):=S.val (List.length (S.grp ((S.val nq fun j=>tq (j+aq))-S.val (List.length (c30_e_1 ap np tp aq nq tq)) fun j=>S.at' (c30_e_1 ap np tp aq nq tq) j))) fun j=>S.at' (S.grp ((S.val nq fun j=>tq (j+aq))-S.val (List.length (c30_e_1 ap np tp aq nq tq)) fun j=>S.at' (c30_e_1 ap np tp aq nq tq) j)) j
noncomputable abbrev c30_e_19 (ap np:Nat) (tp:NI) (aq nq:Nat) (tq:NI):=(PV.tup [PV.agg [PV.bool (S.sgB false (c30_e_0 ap np tp aq nq tq)),PV.own (12) (1) (List.length (S.grp (c30_e_0 ap np tp aq nq tq)))],PV.agg [PV.bool (S.sgB false (c30_e_8 ap np tp aq nq tq)),PV.own (17) (1) (List.length (S.grp (c30_e_8 ap np tp aq nq tq)))],PV.int .i64 (0:Int)])
noncomputable abbrev c30_e_20 (ap np:Nat) (tp:NI) (aq nq:Nat) (tq:NI):=(PV.tup [PV.agg [PV.bool (S.sgB true (c30_e_0 ap np tp aq nq tq)),PV.own (12) (1) (List.length (S.grp (c30_e_0 ap np tp aq nq tq)))],PV.agg [PV.bool (S.sgB false (c30_e_8 ap np tp aq nq tq)),PV.own (17) (1) (List.length (S.grp (c30_e_8 ap np tp aq nq tq)))],PV.int .i64 (0:Int)])
noncomputable abbrev c30_e_21:=(PV.tup [PV.agg [PV.tf false,PV.nils],PV.agg [PV.tf false,PV.nils],PV.int .i64 (3:Int)])
noncomputable abbrev c30_e_22:=(PV.tup [PV.agg [PV.tf false,PV.nils],PV.agg [PV.tf false,PV.nils],PV.int .i64 (0:Int)])
noncomputable abbrev c30_e_23 (ap np mp:Nat) (tp:NI) (aq nq mq:Nat) (tq:NI):=([[(1,false,Blk.cols mq [Col.int .i64 tq]),(0,false,Blk.cols mp [Col.int .i64 tp]),(22,true,Blk.cols (List.length (S.grp (c30_e_6 ap np tp aq nq tq))) [Col.int .i64 fun j=>S.at' (c30_e_3 ap np tp aq nq tq) j])]])
abbrev St30:=Empty
abbrev Rt30:=Bool×Bool×Int×List Int×List Int
noncomputable def V30 (n1:Bool) (ap np mp:Nat) (tp:NI) (n2:Bool) (aq nq mq:Nat) (tq:NI) (r:Rt30):PV:=PV.tup [PV.agg [PV.bool r.1,PV.own (4) (1) (List.length r.2.2.2.2)],PV.agg [PV.bool r.2.1,PV.own (3) (1) (List.length r.2.2.2.1)],PV.int .i64 r.2.2.1]
noncomputable def N30 (n1:Bool) (ap np mp:Nat) (tp:NI) (n2:Bool) (aq nq mq:Nat) (tq:NI) (r:Rt30):List Blk:= [Blk.cols (List.length r.2.2.2.1) [Col.int .i64 fun j=>S.at' r.2.2.2.1 j],Blk.cols (List.length r.2.2.2.2) [Col.int .i64 fun j=>S.at' r.2.2.2.2 j]]
noncomputable def I30 (n1:Bool) (ap np mp:Nat) (tp:NI) (n2:Bool) (aq nq mq:Nat) (tq:NI):St30→Hd:=fun s=>s.elim
noncomputable def q30 (n1:Bool) (ap np mp:Nat) (tp:NI) (n2:Bool) (aq nq mq:Nat) (tq:NI):St30→Option (St30⊕Rt30):=fun s=>s.elim
noncomputable def p30 (n1:Bool) (ap np mp:Nat) (tp:NI) (n2:Bool) (aq nq mq:Nat) (tq:NI):Option (St30⊕Rt30):=bif (decide (ap+np≤mp∧np≤1000000)) then (bif (S.okI n1 np fun j=>tp (j+ap)) then (bif (decide (aq+nq≤mq∧nq≤1000000)) then (bif (S.okI n2 nq fun j=>tq (j+aq)) then (bif ((↑nq:Int)==0) then (some (.inr (false,false,(13:Int),[],[]))) else (bif (decide ((ap+np≤mp∧aq+nq≤mq)∧(np≤900∧nq≤900)∧(S.okG np fun j=>tp (j+ap))=true∧(S.okG nq fun j=>tq (j+aq))=true∧0<nq)) then (bif (n1) then (bif (decide ((↑(List.length (S.grp ((S.val np fun j=>tp (j+ap)) % S.val nq fun j=>tq (j+aq)))):Int)>0)) then (bif (decide ((0+List.length (S.grp ((S.val np fun j=>tp (j+ap)) / S.val nq fun j=>tq (j+aq)))≤List.length (S.grp ((S.val np fun j=>tp (j+ap)) / S.val nq fun j=>tq (j+aq)))∧1≤1)∧(List.length (S.grp ((S.val np fun j=>tp (j+ap)) / S.val nq fun j=>tq (j+aq)))≤1000∧1≤1000)∧(S.okG (List.length (S.grp ((S.val np fun j=>tp (j+ap)) / S.val nq fun j=>tq (j+aq)))) fun j=>S.at' (S.grp ((S.val np fun j=>tp (j+ap)) / S.val nq fun j=>tq (j+aq))) j)=true∧true=true)) then (bif (decide ((aq+nq≤mq∧0+List.length (c30_e_1 ap np tp aq nq tq)≤List.length (S.grp ((S.val np fun j=>tp (j+ap)) % S.val nq fun j=>tq (j+aq))))∧(nq≤1000∧List.length (c30_e_1 ap np tp aq nq tq)≤1000)∧(S.okG nq fun j=>tq (j+aq))=true∧(S.okG (List.length (c30_e_1 ap np tp aq nq tq)) fun j=>S.at' (c30_e_1 ap np tp aq nq tq) j)=true∧(c30_e_8 ap np tp aq nq tq)≤S.val nq fun j=>tq (j+aq))) then (bif (n2) then (bif (c30_e_11 ap np tp aq nq tq) then (bif (decide ((↑(List.length (S.grp (c30_e_5 ap np tp aq nq tq))):Int)>80)) then (some (.inr (false,false,(3:Int),[],[]))) else (bif (c30_e_4 ap np tp aq nq tq) then (some (.inr (S.sgB false (S.val (Prod.fst (S.grpP ((c30_e_0 ap np tp aq nq tq)+1))) fun j=>S.at' (Prod.snd (S.grpP ((c30_e_0 ap np tp aq nq tq)+1))) j),S.sgB false (c30_e_18 ap np tp aq nq tq),(0:Int),S.grp (c30_e_18 ap np tp aq nq tq),S.grp (S.val (Prod.fst (S.grpP ((c30_e_0 ap np tp aq nq tq)+1))) fun j=>S.at' (Prod.snd (S.grpP ((c30_e_0 ap np tp aq nq tq)+1))) j)))) else (none))) else (none)) else (bif (c30_e_11 ap np tp aq nq tq) then (bif (decide ((↑(List.length (S.grp (c30_e_5 ap np tp aq nq tq))):Int)>80)) then (some (.inr (false,false,(3:Int),[],[]))) else (bif (c30_e_4 ap np tp aq nq tq) then (some (.inr (S.sgB true (S.val (Prod.fst (S.grpP ((c30_e_0 ap np tp aq nq tq)+1))) fun j=>S.at' (Prod.snd (S.grpP ((c30_e_0 ap np tp aq nq tq)+1))) j),S.sgB false (c30_e_18 ap np tp aq nq tq),(0:Int),S.grp (c30_e_18 ap np tp aq nq tq),S.grp (S.val (Prod.fst (S.grpP ((c30_e_0 ap np tp aq nq tq)+1))) fun j=>S.at' (Prod.snd (S.grpP ((c30_e_0 ap np tp aq nq tq)+1))) j)))) else (none))) else (none))) else (none)) else (none)) else (bif (n2) then (bif (c30_e_7 ap np tp aq nq tq) then (bif (decide ((↑(List.length (S.grp (c30_e_0 ap np tp aq nq tq))):Int)>80)) then (some (.inr (false,false,(3:Int),[],[]))) else (bif (c30_e_2 ap np tp aq nq tq) then (some (.inr (S.sgB false (c30_e_14 ap np tp aq nq tq),S.sgB false (c30_e_15 ap np tp aq nq tq),(0:Int),S.grp (c30_e_15 ap np tp aq nq tq),S.grp (c30_e_14 ap np tp aq nq tq)))) else (none))) else (none)) else (bif (c30_e_7 ap np tp aq nq tq) then (bif (decide ((↑(List.length (S.grp (c30_e_0 ap np tp aq nq tq))):Int)>80)) then (some (.inr (false,false,(3:Int),[],[]))) else (bif (c30_e_2 ap np tp aq nq tq) then (some (.inr (S.sgB true (c30_e_14 ap np tp aq nq tq),S.sgB false (c30_e_15 ap np tp aq nq tq),(0:Int),S.grp (c30_e_15 ap np tp aq nq tq),S.grp (c30_e_14 ap np tp aq nq tq)))) else (none))) else (none)))) else (bif (n2) then (bif (c30_e_7 ap np tp aq nq tq) then (bif (decide ((↑(List.length (S.grp (c30_e_0 ap np tp aq nq tq))):Int)>80)) then (some (.inr (false,false,(3:Int),[],[]))) else (bif (c30_e_2 ap np tp aq nq tq) then (some (.inr (S.sgB true (c30_e_14 ap np tp aq nq tq),S.sgB false (c30_e_15 ap np tp aq nq tq),(0:Int),S.grp (c30_e_15 ap np tp aq nq tq),S.grp (c30_e_14 ap np tp aq nq tq)))) else (none))) else (none)) else (bif (c30_e_7 ap np tp aq nq tq) then (bif (decide ((↑(List.length (S.grp (c30_e_0 ap np tp aq nq tq))):Int)>80)) then (some (.inr (false,false,(3:Int),[],[]))) else (bif (c30_e_2 ap np tp aq nq tq) then (some (.inr (S.sgB false (c30_e_14 ap np tp aq nq tq),S.sgB false (c30_e_15 ap np tp aq nq tq),(0:Int),S.grp (c30_e_15 ap np tp aq nq tq),S.grp (c30_e_14 ap np tp aq nq tq)))) else (none))) else (none)))) else (none))) else (some (.inr (false,false,(1:Int),[],[])))) else (none)) else (some (.inr (false,false,(1:Int),[],[])))) else (none)
noncomputable abbrev g30_4 (test:TT) (Kst:KS) (Kret:KR) (n1:Bool) (ap np mp:Nat) (tp:NI) (n2:Bool) (aq nq mq:Nat) (tq:NI):Prop:=(test (c30_e_7 ap np tp aq nq tq) (test (decide ((↑(List.length (S.grp (c30_e_0 ap np tp aq nq tq))):Int)>80)) (test (true) (Kret (c30_e_21) (c30_e_12 mp tp mq tq) (16)) (test (c30_e_2 ap np tp aq nq tq) (Kret (c30_e_16 ap np tp aq nq tq) (c30_e_13 ap np mp tp aq nq mq tq) (18)) (False))) (test (false) (Kret (c30_e_22) (c30_e_12 mp tp mq tq) (16)) (test (c30_e_2 ap np tp aq nq tq) (Kret (c30_e_19 ap np tp aq nq tq) (c30_e_10 ap np mp tp aq nq mq tq) (18)) (False)))) (False))
noncomputable abbrev g30_3 (test:TT) (Kst:KS) (Kret:KR) (n1:Bool) (ap np mp:Nat) (tp:NI) (n2:Bool) (aq nq mq:Nat) (tq:NI):Prop:=(test (c30_e_7 ap np tp aq nq tq) (test (decide ((↑(List.length (S.grp (c30_e_0 ap np tp aq nq tq))):Int)>80)) (test (true) (Kret (c30_e_21) (c30_e_12 mp tp mq tq) (16)) (test (c30_e_2 ap np tp aq nq tq) (Kret (c30_e_16 ap np tp aq nq tq) (c30_e_13 ap np mp tp aq nq mq tq) (18)) (False))) (test (false) (Kret (c30_e_22) (c30_e_12 mp tp mq tq) (16)) (test (c30_e_2 ap np tp aq nq tq) (Kret (c30_e_20 ap np tp aq nq tq) (c30_e_10 ap np mp tp aq nq mq tq) (18)) (False)))) (False))
noncomputable abbrev g30_0 (test:TT) (Kst:KS) (Kret:KR) (n1:Bool) (ap np mp:Nat) (tp:NI) (n2:Bool) (aq nq mq:Nat) (tq:NI):Prop:=(test (n1) (test (n2) (g30_4 test Kst Kret n1 ap np mp tp n2 aq nq mq tq) (g30_3 test Kst Kret n1 ap np mp tp n2 aq nq mq tq)) (test (n2) (g30_3 test Kst Kret n1 ap np mp tp n2 aq nq mq tq) (g30_4 test Kst Kret n1 ap np mp tp n2 aq nq mq tq)))
noncomputable abbrev g30_1 (test:TT) (Kst:KS) (Kret:KR) (n1:Bool) (ap np mp:Nat) (tp:NI) (n2:Bool) (aq nq mq:Nat) (tq:NI):Prop:=(test (c30_e_11 ap np tp aq nq tq) (test (decide ((↑(List.length (S.grp (c30_e_5 ap np tp aq nq tq))):Int)>80)) (test (true) (Kret (c30_e_21) (c30_e_12 mp tp mq tq) (21)) (test (c30_e_4 ap np tp aq nq tq) (Kret (PV.tup [PV.agg [PV.tf false,PV.nils],PV.agg [PV.bool (S.sgB false (c30_e_6 ap np tp aq nq tq)),PV.own (22) (1) (List.length (c30_e_3 ap np tp aq nq tq))],PV.int .i64 (0:Int)]) (c30_e_23 ap np mp tp aq nq mq tq) (23)) (False))) (test (false) (Kret (c30_e_22) (c30_e_12 mp tp mq tq) (21)) (test (c30_e_4 ap np tp aq nq tq) (Kret (PV.tup [PV.agg [PV.bool (S.sgB false (c30_e_5 ap np tp aq nq tq)),PV.own (17) (1) (List.length (c30_e_9 ap np tp aq nq tq))],PV.agg [PV.bool (S.sgB false (c30_e_6 ap np tp aq nq tq)),PV.own (22) (1) (List.length (c30_e_3 ap np tp aq nq tq))],PV.int .i64 (0:Int)]) (c30_e_17 ap np mp tp aq nq mq tq) (23)) (False)))) (False))
noncomputable abbrev g30_2 (test:TT) (Kst:KS) (Kret:KR) (n1:Bool) (ap np mp:Nat) (tp:NI) (n2:Bool) (aq nq mq:Nat) (tq:NI):Prop:=(test (c30_e_11 ap np tp aq nq tq) (test (decide ((↑(List.length (S.grp (c30_e_5 ap np tp aq nq tq))):Int)>80)) (test (true) (Kret (c30_e_21) (c30_e_12 mp tp mq tq) (21)) (test (c30_e_4 ap np tp aq nq tq) (Kret (PV.tup [PV.agg [PV.tf false,PV.nils],PV.agg [PV.bool (S.sgB false (c30_e_6 ap np tp aq nq tq)),PV.own (22) (1) (List.length (c30_e_3 ap np tp aq nq tq))],PV.int .i64 (0:Int)]) (c30_e_23 ap np mp tp aq nq mq tq) (23)) (False))) (test (false) (Kret (c30_e_22) (c30_e_12 mp tp mq tq) (21)) (test (c30_e_4 ap np tp aq nq tq) (Kret (PV.tup [PV.agg [PV.bool (S.sgB true (c30_e_5 ap np tp aq nq tq)),PV.own (17) (1) (List.length (c30_e_9 ap np tp aq nq tq))],PV.agg [PV.bool (S.sgB false (c30_e_6 ap np tp aq nq tq)),PV.own (22) (1) (List.length (c30_e_3 ap np tp aq nq tq))],PV.int .i64 (0:Int)]) (c30_e_17 ap np mp tp aq nq mq tq) (23)) (False)))) (False))
noncomputable def Te30 (test:TT) (Kst:KS) (Kret:KR) (n1:Bool) (ap np mp:Nat) (tp:NI) (n2:Bool) (aq nq mq:Nat) (tq:NI):Prop:=test (decide (ap+np≤mp∧np≤1000000)) (test (S.okI n1 np fun j=>tp (j+ap)) (test (decide (aq+nq≤mq∧nq≤1000000)) (test (S.okI n2 nq fun j=>tq (j+aq)) (test ((↑nq:Int)==0) (Kret (PV.tup [PV.agg [PV.tf false,PV.nils],PV.agg [PV.tf false,PV.nils],PV.int .i64 (13:Int)]) (c30_e_12 mp tp mq tq) (8)) (test (decide ((ap+np≤mp∧aq+nq≤mq)∧(np≤900∧nq≤900)∧(S.okG np fun j=>tp (j+ap))=true∧(S.okG nq fun j=>tq (j+aq))=true∧0<nq)) (test (n1) (test (decide ((↑(List.length (S.grp ((S.val np fun j=>tp (j+ap)) % S.val nq fun j=>tq (j+aq)))):Int)>0)) (test (decide ((0+List.length (S.grp ((S.val np fun j=>tp (j+ap)) / S.val nq fun j=>tq (j+aq)))≤List.length (S.grp ((S.val np fun j=>tp (j+ap)) / S.val nq fun j=>tq (j+aq)))∧1≤1)∧(List.length (S.grp ((S.val np fun j=>tp (j+ap)) / S.val nq fun j=>tq (j+aq)))≤1000∧1≤1000)∧(S.okG (List.length (S.grp ((S.val np fun j=>tp (j+ap)) / S.val nq fun j=>tq (j+aq)))) fun j=>S.at' (S.grp ((S.val np fun j=>tp (j+ap)) / S.val nq fun j=>tq (j+aq))) j)=true∧true=true)) (test (decide ((aq+nq≤mq∧0+List.length (c30_e_1 ap np tp aq nq tq)≤List.length (S.grp ((S.val np fun j=>tp (j+ap)) % S.val nq fun j=>tq (j+aq))))∧(nq≤1000∧List.length (c30_e_1 ap np tp aq nq tq)≤1000)∧(S.okG nq fun j=>tq (j+aq))=true∧(S.okG (List.length (c30_e_1 ap np tp aq nq tq)) fun j=>S.at' (c30_e_1 ap np tp aq nq tq) j)=true∧(c30_e_8 ap np tp aq nq tq)≤S.val nq fun j=>tq (j+aq))) (test (n1) (test (n2) (g30_1 test Kst Kret n1 ap np mp tp n2 aq nq mq tq) (g30_2 test Kst Kret n1 ap np mp tp n2 aq nq mq tq)) (test (n2) (g30_2 test Kst Kret n1 ap np mp tp n2 aq nq mq tq) (g30_1 test Kst Kret n1 ap np mp tp n2 aq nq mq tq))) (False)) (False)) (g30_0 test Kst Kret n1 ap np mp tp n2 aq nq mq tq)) (g30_0 test Kst Kret n1 ap np mp tp n2 aq nq mq tq)) (False))) (Kret (PV.tup [PV.agg [PV.tf false,PV.nils],PV.agg [PV.tf false,PV.nils],PV.int .i64 (1:Int)]) (c30_e_12 mp tp mq tq) (8))) (False)) (Kret (PV.tup [PV.agg [PV.tf false,PV.nils],PV.agg [PV.tf false,PV.nils],PV.int .i64 (1:Int)]) (c30_e_12 mp tp mq tq) (7))) (False)
theorem te30 (test:TT) (Kst:KS) (Kret:KR) (n1:Bool) (ap np mp:Nat) (tp:NI) (n2:Bool) (aq nq mq:Nat) (tq:NI):run test Tryz.env true (xG2 test) true 400 ⟨86,[.cd (mkFn Tryz.f86).body],argT 0 [.agg [.bool n1,.loose ⟨0,1,ap,0⟩ np],.agg [.bool n2,.loose ⟨1,1,aq,0⟩ nq]],[[],[(0,(false,.cols mp [.int .i64 tp])),(1,(false,.cols mq [.int .i64 tq]))]],2⟩ (proj 2 [] Kst Kret)=
  Te30 test Kst Kret n1 ap np mp tp n2 aq nq mq tq:=by kernel_rfl
noncomputable abbrev J30 (n1:Bool) (ap np mp:Nat) (tp:NI) (n2:Bool) (aq nq mq:Nat) (tq:NI):Rt30→Heap:=fun r=> [newL (2+1) ((N30 n1 ap np mp tp n2 aq nq mq tq) r)++ [(0,(false,.cols mp [.int .i64 tp])),(1,(false,.cols mq [.int .i64 tq]))]]
attribute [local irreducible] Int.subNatNat in
theorem be30 (n1:Bool) (ap np mp:Nat) (tp:NI) (n2:Bool) (aq nq mq:Nat) (tq:NI) (Kst:KS) (Kret:KR) (x:St30⊕Rt30) (hS:HS 2 400 ((I30 n1 ap np mp tp n2 aq nq mq tq)) Kst x) (hR:HR 2 400 ((V30 n1 ap np mp tp n2 aq nq mq tq)) (J30 n1 ap np mp tp n2 aq nq mq tq) Kret x) (h:p30 n1 ap np mp tp n2 aq nq mq tq=some x):Te30 cond Kst Kret n1 ap np mp tp n2 aq nq mq tq:=by
  unfold Te30
  unfold p30 at h
  refine bif_split h (fun c0 h=>bif_split h (fun c1 h=>bif_split h (fun c2 h=>bif_split h (fun c3 h=>bif_split h (fun c4 h=> ?_) (fun c4 h=>bif_split h (fun c5 h=>bif_split h (fun c6 h=>bif_split h (fun c7 h=>bif_split h (fun c8 h=>bif_split h (fun c9 h=>cond_yes c6 (bif_split h (fun c10 h=>bif_split h (fun c11 h=>bif_split h (fun c12 h=>cond_yes rfl (ret_at hR _ h (fun n=>bif Nat.beq n 3 then 399 else bif Nat.beq n 4 then 398 else n) rfl rfl rfl (rn_tup ⟨(rn_agg ⟨(rn_bool_tf rfl),(rn_own_nils rfl),trivial⟩),(rn_agg ⟨(rn_bool_tf rfl),(rn_own_nils rfl),trivial⟩),(rn_int rfl),trivial⟩) rfl (entl_fresh (use_own rfl) (fresh_ok rfl) (entl_fresh (use_own rfl) (fresh_ok rfl) (entl_bor (use_lo rfl) rfl rfl (entl_bor (use_lo rfl) rfl rfl entl_nil)))))) (fun c12 h=>cond_no rfl (bif_split h (fun c13 h=> ?_) (fun c13 h=> ?_)))) (fun c11 h=> ?_)) (fun c10 h=>bif_split h (fun c11 h=>bif_split h (fun c12 h=>cond_yes rfl (ret_at hR _ h (fun n=>bif Nat.beq n 3 then 399 else bif Nat.beq n 4 then 398 else n) rfl rfl rfl (rn_tup ⟨(rn_agg ⟨(rn_bool_tf rfl),(rn_own_nils rfl),trivial⟩),(rn_agg ⟨(rn_bool_tf rfl),(rn_own_nils rfl),trivial⟩),(rn_int rfl),trivial⟩) rfl (entl_fresh (use_own rfl) (fresh_ok rfl) (entl_fresh (use_own rfl) (fresh_ok rfl) (entl_bor (use_lo rfl) rfl rfl (entl_bor (use_lo rfl) rfl rfl entl_nil)))))) (fun c12 h=>cond_no rfl (bif_split h (fun c13 h=> ?_) (fun c13 h=> ?_)))) (fun c11 h=> ?_)))) (fun c9 h=> ?_)) (fun c8 h=> ?_)) (fun c7 h=>cond_yes c6 (bif_split h (fun c8 h=>bif_split h (fun c9 h=>bif_split h (fun c10 h=>cond_yes rfl (ret_at hR _ h (fun n=>bif Nat.beq n 3 then 399 else bif Nat.beq n 4 then 398 else n) rfl rfl rfl (rn_tup ⟨(rn_agg ⟨(rn_bool_tf rfl),(rn_own_nils rfl),trivial⟩),(rn_agg ⟨(rn_bool_tf rfl),(rn_own_nils rfl),trivial⟩),(rn_int rfl),trivial⟩) rfl (entl_fresh (use_own rfl) (fresh_ok rfl) (entl_fresh (use_own rfl) (fresh_ok rfl) (entl_bor (use_lo rfl) rfl rfl (entl_bor (use_lo rfl) rfl rfl entl_nil)))))) (fun c10 h=>cond_no rfl (bif_split h (fun c11 h=> ?_) (fun c11 h=> ?_)))) (fun c9 h=> ?_)) (fun c8 h=>bif_split h (fun c9 h=>bif_split h (fun c10 h=>cond_yes rfl (ret_at hR _ h (fun n=>bif Nat.beq n 3 then 399 else bif Nat.beq n 4 then 398 else n) rfl rfl rfl (rn_tup ⟨(rn_agg ⟨(rn_bool_tf rfl),(rn_own_nils rfl),trivial⟩),(rn_agg ⟨(rn_bool_tf rfl),(rn_own_nils rfl),trivial⟩),(rn_int rfl),trivial⟩) rfl (entl_fresh (use_own rfl) (fresh_ok rfl) (entl_fresh (use_own rfl) (fresh_ok rfl) (entl_bor (use_lo rfl) rfl rfl (entl_bor (use_lo rfl) rfl rfl entl_nil)))))) (fun c10 h=>cond_no rfl (bif_split h (fun c11 h=> ?_) (fun c11 h=> ?_)))) (fun c9 h=> ?_))))) (fun c6 h=>cond_no c6 (bif_split h (fun c7 h=>bif_split h (fun c8 h=>bif_split h (fun c9 h=>cond_yes rfl (ret_at hR _ h (fun n=>bif Nat.beq n 3 then 399 else bif Nat.beq n 4 then 398 else n) rfl rfl rfl (rn_tup ⟨(rn_agg ⟨(rn_bool_tf rfl),(rn_own_nils rfl),trivial⟩),(rn_agg ⟨(rn_bool_tf rfl),(rn_own_nils rfl),trivial⟩),(rn_int rfl),trivial⟩) rfl (entl_fresh (use_own rfl) (fresh_ok rfl) (entl_fresh (use_own rfl) (fresh_ok rfl) (entl_bor (use_lo rfl) rfl rfl (entl_bor (use_lo rfl) rfl rfl entl_nil)))))) (fun c9 h=>cond_no rfl (bif_split h (fun c10 h=> ?_) (fun c10 h=> ?_)))) (fun c8 h=> ?_)) (fun c7 h=>bif_split h (fun c8 h=>bif_split h (fun c9 h=>cond_yes rfl (ret_at hR _ h (fun n=>bif Nat.beq n 3 then 399 else bif Nat.beq n 4 then 398 else n) rfl rfl rfl (rn_tup ⟨(rn_agg ⟨(rn_bool_tf rfl),(rn_own_nils rfl),trivial⟩),(rn_agg ⟨(rn_bool_tf rfl),(rn_own_nils rfl),trivial⟩),(rn_int rfl),trivial⟩) rfl (entl_fresh (use_own rfl) (fresh_ok rfl) (entl_fresh (use_own rfl) (fresh_ok rfl) (entl_bor (use_lo rfl) rfl rfl (entl_bor (use_lo rfl) rfl rfl entl_nil)))))) (fun c9 h=>cond_no rfl (bif_split h (fun c10 h=> ?_) (fun c10 h=> ?_)))) (fun c8 h=> ?_))))) (fun c5 h=> ?_))) (fun c3 h=> ?_)) (fun c2 h=> ?_)) (fun c1 h=> ?_)) (fun c0 h=> ?_)
  all_goals first
    |exact no_some h
    |exact ret_at hR _ h (fun n=>bif Nat.beq n 3 then 17 else bif Nat.beq n 4 then 12 else n) rfl rfl rfl (rn_tup ⟨(rn_agg ⟨(rn_bool rfl),(rn_own (use_own rfl) rfl rfl),trivial⟩),(rn_agg ⟨(rn_bool rfl),(rn_own (use_own rfl) rfl rfl),trivial⟩),(rn_int rfl),trivial⟩) rfl (entl_new (use_own rfl) rfl (Nat.le_of_eq rfl) (rcs_int (fun _ _=>rfl) rcs_nil) (entl_new (use_own rfl) rfl (Nat.le_of_eq rfl) (rcs_int (fun _ _=>rfl) rcs_nil) (entl_bor (use_lo rfl) rfl rfl (entl_bor (use_lo rfl) rfl rfl entl_nil))))
    |exact ret_at hR _ h (fun n=>bif Nat.beq n 3 then 399 else bif Nat.beq n 4 then 398 else n) rfl rfl rfl (rn_tup ⟨(rn_agg ⟨(rn_bool_tf rfl),(rn_own_nils rfl),trivial⟩),(rn_agg ⟨(rn_bool_tf rfl),(rn_own_nils rfl),trivial⟩),(rn_int rfl),trivial⟩) rfl (entl_fresh (use_own rfl) (fresh_ok rfl) (entl_fresh (use_own rfl) (fresh_ok rfl) (entl_bor (use_lo rfl) rfl rfl (entl_bor (use_lo rfl) rfl rfl entl_nil))))
    |exact ret_at hR _ h (fun n=>bif Nat.beq n 3 then 22 else bif Nat.beq n 4 then 17 else n) rfl rfl rfl (rn_tup ⟨(rn_agg ⟨(rn_bool rfl),(rn_own (use_own rfl) rfl rfl),trivial⟩),(rn_agg ⟨(rn_bool rfl),(rn_own (use_own rfl) rfl rfl),trivial⟩),(rn_int rfl),trivial⟩) rfl (entl_new (use_own rfl) rfl (Nat.le_of_eq rfl) (rcs_int (fun _ _=>rfl) rcs_nil) (entl_new (use_own rfl) rfl (Nat.le_of_eq rfl) (rcs_int (fun _ _=>rfl) rcs_nil) (entl_bor (use_lo rfl) rfl rfl (entl_bor (use_lo rfl) rfl rfl entl_nil))))
theorem a30 (n1:Bool) (ap np mp:Nat) (tp:NI) (n2:Bool) (aq nq mq:Nat) (tq:NI) {r:Rt30} (h:Goes ((q30 n1 ap np mp tp n2 aq nq mq tq)) ((p30 n1 ap np mp tp n2 aq nq mq tq)) r):CallR Tryz.prog 86 [.agg [.bool n1,.loose ⟨0,1,ap,0⟩ np],.agg [.bool n2,.loose ⟨1,1,aq,0⟩ nq]] [[(0,(false,.cols mp [.int .i64 tp])),(1,(false,.cols mq [.int .i64 tq]))]] 2 ((V30 n1 ap np mp tp n2 aq nq mq tq) r) ((J30 n1 ap np mp tp n2 aq nq mq tq) r) 400∧ ∃ F,Tryz.prog.funcs[86]? =some F∧F.body.isSome=true∧(F.name== "runtime.NumGoroutine")=false:=by
  refine dec_calls (f:=86) (lo:=2) (hi:=400) Tryz.envOk Tryz.mixed xG2_ok ((I30 n1 ap np mp tp n2 aq nq mq tq)) ((V30 n1 ap np mp tp n2 aq nq mq tq)) (J30 n1 ap np mp tp n2 aq nq mq tq) (fn:=mkFn Tryz.f86) (ts:= []) (n:=400) rfl (by decide) (by simp) (names_of rfl) ?_ ?_ ?_ h
  · intro s; exact s.elim
  · intro Kst Kret x hS hR h
    exact Holds.eq (te30 cond Kst Kret n1 ap np mp tp n2 aq nq mq tq) (be30 n1 ap np mp tp n2 aq nq mq tq Kst Kret x hS hR h)
  · intro Kst Kret x hS hR s h; exact s.elim
noncomputable abbrev w30 {α:Type} (g:Bool→Nat→Nat→Nat→(Nat→Int)→Bool→Nat→Nat→Nat→(Nat→Int)→α) (x:(Bool×(Nat×Nat×Nat×(Nat→Int)×Unit)×Unit)×(Bool×(Nat×Nat×Nat×(Nat→Int)×Unit)×Unit)×Unit):α:=g x.1.1 x.1.2.1.1 x.1.2.1.2.1 x.1.2.1.2.2.1 x.1.2.1.2.2.2.1 x.2.1.1 x.2.1.2.1.1 x.2.1.2.1.2.1 x.2.1.2.1.2.2.1 x.2.1.2.1.2.2.2.1
noncomputable def k30:Con:=⟨86,[.agg [.plain (.bool),.list [.int .i64]],.agg [.plain (.bool),.list [.int .i64]]],w30 (fun n1 ap np mp tp n2 aq nq mq tq=>decide ((ap+np≤mp∧np≤1000000)∧aq+nq≤mq∧nq≤1000000)),w30 (fun n1 ap np mp tp n2 aq nq mq tq=>(V30 n1 ap np mp tp n2 aq nq mq tq) ((S.divI n1 np (fun j=>tp (j+ap)) n2 nq (fun j=>tq (j+aq))).1,false,(S.divI n1 np (fun j=>tp (j+ap)) n2 nq (fun j=>tq (j+aq))).2.1,(S.divI n1 np (fun j=>tp (j+ap)) n2 nq (fun j=>tq (j+aq))).2.2.1,(S.divI n1 np (fun j=>tp (j+ap)) n2 nq (fun j=>tq (j+aq))).2.2.2)),w30 (fun n1 ap np mp tp n2 aq nq mq tq=>(N30 n1 ap np mp tp n2 aq nq mq tq) ((S.divI n1 np (fun j=>tp (j+ap)) n2 nq (fun j=>tq (j+aq))).1,false,(S.divI n1 np (fun j=>tp (j+ap)) n2 nq (fun j=>tq (j+aq))).2.1,(S.divI n1 np (fun j=>tp (j+ap)) n2 nq (fun j=>tq (j+aq))).2.2.1,(S.divI n1 np (fun j=>tp (j+ap)) n2 nq (fun j=>tq (j+aq))).2.2.2)),fun _ _=> .dead⟩
theorem s30 (n1 : Bool) (ap np mp:Nat) (tp:Nat→Int) (n2:Bool) (aq nq mq:Nat) (tq:Nat→Int) (hp:(ap+np≤mp∧np≤1000000)∧aq+nq≤mq∧nq≤1000000):Goes ((q30 n1 ap np mp tp n2 aq nq mq tq)) ((p30 n1 ap np mp tp n2 aq nq mq tq)) (((S.divI n1 np (fun j=>tp (j+ap)) n2 nq (fun j=>tq (j+aq))).1,false,(S.divI n1 np (fun j=>tp (j+ap)) n2 nq (fun j=>tq (j+aq))).2.1,(S.divI n1 np (fun j=>tp (j+ap)) n2 nq (fun j=>tq (j+aq))).2.2.1,(S.divI n1 np (fun j=>tp (j+ap)) n2 nq (fun j=>tq (j+aq))).2.2.2)):=by
  obtain ⟨⟨hp1,hp2⟩,hp3,hp4⟩:=hp
  have d1:ap+np≤mp∧np≤1000000:=⟨hp1,hp2⟩
  have d2:aq+nq≤mq∧nq≤1000000:=⟨hp3,hp4⟩
  unfold S.divI
  by_cases g1:S.okI n1 np (fun j=>tp (j+ap))=true
  · obtain ⟨l1, k1⟩ :=okI_G g1
    by_cases g2:S.okI n2 nq (fun j=>tq (j+aq))=true
    · obtain ⟨l2, k2⟩:=okI_G g2
      rw [if_pos ⟨g1,g2⟩]
      by_cases h0:nq=0
      · rw [if_pos h0]
        unfold p30
        simp only [g1,g2,decide_eq_true d1,decide_eq_true d2,cond_true]
        exact goes_ok (by rw [h0]; rfl) (goes_inr.mpr rfl)
      · rw [if_neg h0]
        have up:=val_nn (okG_D k1)
        have vp:=val_pos k2 (by omega)
        have ul:=val_lt (okG_D k1) (Nat.le_refl np)
        have vl:=val_lt (okG_D k2) (Nat.le_refl nq)
        rw [divV_sv up vp]
        have hq:(ap+np≤mp∧aq+nq≤mq)∧(np≤900∧nq≤900)∧S.okG np (fun j=>tp (j+ap))=true∧S.okG nq (fun j=>tq (j+aq))=true∧0<nq:=⟨⟨hp1,hp3⟩,⟨by omega,by omega⟩,k1,k2,by omega⟩
        have e0:((nq:Int)==0)=false:=by rw [beq_eq_false_iff_ne]; omega
        have m0:=Int.emod_nonneg (S.val np (fun j=>tp (j+ap))) (show (S.val nq (fun j=>tq (j+aq)))≠0 by omega)
        have m1:=Int.emod_lt_of_pos (S.val np (fun j=>tp (j+ap))) vp
        have q0:=Int.ediv_nonneg up (show 0≤(S.val nq (fun j=>tq (j+aq))) by omega)
        have q1:=Int.ediv_le_self (S.val nq (fun j=>tq (j+aq))) up
        have hw:=pw_mono (k:=np) (m:=80) l1
        obtain ⟨Q,hQ⟩: ∃ Q,(S.val np (fun j=>tp (j+ap))) / (S.val nq (fun j=>tq (j+aq)))=Q:=⟨_,rfl⟩
        obtain ⟨R,hR⟩: ∃ R,(S.val np (fun j=>tp (j+ap))) % (S.val nq (fun j=>tq (j+aq)))=R:=⟨_,rfl⟩
        rw [hQ] at q0 q1
        rw [hR] at m0 m1
        have lq:=grp_le (v:=Q) (n:=80) (by omega)
        have lq1:=grp_le (v:=Q+1) (n:=81) (by have:S.pw 81=1000000*S.pw 80:=rfl; have:=pw_pos (k:=80); omega)
        have lr:=grp_le (v:=R) (n:=nq) (by omega)
        have lr1:=grp_le (v:=(S.val nq (fun j=>tq (j+aq)))-R) (n:=nq+1) (by have:S.pw (nq+1)=1000000*S.pw nq:=rfl; omega)
        have vQ:=val_grpL q0
        have vR:=val_grpL m0
        have vQ1:=val_grpL (v:=Q+1) (by omega)
        have vR1:=val_grpL (v:=(S.val nq (fun j=>tq (j+aq)))-R) (by omega)
        have a1:(0+(S.grp Q).length≤(S.grp Q).length∧1≤1)∧((S.grp Q).length≤1000∧1≤1000)∧(S.okG (S.grp Q).length fun j=>S.at' (S.grp Q) j)=true∧true=true:=⟨⟨by omega,by omega⟩,⟨by omega,by omega⟩,grp_ok,rfl⟩
        have a2:(aq+nq≤mq∧0+(S.grp R).length≤(S.grp R).length)∧(nq≤1000∧(S.grp R).length≤1000)∧S.okG nq (fun j=>tq (j+aq))=true∧(S.okG (S.grp R).length fun j=>S.at' (S.grp R) j)=true∧R≤(S.val nq (fun j=>tq (j+aq))):=⟨⟨hp3,by omega⟩,⟨by omega,by omega⟩,k2,grp_ok,by omega⟩
        have b1:0+(S.grp Q).length≤(S.grp Q).length∧(S.grp Q).length≤1000000∧(S.okD (S.grp Q).length fun j=>S.at' (S.grp Q) j)=true:=⟨by omega,by omega,okG_D grp_ok⟩
        have b2:0+(S.grp R).length≤(S.grp R).length∧(S.grp R).length≤1000000∧(S.okD (S.grp R).length fun j=>S.at' (S.grp R) j)=true:=⟨by omega,by omega,okG_D grp_ok⟩
        have b3:0+(S.grp (Q+1)).length≤(S.grp (Q+1)).length∧(S.grp (Q+1)).length≤1000000∧(S.okD (S.grp (Q+1)).length fun j=>S.at' (S.grp (Q+1)) j)=true:=⟨by omega,by omega,okG_D grp_ok⟩
        have b4:0+(S.grp ((S.val nq (fun j=>tq (j+aq)))-R)).length≤(S.grp ((S.val nq (fun j=>tq (j+aq)))-R)).length∧(S.grp ((S.val nq (fun j=>tq (j+aq)))-R)).length≤1000000∧(S.okD (S.grp ((S.val nq (fun j=>tq (j+aq)))-R)).length fun j=>S.at' (S.grp ((S.val nq (fun j=>tq (j+aq)))-R)) j)=true:=⟨by omega,by omega,okG_D grp_ok⟩
        unfold p30
        simp only [-eq_self,g1,g2,decide_eq_true d1,decide_eq_true d2,cond_true,cond_false,e0,decide_eq_true hq,c30_e_0,c30_e_1,c30_e_2,c30_e_3,c30_e_4,c30_e_5,c30_e_6,c30_e_7,c30_e_8,c30_e_9,c30_e_10,c30_e_11,c30_e_12,c30_e_13,c30_e_14,c30_e_15,c30_e_16,c30_e_17,c30_e_18,c30_e_19,c30_e_20,c30_e_21,c30_e_22,c30_e_23,S.grpP,hQ,hR,vQ,vR,decide_eq_true a1,decide_eq_true a2,vQ1,vR1,decide_eq_true b1,decide_eq_true b2,decide_eq_true b3,decide_eq_true b4]
        have hR0:((S.grp R).length:Int)>0↔R>0:=by
          have:= @len_zero R
          omega
        have key: ∀ (c:Bool) (q r:Int),0≤q→(S.dq n1 (S.val np (fun j=>tp (j+ap))) (S.val nq (fun j=>tq (j+aq)))=q)→S.dr n1 (S.val np (fun j=>tp (j+ap))) (S.val nq (fun j=>tq (j+aq)))=r→(n1 != n2)=c→((if (S.grp (S.dq n1 (S.val np (fun j=>tp (j+ap))) (S.val nq (fun j=>tq (j+aq))))).length>80 then ((false,3,[],[]):Bool×Int×List Int×List Int) else (S.sgB (n1 != n2) (S.dq n1 (S.val np (fun j=>tp (j+ap))) (S.val nq (fun j=>tq (j+aq)))),0,S.grp (S.dr n1 (S.val np (fun j=>tp (j+ap))) (S.val nq (fun j=>tq (j+aq)))),S.grp (S.dq n1 (S.val np (fun j=>tp (j+ap))) (S.val nq (fun j=>tq (j+aq)))))))=if (S.grp q).length>80 then (false,3,[],[]) else (S.sgB c q,0,S.grp r,S.grp q):=fun c q r h0 h1 h2 h3=>by rw [h1,h2,h3]
        clear hq a1 a2 b1 b2 b3 b4 vQ vR vQ1 vR1 up vp ul vl k1 k2 g1 g2 hw
        cases n1
        · have e1 :S.dq false (S.val np (fun j=>tp (j+ap))) (S.val nq (fun j=>tq (j+aq)))=Q∧S.dr false (S.val np (fun j=>tp (j+ap))) (S.val nq (fun j=>tq (j+aq)))=R:=by
            unfold S.dq S.dr
            simp only [Bool.false_eq_true,false_and,if_false]
            exact ⟨hQ,hR⟩
          cases n2<;>
          (rw [key _ (Q) (R) (by omega) e1.1 e1.2 rfl]
           simp only [cond_true,cond_false]
           repeat' first
             |with_reducible refine goes_if (fun h=> ?_) (fun h=> ?_)<;>(try simp only [SH] at h)
           all_goals first
             |(exfalso; omega)
             |(rw [if_pos (by omega)]; exact goes_inr.mpr rfl)
             | (rw [if_neg (by omega)]
                refine goes_inr.mpr ?_
                first
                  |rfl
                  |exact congrArg G0 (finA (q:=Q) (r:=R) (by omega) (by assumption) (by assumption)).symm
                  |exact congrArg G0 (finB (q:=Q) (r:=R) (by omega) (by assumption)).symm
                  |exact congrArg G0 (finC (q:=Q) (r:=R) (by assumption) (by assumption)).symm
                  |exact congrArg G0 (finD (q:=Q) (r:=R) (by assumption)).symm))
        · by_cases hr:R>0
          · have e1 :S.dq true (S.val np (fun j=>tp (j+ap))) (S.val nq (fun j=>tq (j+aq)))=Q+1∧S.dr true (S.val np (fun j=>tp (j+ap))) (S.val nq (fun j=>tq (j+aq)))=(S.val nq (fun j=>tq (j+aq)))-R:=by
              unfold S.dq S.dr
              rw [hR,if_pos ⟨rfl,hr⟩,if_pos ⟨rfl,hr⟩]
              exact ⟨by rw [hQ],rfl⟩
            cases n2<;>
            (rw [key _ (Q+1) ((S.val nq (fun j=>tq (j+aq)))-R) (by omega) e1.1 e1.2 rfl]
             simp only [cond_true,cond_false,decide_eq_true (hR0.mpr hr)]
             repeat' first
               |with_reducible refine goes_if (fun h=> ?_) (fun h=> ?_)<;>(try simp only [SH] at h)
             all_goals first
               |(exfalso; omega)
               |(rw [if_pos (by omega)]; exact goes_inr.mpr rfl)
               | (rw [if_neg (by omega)]
                  refine goes_inr.mpr ?_
                  first
                    |rfl
                    |exact congrArg G0 (finA (q:=Q+1) (r:=(S.val nq (fun j=>tq (j+aq)))-R) (by omega) (by assumption) (by assumption)).symm
                    |exact congrArg G0 (finB (q:=Q+1) (r:=(S.val nq (fun j=>tq (j+aq)))-R) (by omega) (by assumption)).symm
                    |exact congrArg G0 (finC (q:=Q+1) (r:=(S.val nq (fun j=>tq (j+aq)))-R) (by assumption) (by assumption)).symm
                    |exact congrArg G0 (finD (q:=Q+1) (r:=(S.val nq (fun j=>tq (j+aq)))-R) (by assumption)).symm))
          · have e1 :S.dq true (S.val np (fun j=>tp (j+ap))) (S.val nq (fun j=>tq (j+aq)))=Q∧S.dr true (S.val np (fun j=>tp (j+ap))) (S.val nq (fun j=>tq (j+aq)))=R:=by
              unfold S.dq S.dr
              rw [hR,if_neg (fun h=>hr h.2),if_neg (fun h=>hr h.2)]
              exact ⟨hQ,rfl⟩
            cases n2<;>
            (rw [key _ (Q) (R) (by omega) e1.1 e1.2 rfl]
             simp only [cond_true,cond_false,decide_eq_false (fun h=>hr (hR0.mp h))]
             repeat' first
               |with_reducible refine goes_if (fun h=> ?_) (fun h=> ?_)<;>(try simp only [SH] at h)
             all_goals first
               |(exfalso; omega)
               |(rw [if_pos (by omega)]; exact goes_inr.mpr rfl)
               | (rw [if_neg (by omega)]
                  refine goes_inr.mpr ?_
                  first
                    |rfl
                    |exact congrArg G0 (finA (q:=Q) (r:=R) (by omega) (by assumption) (by assumption)).symm
                    |exact congrArg G0 (finB (q:=Q) (r:=R) (by omega) (by assumption)).symm
                    |exact congrArg G0 (finC (q:=Q) (r:=R) (by assumption) (by assumption)).symm
                    |exact congrArg G0 (finD (q:=Q) (r:=R) (by assumption)).symm))
    · rw [if_neg (fun h=>g2 h.2)]
      have g2:=Bool.not_eq_true _ ▸ g2
      unfold p30
      simp only [cond_true,cond_false,g1,g2,decide_eq_true d1,decide_eq_true d2]
      exact goes_inr.mpr rfl
  · rw [if_neg (fun h=>g1 h.1)]
    have g1:=Bool.not_eq_true _ ▸ g1
    unfold p30
    simp only [cond_true,cond_false,g1,decide_eq_true d1]
    exact goes_inr.mpr rfl
theorem k30_ok:k30.ok Tryz.prog:=by
  intro x hx
  obtain ⟨⟨n1,⟨ap,np,mp,tp,_⟩,_⟩,⟨n2,⟨aq,nq,mq,tq,_⟩,_⟩,_⟩:=x
  obtain ⟨h1,h2⟩:=a30 n1 ap np mp tp n2 aq nq mq tq (s30 n1 ap np mp tp n2 aq nq mq tq (of_dec hx rfl))
  exact ⟨⟨400,(by decide:2+1+2≤400),h1⟩,h2⟩
namespace S
def leadF:Nat→Int→Int→Int→Int→Int→Int→Int×Int×Int×Int
  |0,_,_,p,q,r,s=>(p,q,r,s)
  | k + 1,x,y,p,q,r,s=>
    if y+r≠0∧y+s≠0 then
      if Int.tdiv (x+p) (y+r)=Int.tdiv (x+q) (y+s) then
        leadF k y (x-Int.tdiv (x+p) (y+r)*y) r s (p-Int.tdiv (x+p) (y+r)*r) (q-Int.tdiv (x+p) (y+r)*s)
      else (p,q,r,s)
    else (p,q,r,s)
def leadS (x y:Int):Int×Int×Int×Int:=leadF (y.toNat+1) x y 1 0 0 1
end S
structure LInv (x0 y0 x y p q r s:Int):Prop where
  hx:x=p*x0+q*y0
  hy:y=r*x0+s*y0
  sg:(0≤p∧q≤0∧r≤0∧0≤s∧p*s-q*r=1)∨(p≤0∧0≤q∧0≤r∧s≤0∧p*s-q*r= -1)
  yr:0≤y+r
  ys:0≤y+s
  xp:0≤x+p
  xq:0≤x+q
  b:(p.natAbs≤1000000000∧q.natAbs≤1000000000)∧r.natAbs≤1000000000∧s.natAbs≤1000000000
  yx:0≤y∧y≤x∧x≤x0∧y≤y0
  st:(p=1∧q=0∧r=0∧s=1∧x=x0∧y=y0)∨((x+p≤x0∧x+q≤x0)∧y+r<y0∧y+s<y0∧(y+r≤x+p∧y+r≤x+q)∧y+s≤x+p∧y+s≤x+q)
theorem linv_0 {x0 y0:Int} (h:0≤y0∧y0≤x0):LInv x0 y0 x0 y0 1 0 0 1 where
  hx:=by omega
  hy:=by omega
  sg:=by omega
  yr:=by omega
  ys:=by omega
  xp:=by omega
  xq:=by omega
  b:=by decide
  yx:=by omega
  st:=by omega
theorem sqq_lt {r x y:Int} (h0:0≤r) (h1:r≤x) (h2:r*x≤y) (hy:y<1000000000000000000):r≤1000000000:=by
  refine Int.not_lt.mp fun h=> ?_
  have h3:1000000001*1000000001≤r*x:=Int.mul_le_mul (by omega) (by omega) (by decide) (by omega)
  omega
theorem step_b {x y p r c:Int} (hy:0<y+r) (hx:0≤x+p) (hc:c=Int.tdiv (x+p) (y+r)):0≤c∧0≤(x-c*y)+(p-c*r)∧(x-c*y)+(p-c*r)<y+r:=by
  subst hc
  rw [Int.tdiv_eq_ediv_of_nonneg hx]
  have h1:=Int.ediv_nonneg hx (by omega:0≤y+r)
  have h2:=Int.emod_nonneg (x+p) (show y+r≠0 by omega)
  have h3:=Int.emod_lt_of_pos (x+p) hy
  have h4:=Int.mul_ediv_add_emod (x+p) (y+r)
  generalize (x+p) / (y+r)=c at*
  rw [Int.add_mul,Int.mul_comm y,Int.mul_comm r] at h4
  omega
theorem linv_s {x0 y0 x y p q r s c:Int} (h:LInv x0 y0 x y p q r s) (hx0:x0<1000000000000000000) (hy0:y0≤x0) (hr:y+r≠0) (hs:y+s≠0) (hc:c=Int.tdiv (x+p) (y+r)) (hd:c=Int.tdiv (x+q) (y+s)):LInv x0 y0 y (x-c*y) r s (p-c*r) (q-c*s):=by
  obtain ⟨hx,hy,sg,yr,ys,xp,xq,b,yx,st⟩:=h
  obtain ⟨c0,c1,c2⟩:=step_b (by omega) xp hc
  obtain ⟨-,d1,d2⟩:=step_b (by omega) xq hd
  have ex:x-c*y=(p-c*r)*x0+(q-c*s)*y0:=by
    rw [Int.sub_mul,Int.sub_mul,Int.mul_assoc,Int.mul_assoc,hx,hy,Int.mul_add]; omega
  have ed:r*(q-c*s)-s*(p-c*r)= -(p*s-q*r):=by grind
  have i1:(q-c*s)*y-s*(x-c*y)= -(p*s-q*r)*x0:=by rw [hx,hy]; grind
  have i2:r*(x-c*y)-(p-c*r)*y= -(p*s-q*r)*y0:=by rw [hx,hy]; grind
  have hin:y+r≤x0∧y+s≤x0:=by
    rcases st with ⟨rfl,rfl,rfl,rfl,rfl,rfl⟩|st
    · have h1:1≤c:=by
        refine Int.not_lt.mp fun h=> ?_
        obtain rfl:c=0:=by omega
        omega
      have h2:1*y≤c*y:=Int.mul_le_mul_of_nonneg_right h1 (by omega)
      omega
    · omega
  have hcr: ∀ z:Int,z≤0→c*z≤0:=fun z hz=>by
    have:=Int.mul_le_mul_of_nonneg_left hz c0
    omega
  have hcs: ∀ z:Int,0≤z→0≤c*z:=fun z hz=>Int.mul_nonneg c0 hz
  rcases sg with ⟨p0,q0,r0,s0,dt⟩|⟨p0,q0,r0,s0,dt⟩
  · have e1:=hcr r r0
    have e2:=hcs s s0
    generalize hR:p-c*r=R at*
    generalize hS:q-c*s=T at*
    generalize hY:x-c*y=Y at*
    have R0:0≤R:=by omega
    have S0:T≤0:=by omega
    have Y0:0≤Y:=by omega
    rw [dt] at i1 i2
    have m1:0≤s*Y:=Int.mul_nonneg s0 Y0
    have m2:r*Y≤0:=by have:=Int.mul_le_mul_of_nonneg_right r0 Y0; omega
    have n1:(-T)*y= -(T*y):=Int.neg_mul _ _
    refine ⟨hy,ex,.inr ⟨r0,s0,R0,S0,by rw [ed,dt]⟩,by omega,by omega,by omega,by omega,⟨⟨b.2.1,b.2.2⟩,?_,?_⟩,by omega,.inr (by omega)⟩
    · have:=sqq_lt (r:=R) (x:=y) (y:=y0) R0 (by omega) (by omega) (by omega)
      omega
    · have:=sqq_lt (r:= -T) (x:=y) (y:=x0) (by omega) (by omega) (by omega) hx0
      omega
  · have e1:=hcs r r0
    have e2:=hcr s s0
    generalize hR:p-c*r=R at*
    generalize hS:q-c*s=T at*
    generalize hY:x-c*y=Y at*
    have R0:R≤0:=by omega
    have S0:0≤T:=by omega
    have Y0:0≤Y:=by omega
    rw [dt] at i1 i2
    have m1:s*Y≤0:=by have:=Int.mul_le_mul_of_nonneg_right s0 Y0; omega
    have m2:0≤r*Y:=Int.mul_nonneg r0 Y0
    have n1:(-R)*y= -(R*y):=Int.neg_mul _ _
    refine ⟨hy,ex,.inl ⟨r0,s0,R0,S0,by rw [ed,dt]; rfl⟩,by omega,by omega,by omega,by omega,⟨⟨b.2.1,b.2.2⟩,?_,?_⟩,by omega,.inr (by omega)⟩
    · have:=sqq_lt (r:= -R) (x:=y) (y:=y0) (by omega) (by omega) (by omega) (by omega)
      omega
    · have:=sqq_lt (r:=T) (x:=y) (y:=x0) S0 (by omega) (by omega) hx0
      omega
theorem lead_k {x0 y0:Int} (hx0:x0<1000000000000000000) (hy0:y0≤x0): ∀ {k:Nat} {x y p q r s:Int},LInv x0 y0 x y p q r s→ ∃ x' y',LInv x0 y0 x' y' (S.leadF k x y p q r s).1 (S.leadF k x y p q r s).2.1 (S.leadF k x y p q r s).2.2.1 (S.leadF k x y p q r s).2.2.2
  |0,x,y,_,_,_,_,h=>⟨x,y,h⟩
  | k + 1,x,y,p,q,r,s,h=>by
    simp only [S.leadF]
    split
    · rename_i h1
      split
      · rename_i h2
        exact lead_k hx0 hy0 (linv_s h hx0 hy0 h1.1 h1.2 rfl h2)
      · exact ⟨x,y,h⟩
    · exact ⟨x,y,h⟩
theorem gcd_det {A B p q r s:Int} (h:p*s-q*r=1∨p*s-q*r= -1):Int.gcd (p*A+q*B) (r*A+s*B)=Int.gcd A B:=by
  have e1:s*(p*A+q*B)-q*(r*A+s*B)=(p*s-q*r)*A:=by grind
  have e2:p*(r*A+s*B)-r*(p*A+q*B)=(p*s-q*r)*B:=by grind
  apply Nat.dvd_antisymm
  · have g1:((Int.gcd (p*A+q*B) (r*A+s*B):Nat):Int) ∣ p*A+q*B:=Int.gcd_dvd_left ..
    have g2:((Int.gcd (p*A+q*B) (r*A+s*B):Nat):Int) ∣ r*A+s*B:=Int.gcd_dvd_right ..
    have h1:=Int.dvd_sub (Int.dvd_mul_of_dvd_right g1 (b:=s)) (Int.dvd_mul_of_dvd_right g2 (b:=q))
    have h2:=Int.dvd_sub (Int.dvd_mul_of_dvd_right g2 (b:=p)) (Int.dvd_mul_of_dvd_right g1 (b:=r))
    rw [e1] at h1
    rw [e2] at h2
    rcases h with h|h<;>rw [h] at h1 h2
    · rw [Int.one_mul] at h1 h2
      exact Int.dvd_gcd h1 h2
    · rw [Int.neg_one_mul,Int.dvd_neg] at h1 h2
      exact Int.dvd_gcd h1 h2
  · have g1:((Int.gcd A B:Nat):Int) ∣ A:=Int.gcd_dvd_left ..
    have g2:((Int.gcd A B:Nat):Int) ∣ B:=Int.gcd_dvd_right ..
    exact Int.dvd_gcd (Int.dvd_add (Int.dvd_mul_of_dvd_right g1) (Int.dvd_mul_of_dvd_right g2)) (Int.dvd_add (Int.dvd_mul_of_dvd_right g1) (Int.dvd_mul_of_dvd_right g2))
theorem big_b {P x y a b r s:Int} (hP:0<P) (ha:0≤a∧a<P) (hb:0≤b∧b<P) (hs:(r≤0∧0≤s)∨(0≤r∧s≤0)):(P*(r*x+s*y+r)≤r*(P*x+a)+s*(P*y+b)∨P*(r*x+s*y+s)≤r*(P*x+a)+s*(P*y+b))∧(r*(P*x+a)+s*(P*y+b)≤P*(r*x+s*y+r)∨r*(P*x+a)+s*(P*y+b)≤P*(r*x+s*y+s)):=by
  have e:r*(P*x+a)+s*(P*y+b)=P*(r*x+s*y)+r*a+s*b:=by grind
  rw [e,Int.mul_add P _ r,Int.mul_add P _ s,Int.mul_comm P r,Int.mul_comm P s]
  generalize P*(r*x+s*y)=w
  rcases hs with ⟨h1,h2⟩|⟨h1,h2⟩
  · have a1:r*P≤r*a:=Int.mul_le_mul_of_nonpos_left h1 (by omega)
    have a2:0≤s*b:=Int.mul_nonneg h2 hb.1
    have a3:s*b≤s*P:=Int.mul_le_mul_of_nonneg_left (by omega) h2
    have a4:r*a≤0:=by have:=Int.mul_le_mul_of_nonneg_right h1 ha.1; omega
    exact ⟨.inl (by omega),.inr (by omega)⟩
  · have a1:s*P≤s*b:=Int.mul_le_mul_of_nonpos_left h2 (by omega)
    have a2:0≤r*a:=Int.mul_nonneg h1 ha.1
    have a3:r*a≤r*P:=Int.mul_le_mul_of_nonneg_left (by omega) h1
    have a4:s*b≤0:=by have:=Int.mul_le_mul_of_nonneg_right h2 hb.1; omega
    exact ⟨.inr (by omega),.inl (by omega)⟩
theorem lead_ok {A B P x y:Int} (hP:0<P) (hA:P*x≤A∧A<P*x+P) (hB:P*y≤B∧B<P*y+P) (h0:0≤y∧y≤x∧x<1000000000000000000) {p q r s:Int} (h:S.leadS x y=(p,q,r,s)) (hq:q≠0):
    (0≤r*A+s*B∧r*A+s*B<B∧r*A+s*B≤p*A+q*B∧p*A+q*B≤A)∧Int.gcd (p*A+q*B) (r*A+s*B)=Int.gcd A B:=by
  obtain ⟨x',y',hi⟩:=lead_k h0.2.2 h0.2.1 (k:=y.toNat+1) (linv_0 ⟨h0.1,h0.2.1⟩)
  unfold S.leadS at h
  rw [h] at hi
  obtain ⟨hx,hy,sg,yr,ys,xp,xq,b,yx,st⟩:=hi
  dsimp only at hx hy sg yr ys xp xq b yx st
  have sg1:(r≤0∧0≤s)∨(0≤r∧s≤0):=by omega
  have sg2:(p≤0∧0≤q)∨(0≤p∧q≤0):=by omega
  have b1:=big_b (x:=x) (y:=y) hP (a:=A-P*x) (b:=B-P*y) (by omega) (by omega) sg1
  have b2:=big_b (x:=x) (y:=y) hP (a:=A-P*x) (b:=B-P*y) (by omega) (by omega) sg2
  rw [show P*x+(A-P*x)=A by omega,show P*y+(B-P*y)=B by omega] at b1 b2
  rw [← hy] at b1
  rw [← hx] at b2
  refine ⟨?_,gcd_det (by rcases sg with h|h; exact .inl h.2.2.2.2; exact .inr h.2.2.2.2)⟩
  have mono: ∀ {u v:Int},u≤v→P*u≤P*v:=fun h=>Int.mul_le_mul_of_nonneg_left h (by omega)
  rcases st with st|⟨⟨t1,t2⟩,s1,s2,⟨s3,s4⟩,s5,s6⟩
  · exact absurd st.2.1 hq
  have m0:=mono yr
  have m1:=mono ys
  have m2:=mono (Int.le_sub_one_of_lt s1)
  have m3:=mono (Int.le_sub_one_of_lt s2)
  have m4:=mono s3
  have m5:=mono s4
  have m6:=mono s5
  have m7:=mono s6
  have m8:P*(y-1)=P*y-P:=by rw [Int.mul_sub,Int.mul_one]
  have m9:=mono t1
  have m10:=mono t2
  rw [Int.mul_zero] at m0 m1
  rw [m8] at m2 m3
  clear hx hy sg yr ys xp xq b yx h m8 mono sg1 sg2 t1 t2 s1 s2 s3 s4 s5 s6 h0 hq
  generalize r*A+s*B=Z at*
  generalize p*A+q*B=Y at*
  generalize P*(y'+r)=c1 at*
  generalize P*(y'+s)=c2 at*
  generalize P*(x'+p)=c3 at*
  generalize P*(x'+q)=c4 at*
  generalize P*x=c5 at*
  generalize P*y=c6 at*
  obtain ⟨b3,b4⟩:=b1
  obtain ⟨b5,b6⟩:=b2
  refine ⟨?_,?_,?_,?_⟩
  · clear b4 b5 b6; omega
  · clear b3 b5 b6; omega
  · clear b3 b6; omega
  · clear b3 b4 b5; omega
theorem lead_b {x y:Int} (h0:0≤y∧y≤x∧x<1000000000000000000) {p q r s:Int} (h:S.leadS x y=(p,q,r,s)):(-1000000000≤p∧p≤1000000000)∧(-1000000000≤q∧q≤1000000000)∧(-1000000000≤r∧r≤1000000000)∧ -1000000000≤s∧s≤1000000000:=by
  obtain ⟨x',y',hi⟩:=lead_k h0.2.2 h0.2.1 (k:=y.toNat+1) (linv_0 ⟨h0.1,h0.2.1⟩)
  unfold S.leadS at h
  rw [h] at hi
  have b:=hi.b
  dsimp only at b
  omega
inductive St75 where
  |h0 (x0:Int) (x1:Int) (x2:Int) (x3:Int) (x4:Int) (x5:Int)
abbrev Rt75:=Int×Int×Int×Int
noncomputable def V75 (ap np mp:Nat) (tp:NI) (aq nq mq:Nat) (tq:NI) (r:Rt75):PV:=PV.tup [PV.int .i64 r.1,PV.int .i64 r.2.1,PV.int .i64 r.2.2.1,PV.int .i64 r.2.2.2]
noncomputable def N75 (ap np mp:Nat) (tp:NI) (aq nq mq:Nat) (tq:NI) (r:Rt75):List Blk:= []
noncomputable def I75 (ap np mp:Nat) (tp:NI) (aq nq mq:Nat) (tq:NI):St75→Hd
  | .h0 x0 x1 x2 x3 x4 x5=>⟨hd Tryz.f145 0,[PV.int .i64 x0,PV.int .i64 x1,PV.int .i64 x2,
 PV.int .i64 x3,PV.int .i64 x4,PV.int .i64 x5],[[],[(0,(false,.cols mp [.int .i64 tp])),(1,(false,.cols mq [.int .i64 tq]))]],2⟩
noncomputable def q75 (ap np mp:Nat) (tp:NI) (aq nq mq:Nat) (tq:NI):St75→Option (St75⊕Rt75)| .h0 x0 x1 x2 x3 x4 x5=>bif (lim .i64 (x5+x2)) then (bif (x5+x2 != 0) then (bif (lim .i64 (x5+x3)) then (bif (x5+x3 != 0) then (bif (lim .i64 (x4+x0)) then (bif (decide (x5+x2=0)) then (none) else (bif (lim .i64 (Int.tdiv (x4+x0) (x5+x2))) then (bif (lim .i64 (x4+x1)) then (bif (decide (x5+x3=0)) then (none) else (bif (lim .i64 (Int.tdiv (x4+x1) (x5+x3))) then (bif (Int.tdiv (x4+x0) (x5+x2) != Int.tdiv (x4+x1) (x5+x3)) then (some (.inr (x0,x1,x2,x3))) else (bif (lim .i64 (Int.tdiv (x4+x0) (x5+x2)*x2)) then (bif (lim .i64 (x0-Int.tdiv (x4+x0) (x5+x2)*x2)) then (bif (lim .i64 (Int.tdiv (x4+x0) (x5+x2)*x3)) then (bif (lim .i64 (x1-Int.tdiv (x4+x0) (x5+x2)*x3)) then (bif (lim .i64 (Int.tdiv (x4+x0) (x5+x2)*x5)) then (bif (lim .i64 (x4-Int.tdiv (x4+x0) (x5+x2)*x5)) then (some (.inl (.h0 (x2) (x3) (x0-Int.tdiv (x4+x0) (x5+x2)*x2) (x1-Int.tdiv (x4+x0) (x5+x2)*x3) (x5) (x4-Int.tdiv (x4+x0) (x5+x2)*x5)))) else (none)) else (none)) else (none)) else (none)) else (none)) else (none))) else (none))) else (none)) else (none))) else (none)) else (some (.inr (x0,x1,x2,x3)))) else (none)) else (some (.inr (x0,x1,x2,x3)))) else (none)
noncomputable def p75 (ap np mp:Nat) (tp:NI) (aq nq mq:Nat) (tq:NI):Option (St75⊕Rt75):=bif (lim .i64 ((↑np:Int)-3)) then (bif (decide (ap+np≤mp∧np≤1000∧(S.okD np fun j=>tp (j+ap))=true∧(0:Int)≤(↑np:Int)-3∧(↑np:Int)-3≤1000)) then (bif (decide (aq+nq≤mq∧nq≤1000∧(S.okD nq fun j=>tq (j+aq))=true∧(0:Int)≤(↑np:Int)-3∧(↑np:Int)-3≤1000)) then (some (.inl (.h0 ((1:Int)) ((0:Int)) ((0:Int)) ((1:Int)) (S.valF (fun j=>tp (j+ap)) (Int.toNat ((↑np:Int)-3)) (Min.min np (Int.toNat ((↑np:Int)-3)+3)-Int.toNat ((↑np:Int)-3))) (S.valF (fun j=>tq (j+aq)) (Int.toNat ((↑np:Int)-3)) (Min.min nq (Int.toNat ((↑np:Int)-3)+3)-Int.toNat ((↑np:Int)-3)))))) else (none)) else (none)) else (none)
noncomputable def Te75 (test:TT) (Kst:KS) (Kret:KR) (ap np mp:Nat) (tp:NI) (aq nq mq:Nat) (tq:NI):Prop:=test (lim .i64 ((↑np:Int)-3)) (test (decide (ap+np≤mp∧np≤1000∧(S.okD np fun j=>tp (j+ap))=true∧(0:Int)≤(↑np:Int)-3∧(↑np:Int)-3≤1000)) (test (decide (aq+nq≤mq∧nq≤1000∧(S.okD nq fun j=>tq (j+aq))=true∧(0:Int)≤(↑np:Int)-3∧(↑np:Int)-3≤1000)) (Kst (hd Tryz.f145 0) ([PV.int .i64 (1:Int),PV.int .i64 (0:Int),PV.int .i64 (0:Int),PV.int .i64 (1:Int),PV.int .i64 (S.valF (fun j=>tp (j+ap)) (Int.toNat ((↑np:Int)-3)) (Min.min np (Int.toNat ((↑np:Int)-3)+3)-Int.toNat ((↑np:Int)-3))),PV.int .i64 (S.valF (fun j=>tq (j+aq)) (Int.toNat ((↑np:Int)-3)) (Min.min nq (Int.toNat ((↑np:Int)-3)+3)-Int.toNat ((↑np:Int)-3)))]) ([[(1,false,Blk.cols mq [Col.int .i64 tq]),(0,false,Blk.cols mp [Col.int .i64 tp])]]) (4)) (False)) (False)) (False)
theorem te75 (test:TT) (Kst:KS) (Kret:KR) (ap np mp:Nat) (tp:NI) (aq nq mq:Nat) (tq:NI):run test Tryz.env true (xF3 test) true 400 ⟨145,[.cd (mkFn Tryz.f145).body],argT 0 [.loose ⟨0,1,ap,0⟩ np,.loose ⟨1,1,aq,0⟩ nq],[[],[(0,(false,.cols mp [.int .i64 tp])),(1,(false,.cols mq [.int .i64 tq]))]],2⟩ (proj 2 [4,5,6,7,9,10] Kst Kret)=
  Te75 test Kst Kret ap np mp tp aq nq mq tq:=by kernel_rfl
noncomputable abbrev u75_0_0 (mp:Nat) (tp:NI) (mq:Nat) (tq:NI):=([[(1,false,Blk.cols mq [Col.int .i64 tq]),(0,false,Blk.cols mp [Col.int .i64 tp])]])
noncomputable def T75_0 (test:TT) (Kst:KS) (Kret:KR) (ap np mp:Nat) (tp:NI) (aq nq mq:Nat) (tq:NI) (x0:Int) (x1:Int) (x2:Int) (x3:Int) (x4:Int) (x5:Int):Prop:=test (lim .i64 (x5+x2)) (test (x5+x2 != 0) (test (lim .i64 (x5+x3)) (test (x5+x3 != 0) (test (lim .i64 (x4+x0)) (test (lim .i64 (x5+x2)) (test (decide (x5+x2=0)) (False) (test (lim .i64 (Int.tdiv (x4+x0) (x5+x2))) (test (lim .i64 (x4+x1)) (test (lim .i64 (x5+x3)) (test (decide (x5+x3=0)) (False) (test (lim .i64 (Int.tdiv (x4+x1) (x5+x3))) (test (Int.tdiv (x4+x0) (x5+x2) != Int.tdiv (x4+x1) (x5+x3)) (Kret (PV.tup [PV.int .i64 x0,PV.int .i64 x1,PV.int .i64 x2,PV.int .i64 x3]) (u75_0_0 mp tp mq tq) (2)) (test (lim .i64 (Int.tdiv (x4+x0) (x5+x2)*x2)) (test (lim .i64 (x0-Int.tdiv (x4+x0) (x5+x2)*x2)) (test (lim .i64 (Int.tdiv (x4+x0) (x5+x2)*x3)) (test (lim .i64 (x1-Int.tdiv (x4+x0) (x5+x2)*x3)) (test (lim .i64 (Int.tdiv (x4+x0) (x5+x2)*x5)) (test (lim .i64 (x4-Int.tdiv (x4+x0) (x5+x2)*x5)) (Kst (hd Tryz.f145 0) ([PV.int .i64 x2,PV.int .i64 x3,PV.int .i64 (x0-Int.tdiv (x4+x0) (x5+x2)*x2),PV.int .i64 (x1-Int.tdiv (x4+x0) (x5+x2)*x3),PV.int .i64 x5,PV.int .i64 (x4-Int.tdiv (x4+x0) (x5+x2)*x5)]) (u75_0_0 mp tp mq tq) (2)) (False)) (False)) (False)) (False)) (False)) (False))) (False))) (False)) (False)) (False))) (False)) (False)) (Kret (PV.tup [PV.int .i64 x0,PV.int .i64 x1,PV.int .i64 x2,PV.int .i64 x3]) (u75_0_0 mp tp mq tq) (2))) (False)) (Kret (PV.tup [PV.int .i64 x0,PV.int .i64 x1,PV.int .i64 x2,PV.int .i64 x3]) (u75_0_0 mp tp mq tq) (2))) (False)
theorem t75_0 (test:TT) (Kst:KS) (Kret:KR) (ap np mp:Nat) (tp:NI) (aq nq mq:Nat) (tq:NI) (x0 x1 x2 x3 x4 x5:Int):run test Tryz.env true (xF3 test) true 400 ⟨145,hd Tryz.f145 0,zipT [4,5,6,7,9,10] [PV.int .i64 x0,PV.int .i64 x1,PV.int .i64 x2,
 PV.int .i64 x3,PV.int .i64 x4,PV.int .i64 x5],[[],[(0,(false,.cols mp [.int .i64 tp])),(1,(false,.cols mq [.int .i64 tq]))]],2⟩ (proj 2 [4,5,6,7,9,10] Kst Kret)=
  T75_0 test Kst Kret ap np mp tp aq nq mq tq x0 x1 x2 x3 x4 x5:=by kernel_rfl
noncomputable abbrev J75 (ap np mp:Nat) (tp:NI) (aq nq mq:Nat) (tq:NI):Rt75→Heap:=fun r=> [newL (2+1) ((N75 ap np mp tp aq nq mq tq) r)++ [(0,(false,.cols mp [.int .i64 tp])),(1,(false,.cols mq [.int .i64 tq]))]]
attribute [local irreducible] Int.subNatNat in
theorem be75 (ap np mp:Nat) (tp:NI) (aq nq mq:Nat) (tq:NI) (Kst:KS) (Kret:KR) (x:St75⊕Rt75) (hS:HS 2 400 ((I75 ap np mp tp aq nq mq tq)) Kst x) (hR:HR 2 400 ((V75 ap np mp tp aq nq mq tq)) (J75 ap np mp tp aq nq mq tq) Kret x) (h:p75 ap np mp tp aq nq mq tq=some x):Te75 cond Kst Kret ap np mp tp aq nq mq tq:=by
  unfold Te75
  unfold p75 at h
  exact bif_split h (fun c0 h=>bif_split h (fun c1 h=>bif_split h (fun c2 h=>stop_at hS _ h (fun n=>n) rfl rfl rfl ⟨(rn_int rfl),⟨(rn_int rfl),⟨(rn_int rfl),⟨(rn_int rfl),⟨(rn_int rfl),⟨(rn_int rfl),trivial⟩⟩⟩⟩⟩⟩ rfl (entl_bor (use_lo rfl) rfl rfl (entl_bor (use_lo rfl) rfl rfl entl_nil))) (fun c2 h=>no_some h)) (fun c1 h=>no_some h)) (fun c0 h=>no_some h)
attribute [local irreducible] Int.subNatNat in
theorem b75_0 (ap np mp:Nat) (tp:NI) (aq nq mq:Nat) (tq:NI) (Kst:KS) (Kret:KR) (x:St75⊕Rt75) (hS:HS 2 400 ((I75 ap np mp tp aq nq mq tq)) Kst x) (hR:HR 2 400 ((V75 ap np mp tp aq nq mq tq)) (J75 ap np mp tp aq nq mq tq) Kret x) (x0 x1 x2 x3 x4 x5:Int) (h:q75 ap np mp tp aq nq mq tq (.h0 x0 x1 x2 x3 x4 x5)=some x):T75_0 cond Kst Kret ap np mp tp aq nq mq tq x0 x1 x2 x3 x4 x5:=by
  unfold T75_0
  rw [q75] at h
  refine bif_split h (fun c0 h=>bif_split h (fun c1 h=>bif_split h (fun c2 h=>bif_split h (fun c3 h=>bif_split h (fun c4 h=>cond_yes c0 (bif_split h (fun c5 h=> ?_) (fun c5 h=>bif_split h (fun c6 h=>bif_split h (fun c7 h=>cond_yes c2 (bif_split h (fun c8 h=> ?_) (fun c8 h=>bif_split h (fun c9 h=>bif_split h (fun c10 h=> ?_) (fun c10 h=>bif_split h (fun c11 h=>bif_split h (fun c12 h=>bif_split h (fun c13 h=>bif_split h (fun c14 h=>bif_split h (fun c15 h=>bif_split h (fun c16 h=>stop_at hS _ h (fun n=>n) rfl rfl rfl ⟨(rn_int rfl),⟨(rn_int rfl),⟨(rn_int rfl),⟨(rn_int rfl),⟨(rn_int rfl),⟨(rn_int rfl),trivial⟩⟩⟩⟩⟩⟩ rfl (entl_bor (use_lo rfl) rfl rfl (entl_bor (use_lo rfl) rfl rfl entl_nil))) (fun c16 h=> ?_)) (fun c15 h=> ?_)) (fun c14 h=> ?_)) (fun c13 h=> ?_)) (fun c12 h=> ?_)) (fun c11 h=> ?_))) (fun c9 h=> ?_)))) (fun c7 h=> ?_)) (fun c6 h=> ?_)))) (fun c4 h=> ?_)) (fun c3 h=> ?_)) (fun c2 h=> ?_)) (fun c1 h=> ?_)) (fun c0 h=> ?_)
  all_goals first
    |exact no_some h
    |exact ret_at hR _ h (fun n=>n) rfl rfl rfl (rn_tup ⟨(rn_int rfl),(rn_int rfl),(rn_int rfl),(rn_int rfl),trivial⟩) rfl (entl_bor (use_lo rfl) rfl rfl (entl_bor (use_lo rfl) rfl rfl entl_nil))
theorem a75 (ap np mp:Nat) (tp:NI) (aq nq mq:Nat) (tq:NI) {r:Rt75} (h:Goes ((q75 ap np mp tp aq nq mq tq)) ((p75 ap np mp tp aq nq mq tq)) r):CallR Tryz.prog 145 [.loose ⟨0,1,ap,0⟩ np,.loose ⟨1,1,aq,0⟩ nq] [[(0,(false,.cols mp [.int .i64 tp])),(1,(false,.cols mq [.int .i64 tq]))]] 2 ((V75 ap np mp tp aq nq mq tq) r) ((J75 ap np mp tp aq nq mq tq) r) 400∧ ∃ F,Tryz.prog.funcs[145]? =some F∧F.body.isSome=true∧(F.name== "runtime.NumGoroutine")=false:=by
  refine dec_calls (f:=145) (lo:=2) (hi:=400) Tryz.envOk Tryz.mixed xF3_ok ((I75 ap np mp tp aq nq mq tq)) ((V75 ap np mp tp aq nq mq tq)) (J75 ap np mp tp aq nq mq tq) (fn:=mkFn Tryz.f145) (ts:= [4,5,6,7,9,10]) (n:=400) rfl (by decide) (by simp) (names_of rfl) ?_ ?_ ?_ h
  · intro s; cases s<;>exact ⟨hd_ok _ _,by simp [I75],names_of rfl,Nat.le_of_ble_eq_true rfl⟩
  · intro Kst Kret x hS hR h
    exact Holds.eq (te75 cond Kst Kret ap np mp tp aq nq mq tq) (be75 ap np mp tp aq nq mq tq Kst Kret x hS hR h)
  · intro Kst Kret x hS hR s h
    cases s with
    |h0 x0 x1 x2 x3 x4 x5=>exact Holds.eq (t75_0 cond Kst Kret ap np mp tp aq nq mq tq x0 x1 x2 x3 x4 x5) (b75_0 ap np mp tp aq nq mq tq Kst Kret x hS hR x0 x1 x2 x3 x4 x5 h)
noncomputable abbrev w75 {α:Type} (g:Nat→Nat→Nat→(Nat→Int)→Nat→Nat→Nat→(Nat→Int)→α) (x:(Nat×Nat×Nat×(Nat→Int)×Unit)×(Nat×Nat×Nat×(Nat→Int)×Unit)×Unit):α:=g x.1.1 x.1.2.1 x.1.2.2.1 x.1.2.2.2.1 x.2.1.1 x.2.1.2.1 x.2.1.2.2.1 x.2.1.2.2.2.1
noncomputable def k75:Con:=⟨145,[.one (.list [.int .i64]),.one (.list [.int .i64])],w75 (fun ap np mp tp aq nq mq tq=>decide ((ap+np≤mp∧aq+nq≤mq)∧(3<np∧np≤900∧nq≤np)∧S.okD np (fun j=>tp (j+ap))=true∧S.okD nq (fun j=>tq (j+aq))=true∧(S.val nq (fun j=>tq (j+aq)))≤(S.val np (fun j=>tp (j+ap))))),w75 (fun ap np mp tp aq nq mq tq=>(V75 ap np mp tp aq nq mq tq) (((S.leadS (S.valF (fun j=>tp (j+ap)) (np-3) 3) (S.valF (fun j=>tq (j+aq)) (np-3) (nq-(np-3)))).1,(S.leadS (S.valF (fun j=>tp (j+ap)) (np-3) 3) (S.valF (fun j=>tq (j+aq)) (np-3) (nq-(np-3)))).2.1,(S.leadS (S.valF (fun j=>tp (j+ap)) (np-3) 3) (S.valF (fun j=>tq (j+aq)) (np-3) (nq-(np-3)))).2.2.1,(S.leadS (S.valF (fun j=>tp (j+ap)) (np-3) 3) (S.valF (fun j=>tq (j+aq)) (np-3) (nq-(np-3)))).2.2.2))),w75 (fun ap np mp tp aq nq mq tq=>(N75 ap np mp tp aq nq mq tq) (((S.leadS (S.valF (fun j=>tp (j+ap)) (np-3) 3) (S.valF (fun j=>tq (j+aq)) (np-3) (nq-(np-3)))).1,(S.leadS (S.valF (fun j=>tp (j+ap)) (np-3) 3) (S.valF (fun j=>tq (j+aq)) (np-3) (nq-(np-3)))).2.1,(S.leadS (S.valF (fun j=>tp (j+ap)) (np-3) 3) (S.valF (fun j=>tq (j+aq)) (np-3) (nq-(np-3)))).2.2.1,(S.leadS (S.valF (fun j=>tp (j+ap)) (np-3) 3) (S.valF (fun j=>tq (j+aq)) (np-3) (nq-(np-3)))).2.2.2))),fun _ _=> .dead⟩
theorem s75' (ap np mp:Nat) (tp:Nat→Int) (aq nq mq:Nat) (tq:Nat→Int) {x0 y0:Int} (hx0:x0<1000000000000000000) (hy0:y0≤x0): ∀ (k:Nat) (x y p q r s:Int),LInv x0 y0 x y p q r s→y.toNat<k→Comes (q75 ap np mp tp aq nq mq tq) (.h0 p q r s x y) (S.leadF k x y p q r s):=by
  intro k
  induction k with
  |zero=>intro x y p q r s _ h; omega
  | succ k ih=>
    intro x y p q r s h hk
    have hb:=h.b
    have hyx:=h.yx
    have hyr:=h.yr
    have hys:=h.ys
    have hxp:=h.xp
    have hxq:=h.xq
    have bb:(-1000000000≤p∧p≤1000000000)∧(-1000000000≤q∧q≤1000000000)∧(-1000000000≤r∧r≤1000000000)∧ -1000000000≤s∧s≤1000000000:=by omega
    simp only [S.leadF]
    apply Comes.of
    by_cases h1:y+r≠0∧y+s≠0
    · rw [if_pos h1]
      have c1:Int.tdiv (x+p) (y+r)≤x+p∧0≤Int.tdiv (x+p) (y+r):=by
        rw [Int.tdiv_eq_ediv_of_nonneg hxp]
        exact ⟨Int.ediv_le_self _ hxp,Int.ediv_nonneg hxp hyr⟩
      have c2:Int.tdiv (x+q) (y+s)≤x+q∧0≤Int.tdiv (x+q) (y+s):=by
        rw [Int.tdiv_eq_ediv_of_nonneg hxq]
        exact ⟨Int.ediv_le_self _ hxq,Int.ediv_nonneg hxq hys⟩
      by_cases h2:Int.tdiv (x+p) (y+r)=Int.tdiv (x+q) (y+s)
      · rw [if_pos h2]
        have hn:=linv_s h hx0 hy0 h1.1 h1.2 rfl h2
        have hl:x-Int.tdiv (x+p) (y+r)*y<y:=by
          have c:=step_b (x:=x) (y:=y) (p:=p) (r:=r) (by omega) hxp rfl
          have d:=step_b (x:=x) (y:=y) (p:=q) (r:=s) (by omega) hxq h2
          have sg:=h.sg
          have sg':=hn.sg
          omega
        have nb:=hn.b
        have nyx:=hn.yx
        have hm:=ih _ _ _ _ _ _ hn (by omega)
        clear hn ih h hb
        rw [q75]
        repeat' first
          |with_reducible exact hm
          |(with_reducible refine goes_ok ?_ ?_; focus (first|exact bne_iff_ne.mpr h1.1|exact bne_iff_ne.mpr h1.2|(rw [lim64]; apply decide_eq_true; omega)))
          |(with_reducible refine goes_no ?_ ?_; focus (first|exact decide_eq_false h1.1|exact decide_eq_false h1.2|(rw [h2]; exact bne_self_eq_false _)))
        exact hm
      · rw [if_neg h2]
        clear ih h hb
        rw [q75]
        repeat' first
          |with_reducible exact goes_inr.mpr rfl
          |(with_reducible refine goes_ok ?_ ?_; focus (first|exact bne_iff_ne.mpr h1.1|exact bne_iff_ne.mpr h1.2|exact bne_iff_ne.mpr h2|(rw [lim64]; apply decide_eq_true; omega)))
          |(with_reducible refine goes_no ?_ ?_; focus (first|exact decide_eq_false h1.1|exact decide_eq_false h1.2))
    · rw [if_neg h1]
      clear ih h hb
      rw [q75]
      by_cases h3:y+r=0
      · refine goes_ok (by rw [lim64]; apply decide_eq_true; omega) (goes_no (by rw [h3]; rfl) (goes_inr.mpr rfl))
      · have h4:y+s=0:=by omega
        refine goes_ok (by rw [lim64]; apply decide_eq_true; omega) (goes_ok (bne_iff_ne.mpr h3) (goes_ok (by rw [lim64]; apply decide_eq_true; omega) (goes_no (by rw [h4]; rfl) (goes_inr.mpr rfl))))
theorem lead_xy {n m:Nat} {t u:Nat→Int} (hn:3<n) (hm:m≤n) (ht:S.okD n t=true) (hu:S.okD m u=true) (hv:S.val m u≤S.val n t):(S.pw (n-3)*S.valF t (n-3) 3≤S.val n t∧S.val n t<S.pw (n-3)*S.valF t (n-3) 3+S.pw (n-3))∧(S.pw (n-3)*S.valF u (n-3) (m-(n-3))≤S.val m u∧S.val m u<S.pw (n-3)*S.valF u (n-3) (m-(n-3))+S.pw (n-3))∧0≤S.valF u (n-3) (m-(n-3))∧S.valF u (n-3) (m-(n-3))≤S.valF t (n-3) 3∧S.valF t (n-3) 3<1000000000000000000:=by
  have dt:=okD_iff.mp ht
  have du:=okD_iff.mp hu
  have pp:=pw_pos (k:=n-3)
  have e1:S.val n t=S.valF t 0 (n-3)+S.pw (n-3)*S.valF t (n-3) 3:=by
    have h:=valF_add (t:=t) (a:=n-3) (b:=3) (i:=0)
    rw [show n-3+3=n by omega,Nat.zero_add] at h
    exact h
  have l1:=valF_lt (t:=t) (k:=n-3) (i:=0) fun j _ h=>dt j (by omega)
  have n1:=valF_nn (t:=t) (k:=n-3) (i:=0) fun j _ h=>(dt j (by omega)).1
  have l3:=valF_lt (t:=t) (k:=3) (i:=n-3) fun j _ h=>dt j (by omega)
  have p3:S.pw 3=1000000000000000000:=rfl
  have nu:=valF_nn (t:=u) (k:=m-(n-3)) (i:=n-3) fun j _ h=>(du j (by omega)).1
  have key:S.pw (n-3)*S.valF u (n-3) (m-(n-3))≤S.val m u∧S.val m u<S.pw (n-3)*S.valF u (n-3) (m-(n-3))+S.pw (n-3):=by
    by_cases h:n-3≤m
    · have e2:S.val m u=S.valF u 0 (n-3)+S.pw (n-3)*S.valF u (n-3) (m-(n-3)):=by
        have h:=valF_add (t:=u) (a:=n-3) (b:=m-(n-3)) (i:=0)
        rw [show n-3+(m-(n-3))=m by omega,Nat.zero_add] at h
        exact h
      have l2:=valF_lt (t:=u) (k:=n-3) (i:=0) fun j _ h=>du j (by omega)
      have n2:=valF_nn (t:=u) (k:=n-3) (i:=0) fun j _ h=>(du j (by omega)).1
      omega
    · have e3:m-(n-3)=0:=by omega
      rw [e3]
      have v0:=val_nn hu
      have v1:=val_lt hu (show m≤n-3 by omega)
      simp only [S.valF]
      omega
  refine ⟨⟨by omega,by omega⟩,key,nu,?_,by omega⟩
  refine Int.not_lt.mp fun h=> ?_
  have:S.pw (n-3)*(S.valF t (n-3) 3+1)≤S.pw (n-3)*S.valF u (n-3) (m-(n-3)):=Int.mul_le_mul_of_nonneg_left (by omega) (by omega)
  rw [Int.mul_add] at this
  omega
theorem s75 (ap np mp:Nat) (tp:Nat→Int) (aq nq mq:Nat) (tq:Nat→Int) (hp:(ap+np≤mp∧aq+nq≤mq)∧(3<np∧np≤900∧nq≤np)∧S.okD np (fun j=>tp (j+ap))=true∧S.okD nq (fun j=>tq (j+aq))=true∧(S.val nq (fun j=>tq (j+aq)))≤(S.val np (fun j=>tp (j+ap)))):Goes ((q75 ap np mp tp aq nq mq tq)) ((p75 ap np mp tp aq nq mq tq)) (((S.leadS (S.valF (fun j=>tp (j+ap)) (np-3) 3) (S.valF (fun j=>tq (j+aq)) (np-3) (nq-(np-3)))).1,(S.leadS (S.valF (fun j=>tp (j+ap)) (np-3) 3) (S.valF (fun j=>tq (j+aq)) (np-3) (nq-(np-3)))).2.1,(S.leadS (S.valF (fun j=>tp (j+ap)) (np-3) 3) (S.valF (fun j=>tq (j+aq)) (np-3) (nq-(np-3)))).2.2.1,(S.leadS (S.valF (fun j=>tp (j+ap)) (np-3) 3) (S.valF (fun j=>tq (j+aq)) (np-3) (nq-(np-3)))).2.2.2)):=by
  obtain ⟨⟨hp1,hp2⟩,⟨hp3,hp4,hp5⟩,hp6,hp7,hp8⟩:=hp
  obtain ⟨-,-,y0,yx,x1⟩:=lead_xy hp3 hp5 hp6 hp7 hp8
  have hm:=s75' ap np mp tp aq nq mq tq x1 yx ((S.valF (fun j=>tq (j+aq)) (np-3) (nq-(np-3))).toNat+1) (S.valF (fun j=>tp (j+ap)) (np-3) 3) (S.valF (fun j=>tq (j+aq)) (np-3) (nq-(np-3))) 1 0 0 1 (linv_0 ⟨y0,yx⟩) (by omega)
  have e1:(((np:Int)-3)).toNat=np-3:=by omega
  have e2:min np (np-3+3)-(np-3)=3:=by omega
  have e3:min nq (np-3+3)-(np-3)=nq-(np-3):=by omega
  clear y0 yx x1
  unfold p75
  with_reducible refine goes_ok ?_ ?_
  · rw [lim64]; apply decide_eq_true; omega
  with_reducible refine goes_ok ?_ ?_
  · exact decide_eq_true ⟨hp1,by omega,hp6,by omega,by omega⟩
  with_reducible refine goes_ok ?_ ?_
  · exact decide_eq_true ⟨hp2,by omega,hp7,by omega,by omega⟩
  rw [e1,e2,e3]
  exact hm
theorem k75_ok:k75.ok Tryz.prog:=by
  intro x hx
  obtain ⟨⟨ap,np,mp,tp,_⟩,⟨aq,nq,mq,tq,_⟩,_⟩:=x
  obtain ⟨h1,h2⟩:=a75 ap np mp tp aq nq mq tq (s75 ap np mp tp aq nq mq tq (of_dec hx rfl))
  exact ⟨⟨400,(by decide:2+1+0≤400),h1⟩,h2⟩
theorem tm_em (t:Int):(Int.tmod t 1000000<0→t % 1000000=Int.tmod t 1000000+1000000∧t / 1000000=Int.tdiv t 1000000-1)∧(¬ Int.tmod t 1000000<0→t % 1000000=Int.tmod t 1000000∧t / 1000000=Int.tdiv t 1000000):=by
  rcases Int.le_total 0 t with h|h
  · rw [Int.tdiv_eq_ediv_of_nonneg h,Int.tmod_eq_emod_of_nonneg h]; omega
  · obtain ⟨u,rfl⟩: ∃ u,t= -u:=⟨-t,by omega⟩
    rw [Int.neg_tdiv,Int.neg_tmod,Int.tdiv_eq_ediv_of_nonneg (by omega),Int.tmod_eq_emod_of_nonneg (by omega)]
    omega
theorem mul_b {a g:Int} (ha: -1000000000≤a∧a≤1000000000) (hg:0≤g∧g<1000000): -(1000000000*1000000)≤a*g∧a*g≤1000000000*1000000:=by
  have h1:a*g≤1000000000*g:=Int.mul_le_mul_of_nonneg_right ha.2 hg.1
  have h2: -1000000000*g≤a*g:=Int.mul_le_mul_of_nonneg_right ha.1 hg.1
  omega
theorem put_if' {i j:Nat} {d e:Int}:(bif Nat.beq j i then d else e)=if j=i then d else e:=by
  by_cases h:j=i
  · subst h; rw [if_pos rfl,Nat.beq_refl]; rfl
  · rw [if_neg h,show Nat.beq j i=false by cases hb:Nat.beq j i; rfl; exact absurd (Nat.eq_of_beq_eq_true hb) h]; rfl
inductive St76 where
  |h0 (x0:Int) (x1:Int) (x2:List Int)
abbrev Rt76:=List Int
noncomputable def V76 (ap np mp:Nat) (tp:NI) (aq nq mq:Nat) (tq:NI) (fp fq:Int) (r:Rt76):PV:=PV.own (3) (1) (List.length r)
noncomputable def N76 (ap np mp:Nat) (tp:NI) (aq nq mq:Nat) (tq:NI) (fp fq:Int) (r:Rt76):List Blk:= [Blk.cols (List.length r) [Col.int .i64 fun j=>S.at' r j]]
noncomputable def I76 (ap np mp:Nat) (tp:NI) (aq nq mq:Nat) (tq:NI) (fp fq:Int):St76→Hd
  | .h0 x0 x1 x2=>⟨hd Tryz.f146 0,[PV.loose (PA.mk (1) (1) aq (0)) nq,PV.int .i64 fp,
 PV.int .i64 fq,PV.own (2) (1) (List.length x2),PV.int .i64 x0,
 PV.loose (PA.mk (0) (1) ap (0)) np,PV.int .i64 (↑np:Int),
 PV.int .i64 x1],[[(2,(true,Blk.cols (List.length x2) [Col.int .i64 fun j=>S.at' x2 j]))],[(0,(false,.cols mp [.int .i64 tp])),(1,(false,.cols mq [.int .i64 tq]))]],3⟩
noncomputable def q76 (ap np mp:Nat) (tp:NI) (aq nq mq:Nat) (tq:NI) (fp fq:Int):St76→Option (St76⊕Rt76)| .h0 x0 x1 x2=>bif (decide (x1<(↑np:Int))) then (bif (decide ((0:Int)≤x1∧x1<(↑np:Int))) then (bif (decide (Int.toNat x1+ap<mp)) then (bif (lim .i64 (fp*tp (Int.toNat x1+ap))) then (bif (lim .i64 (x0+fp*tp (Int.toNat x1+ap))) then (bif (decide (x1<(↑nq:Int))) then (bif (decide ((0:Int)≤x1∧x1<(↑nq:Int))) then (bif (decide (Int.toNat x1+aq<mq)) then (bif (lim .i64 (fq*tq (Int.toNat x1+aq))) then (bif (lim .i64 (x0+fp*tp (Int.toNat x1+ap)+fq*tq (Int.toNat x1+aq))) then (bif (decide ((0:Int)≤x1∧x1<(↑(List.length x2):Int))) then (bif (decide (Int.toNat x1<List.length x2)) then (bif (lim .i64 (Int.tdiv (x0+fp*tp (Int.toNat x1+ap)+fq*tq (Int.toNat x1+aq)) (1000000:Int))) then (bif (decide ((bif Nat.beq (Int.toNat x1) (Int.toNat x1) then Int.tmod (x0+fp*tp (Int.toNat x1+ap)+fq*tq (Int.toNat x1+aq)) (1000000:Int) else S.at' x2 (Int.toNat x1))<0)) then (bif (lim .i64 ((bif Nat.beq (Int.toNat x1) (Int.toNat x1) then Int.tmod (x0+fp*tp (Int.toNat x1+ap)+fq*tq (Int.toNat x1+aq)) (1000000:Int) else S.at' x2 (Int.toNat x1))+1000000)) then (bif (lim .i64 (Int.tdiv (x0+fp*tp (Int.toNat x1+ap)+fq*tq (Int.toNat x1+aq)) (1000000:Int)-1)) then (bif (lim .i64 (x1+1)) then (some (.inl (.h0 (Int.tdiv (x0+fp*tp (Int.toNat x1+ap)+fq*tq (Int.toNat x1+aq)) (1000000:Int)-1) (x1+1) (S.mkl (List.length x2) fun j=>bif Nat.beq j (Int.toNat x1) then (bif Nat.beq (Int.toNat x1) (Int.toNat x1) then Int.tmod (x0+fp*tp (Int.toNat x1+ap)+fq*tq (Int.toNat x1+aq)) (1000000:Int) else S.at' x2 (Int.toNat x1))+1000000 else bif Nat.beq j (Int.toNat x1) then Int.tmod (x0+fp*tp (Int.toNat x1+ap)+fq*tq (Int.toNat x1+aq)) (1000000:Int) else S.at' x2 j)))) else (none)) else (none)) else (none)) else (bif (lim .i64 (x1+1)) then (some (.inl (.h0 (Int.tdiv (x0+fp*tp (Int.toNat x1+ap)+fq*tq (Int.toNat x1+aq)) (1000000:Int)) (x1+1) (S.mkl (List.length x2) fun j=>bif Nat.beq j (Int.toNat x1) then Int.tmod (x0+fp*tp (Int.toNat x1+ap)+fq*tq (Int.toNat x1+aq)) (1000000:Int) else S.at' x2 j)))) else (none))) else (none)) else (none)) else (none)) else (none)) else (none)) else (none)) else (none)) else (bif (decide ((0:Int)≤x1∧x1<(↑(List.length x2):Int))) then (bif (decide (Int.toNat x1<List.length x2)) then (bif (lim .i64 (Int.tdiv (x0+fp*tp (Int.toNat x1+ap)) (1000000:Int))) then (bif (decide ((bif Nat.beq (Int.toNat x1) (Int.toNat x1) then Int.tmod (x0+fp*tp (Int.toNat x1+ap)) (1000000:Int) else S.at' x2 (Int.toNat x1))<0)) then (bif (lim .i64 ((bif Nat.beq (Int.toNat x1) (Int.toNat x1) then Int.tmod (x0+fp*tp (Int.toNat x1+ap)) (1000000:Int) else S.at' x2 (Int.toNat x1))+1000000)) then (bif (lim .i64 (Int.tdiv (x0+fp*tp (Int.toNat x1+ap)) (1000000:Int)-1)) then (bif (lim .i64 (x1+1)) then (some (.inl (.h0 (Int.tdiv (x0+fp*tp (Int.toNat x1+ap)) (1000000:Int)-1) (x1+1) (S.mkl (List.length x2) fun j=>bif Nat.beq j (Int.toNat x1) then (bif Nat.beq (Int.toNat x1) (Int.toNat x1) then Int.tmod (x0+fp*tp (Int.toNat x1+ap)) (1000000:Int) else S.at' x2 (Int.toNat x1))+1000000 else bif Nat.beq j (Int.toNat x1) then Int.tmod (x0+fp*tp (Int.toNat x1+ap)) (1000000:Int) else S.at' x2 j)))) else (none)) else (none)) else (none)) else (bif (lim .i64 (x1+1)) then (some (.inl (.h0 (Int.tdiv (x0+fp*tp (Int.toNat x1+ap)) (1000000:Int)) (x1+1) (S.mkl (List.length x2) fun j=>bif Nat.beq j (Int.toNat x1) then Int.tmod (x0+fp*tp (Int.toNat x1+ap)) (1000000:Int) else S.at' x2 j)))) else (none))) else (none)) else (none)) else (none))) else (none)) else (none)) else (none)) else (none)) else (bif (decide (List.length x2≤List.length x2)) then (bif (decide (List.length x2≤1000000)) then (some (.inr (S.trim (S.mkl (List.length x2) fun j=>S.at' x2 j)))) else (none)) else (none))
noncomputable def p76 (ap np mp:Nat) (tp:NI) (aq nq mq:Nat) (tq:NI) (fp fq:Int):Option (St76⊕Rt76):=bif (decide ((0:Int)≤(↑np:Int)∧(↑np:Int)≤(↑np:Int)∧(↑np:Int)≤1000000)) then (some (.inl (.h0 ((0:Int)) ((0:Int)) (S.mkl np fun j=>0)))) else (none)
noncomputable def Te76 (test:TT) (Kst:KS) (Kret:KR) (ap np mp:Nat) (tp:NI) (aq nq mq:Nat) (tq:NI) (fp fq:Int):Prop:=test (decide ((0:Int)≤(↑np:Int)∧(↑np:Int)≤(↑np:Int)∧(↑np:Int)≤1000000)) (Kst (hd Tryz.f146 0) ([PV.loose (PA.mk (1) (1) aq (0)) nq,PV.int .i64 fp,PV.int .i64 fq,PV.own (2) (1) np,PV.int .i64 (0:Int),PV.loose (PA.mk (0) (1) ap (0)) np,PV.int .i64 (↑np:Int),PV.int .i64 (0:Int)]) ([[(1,false,Blk.cols mq [Col.int .i64 tq]),(0,false,Blk.cols mp [Col.int .i64 tp]),(2,true,Blk.cols np [Col.int .i64 fun (x:Nat)=>0])]]) (3)) (False)
theorem te76 (test:TT) (Kst:KS) (Kret:KR) (ap np mp:Nat) (tp:NI) (aq nq mq:Nat) (tq:NI) (fp fq:Int):run test Tryz.env true (xF3 test) true 400 ⟨146,[.cd (mkFn Tryz.f146).body],argT 0 [.loose ⟨0,1,ap,0⟩ np,.loose ⟨1,1,aq,0⟩ nq,.int .i64 fp,.int .i64 fq],[[],[(0,(false,.cols mp [.int .i64 tp])),(1,(false,.cols mq [.int .i64 tq]))]],2⟩ (proj 2 [1,2,3,9,10,16,17,18] Kst Kret)=
  Te76 test Kst Kret ap np mp tp aq nq mq tq fp fq:=by kernel_rfl
noncomputable abbrev u76_0_0 (x1:Int) (x2:List Int):=decide ((0:Int)≤x1∧x1<(↑(List.length x2):Int))
noncomputable abbrev u76_0_1 (ap:Nat) (tp:NI) (aq:Nat) (tq:NI) (fp:Int) (fq:Int) (x0:Int) (x1:Int):=x0+fp*tp (Int.toNat x1+ap)+fq*tq (Int.toNat x1+aq)
noncomputable def T76_0 (test:TT) (Kst:KS) (Kret:KR) (ap np mp:Nat) (tp:NI) (aq nq mq:Nat) (tq:NI) (fp:Int) (fq:Int) (x0:Int) (x1:Int) (x2:List Int):Prop:=test (decide (x1<(↑np:Int))) (test (decide ((0:Int)≤x1∧x1<(↑np:Int))) (test (decide (Int.toNat x1+ap<mp)) (test (lim .i64 (fp*tp (Int.toNat x1+ap))) (test (lim .i64 (x0+fp*tp (Int.toNat x1+ap))) (test (decide (x1<(↑nq:Int))) (test (decide ((0:Int)≤x1∧x1<(↑nq:Int))) (test (decide (Int.toNat x1+aq<mq)) (test (lim .i64 (fq*tq (Int.toNat x1+aq))) (test (lim .i64 (u76_0_1 ap tp aq tq fp fq x0 x1)) (test (false) (False) (test (u76_0_0 x1 x2) (test (decide (Int.toNat x1<List.length x2)) (test (false) (False) (test (lim .i64 (Int.tdiv (u76_0_1 ap tp aq tq fp fq x0 x1) (1000000:Int))) (test (u76_0_0 x1 x2) (test (decide (Int.toNat x1<List.length x2)) (test (decide ((bif Nat.beq (Int.toNat x1) (Int.toNat x1) then Int.tmod (u76_0_1 ap tp aq tq fp fq x0 x1) (1000000:Int) else S.at' x2 (Int.toNat x1))<0)) (test (u76_0_0 x1 x2) (test (decide (Int.toNat x1<List.length x2)) (test (lim .i64 ((bif Nat.beq (Int.toNat x1) (Int.toNat x1) then Int.tmod (u76_0_1 ap tp aq tq fp fq x0 x1) (1000000:Int) else S.at' x2 (Int.toNat x1))+1000000)) (test (u76_0_0 x1 x2) (test (decide (Int.toNat x1<List.length x2)) (test (lim .i64 (Int.tdiv (u76_0_1 ap tp aq tq fp fq x0 x1) (1000000:Int)-1)) (test (lim .i64 (x1+1)) (Kst (hd Tryz.f146 0) ([PV.loose (PA.mk (1) (1) aq (0)) nq,PV.int .i64 fp,PV.int .i64 fq,PV.own (2) (1) (List.length x2),PV.int .i64 (Int.tdiv (u76_0_1 ap tp aq tq fp fq x0 x1) (1000000:Int)-1),PV.loose (PA.mk (0) (1) ap (0)) np,PV.int .i64 (↑np:Int),PV.int .i64 (x1+1)]) ([[(1,false,Blk.cols mq [Col.int .i64 tq]),(0,false,Blk.cols mp [Col.int .i64 tp]),(2,true,Blk.cols (List.length x2) [Col.int .i64 fun j=>bif Nat.beq j (Int.toNat x1) then (bif Nat.beq (Int.toNat x1) (Int.toNat x1) then Int.tmod (u76_0_1 ap tp aq tq fp fq x0 x1) (1000000:Int) else S.at' x2 (Int.toNat x1))+1000000 else bif Nat.beq j (Int.toNat x1) then Int.tmod (u76_0_1 ap tp aq tq fp fq x0 x1) (1000000:Int) else S.at' x2 j])]]) (3)) (False)) (False)) (False)) (False)) (False)) (False)) (False)) (test (lim .i64 (x1+1)) (Kst (hd Tryz.f146 0) ([PV.loose (PA.mk (1) (1) aq (0)) nq,PV.int .i64 fp,PV.int .i64 fq,PV.own (2) (1) (List.length x2),PV.int .i64 (Int.tdiv (u76_0_1 ap tp aq tq fp fq x0 x1) (1000000:Int)),PV.loose (PA.mk (0) (1) ap (0)) np,PV.int .i64 (↑np:Int),PV.int .i64 (x1+1)]) ([[(1,false,Blk.cols mq [Col.int .i64 tq]),(0,false,Blk.cols mp [Col.int .i64 tp]),(2,true,Blk.cols (List.length x2) [Col.int .i64 fun j=>bif Nat.beq j (Int.toNat x1) then Int.tmod (u76_0_1 ap tp aq tq fp fq x0 x1) (1000000:Int) else S.at' x2 j])]]) (3)) (False))) (False)) (False)) (False))) (False)) (False))) (False)) (False)) (False)) (False)) (test (false) (False) (test (u76_0_0 x1 x2) (test (decide (Int.toNat x1<List.length x2)) (test (false) (False) (test (lim .i64 (Int.tdiv (x0+fp*tp (Int.toNat x1+ap)) (1000000:Int))) (test (u76_0_0 x1 x2) (test (decide (Int.toNat x1<List.length x2)) (test (decide ((bif Nat.beq (Int.toNat x1) (Int.toNat x1) then Int.tmod (x0+fp*tp (Int.toNat x1+ap)) (1000000:Int) else S.at' x2 (Int.toNat x1))<0)) (test (u76_0_0 x1 x2) (test (decide (Int.toNat x1<List.length x2)) (test (lim .i64 ((bif Nat.beq (Int.toNat x1) (Int.toNat x1) then Int.tmod (x0+fp*tp (Int.toNat x1+ap)) (1000000:Int) else S.at' x2 (Int.toNat x1))+1000000)) (test (u76_0_0 x1 x2) (test (decide (Int.toNat x1<List.length x2)) (test (lim .i64 (Int.tdiv (x0+fp*tp (Int.toNat x1+ap)) (1000000:Int)-1)) (test (lim .i64 (x1+1)) (Kst (hd Tryz.f146 0) ([PV.loose (PA.mk (1) (1) aq (0)) nq,PV.int .i64 fp,PV.int .i64 fq,PV.own (2) (1) (List.length x2),PV.int .i64 (Int.tdiv (x0+fp*tp (Int.toNat x1+ap)) (1000000:Int)-1),PV.loose (PA.mk (0) (1) ap (0)) np,PV.int .i64 (↑np:Int),PV.int .i64 (x1+1)]) ([[(1,false,Blk.cols mq [Col.int .i64 tq]),(0,false,Blk.cols mp [Col.int .i64 tp]),(2,true,Blk.cols (List.length x2) [Col.int .i64 fun j=>bif Nat.beq j (Int.toNat x1) then (bif Nat.beq (Int.toNat x1) (Int.toNat x1) then Int.tmod (x0+fp*tp (Int.toNat x1+ap)) (1000000:Int) else S.at' x2 (Int.toNat x1))+1000000 else bif Nat.beq j (Int.toNat x1) then Int.tmod (x0+fp*tp (Int.toNat x1+ap)) (1000000:Int) else S.at' x2 j])]]) (3)) (False)) (False)) (False)) (False)) (False)) (False)) (False)) (test (lim .i64 (x1+1)) (Kst (hd Tryz.f146 0) ([PV.loose (PA.mk (1) (1) aq (0)) nq,PV.int .i64 fp,PV.int .i64 fq,PV.own (2) (1) (List.length x2),PV.int .i64 (Int.tdiv (x0+fp*tp (Int.toNat x1+ap)) (1000000:Int)),PV.loose (PA.mk (0) (1) ap (0)) np,PV.int .i64 (↑np:Int),PV.int .i64 (x1+1)]) ([[(1,false,Blk.cols mq [Col.int .i64 tq]),(0,false,Blk.cols mp [Col.int .i64 tp]),(2,true,Blk.cols (List.length x2) [Col.int .i64 fun j=>bif Nat.beq j (Int.toNat x1) then Int.tmod (x0+fp*tp (Int.toNat x1+ap)) (1000000:Int) else S.at' x2 j])]]) (3)) (False))) (False)) (False)) (False))) (False)) (False)))) (False)) (False)) (False)) (False)) (test (decide (List.length x2≤List.length x2)) (test (decide (List.length x2≤1000000)) (Kret (PV.own (2) (1) (List.length (S.trim (S.mkl (List.length x2) fun j=>S.at' x2 j)))) ([[(1,false,Blk.cols mq [Col.int .i64 tq]),(0,false,Blk.cols mp [Col.int .i64 tp]),(2,true,Blk.cols (List.length (S.trim (S.mkl (List.length x2) fun j=>S.at' x2 j))) [Col.int .i64 fun j=>S.at' (S.trim (S.mkl (List.length x2) fun j=>S.at' x2 j)) j])]]) (4)) (False)) (False))
theorem t76_0 (test:TT) (Kst:KS) (Kret:KR) (ap np mp:Nat) (tp:NI) (aq nq mq:Nat) (tq:NI) (fp fq x0 x1:Int) (x2:List Int):run test Tryz.env true (xF3 test) true 400 ⟨146,hd Tryz.f146 0,zipT [1,2,3,9,10,16,17,18] [PV.loose (PA.mk (1) (1) aq (0)) nq,PV.int .i64 fp,
 PV.int .i64 fq,PV.own (2) (1) (List.length x2),PV.int .i64 x0,
 PV.loose (PA.mk (0) (1) ap (0)) np,PV.int .i64 (↑np:Int),
 PV.int .i64 x1],[[(2,(true,Blk.cols (List.length x2) [Col.int .i64 fun j=>S.at' x2 j]))],[(0,(false,.cols mp [.int .i64 tp])),(1,(false,.cols mq [.int .i64 tq]))]],3⟩ (proj 2 [1,2,3,9,10,16,17,18] Kst Kret)=
  T76_0 test Kst Kret ap np mp tp aq nq mq tq fp fq x0 x1 x2:=by kernel_rfl
noncomputable abbrev J76 (ap np mp:Nat) (tp:NI) (aq nq mq:Nat) (tq:NI) (fp:Int) (fq:Int):Rt76→Heap:=fun r=> [newL (2+1) ((N76 ap np mp tp aq nq mq tq fp fq) r)++ [(0,(false,.cols mp [.int .i64 tp])),(1,(false,.cols mq [.int .i64 tq]))]]
attribute [local irreducible] Int.subNatNat in
theorem be76 (ap np mp:Nat) (tp:NI) (aq nq mq:Nat) (tq:NI) (fp fq:Int) (Kst:KS) (Kret:KR) (x:St76⊕Rt76) (hS:HS 2 400 ((I76 ap np mp tp aq nq mq tq fp fq)) Kst x) (hR:HR 2 400 ((V76 ap np mp tp aq nq mq tq fp fq)) (J76 ap np mp tp aq nq mq tq fp fq) Kret x) (h:p76 ap np mp tp aq nq mq tq fp fq=some x):Te76 cond Kst Kret ap np mp tp aq nq mq tq fp fq:=by
  unfold Te76
  unfold p76 at h
  exact bif_split h (fun c0 h=>stop_at hS _ h (fun n=>bif Nat.beq n 2 then 2 else n) rfl rfl rfl ⟨(rn_loose (use_lo rfl) rfl rfl rfl),⟨(rn_int rfl),⟨(rn_int rfl),⟨(rn_own (use_own rfl) rfl mkl_len),⟨(rn_int rfl),⟨(rn_loose (use_lo rfl) rfl rfl rfl),⟨(rn_int rfl),⟨(rn_int rfl),trivial⟩⟩⟩⟩⟩⟩⟩⟩ rfl (entl_new (use_own rfl) rfl (Nat.le_of_eq mkl_len) (rcs_int (fun _ hj=>col_mkl (fun (t:Int)=>t) hj) rcs_nil) (entl_bor (use_lo rfl) rfl rfl (entl_bor (use_lo rfl) rfl rfl entl_nil)))) (fun c0 h=>no_some h)
attribute [local irreducible] Int.subNatNat in
theorem b76_0 (ap np mp:Nat) (tp:NI) (aq nq mq:Nat) (tq:NI) (fp fq:Int) (Kst:KS) (Kret:KR) (x:St76⊕Rt76) (hS:HS 2 400 ((I76 ap np mp tp aq nq mq tq fp fq)) Kst x) (hR:HR 2 400 ((V76 ap np mp tp aq nq mq tq fp fq)) (J76 ap np mp tp aq nq mq tq fp fq) Kret x) (x0 x1:Int) (x2:List Int) (h:q76 ap np mp tp aq nq mq tq fp fq (.h0 x0 x1 x2)=some x):T76_0 cond Kst Kret ap np mp tp aq nq mq tq fp fq x0 x1 x2:=by
  unfold T76_0
  rw [q76] at h
  refine bif_split h (fun c0 h=>bif_split h (fun c1 h=>bif_split h (fun c2 h=>bif_split h (fun c3 h=>bif_split h (fun c4 h=>bif_split h (fun c5 h=>bif_split h (fun c6 h=>bif_split h (fun c7 h=>bif_split h (fun c8 h=>bif_split h (fun c9 h=>cond_no rfl (bif_split h (fun c10 h=>bif_split h (fun c11 h=>cond_no rfl (bif_split h (fun c12 h=>cond_yes c10 (cond_yes c11 (bif_split h (fun c13 h=>cond_yes c10 (cond_yes c11 (bif_split h (fun c14 h=>cond_yes c10 (cond_yes c11 (bif_split h (fun c15 h=>bif_split h (fun c16 h=> ?_) (fun c16 h=> ?_)) (fun c15 h=> ?_)))) (fun c14 h=> ?_)))) (fun c13 h=>bif_split h (fun c14 h=> ?_) (fun c14 h=> ?_))))) (fun c12 h=> ?_))) (fun c11 h=> ?_)) (fun c10 h=> ?_))) (fun c9 h=> ?_)) (fun c8 h=> ?_)) (fun c7 h=> ?_)) (fun c6 h=> ?_)) (fun c5 h=>cond_no rfl (bif_split h (fun c6 h=>bif_split h (fun c7 h=>cond_no rfl (bif_split h (fun c8 h=>cond_yes c6 (cond_yes c7 (bif_split h (fun c9 h=>cond_yes c6 (cond_yes c7 (bif_split h (fun c10 h=>cond_yes c6 (cond_yes c7 (bif_split h (fun c11 h=>bif_split h (fun c12 h=> ?_) (fun c12 h=> ?_)) (fun c11 h=> ?_)))) (fun c10 h=> ?_)))) (fun c9 h=>bif_split h (fun c10 h=> ?_) (fun c10 h=> ?_))))) (fun c8 h=> ?_))) (fun c7 h=> ?_)) (fun c6 h=> ?_)))) (fun c4 h=> ?_)) (fun c3 h=> ?_)) (fun c2 h=> ?_)) (fun c1 h=> ?_)) (fun c0 h=>bif_split h (fun c1 h=>bif_split h (fun c2 h=>ret_at hR _ h (fun n=>bif Nat.beq n 3 then 2 else n) rfl rfl rfl (rn_own (use_own rfl) rfl rfl) rfl (entl_new (use_own rfl) rfl (Nat.le_of_eq rfl) (rcs_int (fun _ _=>rfl) rcs_nil) (entl_bor (use_lo rfl) rfl rfl (entl_bor (use_lo rfl) rfl rfl entl_nil)))) (fun c2 h=> ?_)) (fun c1 h=> ?_))
  all_goals first
    |exact no_some h
    |exact stop_at hS _ h (fun n=>bif Nat.beq n 2 then 2 else n) rfl rfl rfl ⟨(rn_loose (use_lo rfl) rfl rfl rfl),⟨(rn_int rfl),⟨(rn_int rfl),⟨(rn_own (use_own rfl) rfl mkl_len),⟨(rn_int rfl),⟨(rn_loose (use_lo rfl) rfl rfl rfl),⟨(rn_int rfl),⟨(rn_int rfl),trivial⟩⟩⟩⟩⟩⟩⟩⟩ rfl (entl_new (use_own rfl) rfl (Nat.le_of_eq mkl_len) (rcs_int (fun _ hj=>col_mkl (fun (t:Int)=>t) hj) rcs_nil) (entl_bor (use_lo rfl) rfl rfl (entl_bor (use_lo rfl) rfl rfl entl_nil)))
theorem a76 (ap np mp:Nat) (tp:NI) (aq nq mq:Nat) (tq:NI) (fp fq:Int) {r:Rt76} (h:Goes ((q76 ap np mp tp aq nq mq tq fp fq)) ((p76 ap np mp tp aq nq mq tq fp fq)) r):CallR Tryz.prog 146 [.loose ⟨0,1,ap,0⟩ np,.loose ⟨1,1,aq,0⟩ nq,.int .i64 fp,.int .i64 fq] [[(0,(false,.cols mp [.int .i64 tp])),(1,(false,.cols mq [.int .i64 tq]))]] 2 ((V76 ap np mp tp aq nq mq tq fp fq) r) ((J76 ap np mp tp aq nq mq tq fp fq) r) 400∧ ∃ F,Tryz.prog.funcs[146]? =some F∧F.body.isSome=true∧(F.name== "runtime.NumGoroutine")=false:=by
  refine dec_calls (f:=146) (lo:=2) (hi:=400) Tryz.envOk Tryz.mixed xF3_ok ((I76 ap np mp tp aq nq mq tq fp fq)) ((V76 ap np mp tp aq nq mq tq fp fq)) (J76 ap np mp tp aq nq mq tq fp fq) (fn:=mkFn Tryz.f146) (ts:= [1,2,3,9,10,16,17,18]) (n:=400) rfl (by decide) (by simp) (names_of rfl) ?_ ?_ ?_ h
  · intro s; cases s<;>exact ⟨hd_ok _ _,by simp [I76],names_of rfl,Nat.le_of_ble_eq_true rfl⟩
  · intro Kst Kret x hS hR h
    exact Holds.eq (te76 cond Kst Kret ap np mp tp aq nq mq tq fp fq) (be76 ap np mp tp aq nq mq tq fp fq Kst Kret x hS hR h)
  · intro Kst Kret x hS hR s h
    cases s with
    |h0 x0 x1 x2=>exact Holds.eq (t76_0 cond Kst Kret ap np mp tp aq nq mq tq fp fq x0 x1 x2) (b76_0 ap np mp tp aq nq mq tq fp fq Kst Kret x hS hR x0 x1 x2 h)
noncomputable abbrev w76 {α:Type} (g:Nat→Nat→Nat→(Nat→Int)→Nat→Nat→Nat→(Nat→Int)→Int→Int→α) (x:(Nat×Nat×Nat×(Nat→Int)×Unit)×(Nat×Nat×Nat×(Nat→Int)×Unit)×Int×Int×Unit):α:=g x.1.1 x.1.2.1 x.1.2.2.1 x.1.2.2.2.1 x.2.1.1 x.2.1.2.1 x.2.1.2.2.1 x.2.1.2.2.2.1 x.2.2.1 x.2.2.2.1
noncomputable def k76:Con:=⟨146,[.one (.list [.int .i64]),.one (.list [.int .i64]),.one (.plain (.int .i64)),.one (.plain (.int .i64))],w76 (fun ap np mp tp aq nq mq tq fp fq=>decide ((ap+np≤mp∧aq+nq≤mq)∧(np≤900∧nq≤np)∧(S.okD np (fun j=>tp (j+ap))=true∧S.okD nq (fun j=>tq (j+aq))=true)∧(-1000000000≤fp∧fp≤1000000000)∧(-1000000000≤fq∧fq≤1000000000)∧0≤fp*(S.val np (fun j=>tp (j+ap)))+fq*(S.val nq (fun j=>tq (j+aq)))∧fp*(S.val np (fun j=>tp (j+ap)))+fq*(S.val nq (fun j=>tq (j+aq)))≤(S.val np (fun j=>tp (j+ap))))),w76 (fun ap np mp tp aq nq mq tq fp fq=>(V76 ap np mp tp aq nq mq tq fp fq) (S.grp (fp*(S.val np (fun j=>tp (j+ap)))+fq*(S.val nq (fun j=>tq (j+aq)))))),w76 (fun ap np mp tp aq nq mq tq fp fq=>(N76 ap np mp tp aq nq mq tq fp fq) (S.grp (fp*(S.val np (fun j=>tp (j+ap)))+fq*(S.val nq (fun j=>tq (j+aq)))))),fun _ _=> .dead⟩
theorem s76' (ap np mp:Nat) (tp:Nat→Int) (aq nq mq:Nat) (tq:Nat→Int) (fp fq:Int) (hp:(ap+np≤mp∧aq+nq≤mq)∧(np≤900∧nq≤np)∧(S.okD np (fun j=>tp (j+ap))=true∧S.okD nq (fun j=>tq (j+aq))=true)∧(-1000000000≤fp∧fp≤1000000000)∧(-1000000000≤fq∧fq≤1000000000)∧0≤fp*(S.val np (fun j=>tp (j+ap)))+fq*(S.val nq (fun j=>tq (j+aq)))∧fp*(S.val np (fun j=>tp (j+ap)))+fq*(S.val nq (fun j=>tq (j+aq)))≤(S.val np (fun j=>tp (j+ap)))): ∀ (k i:Nat) (c:Int) (R:List Int),i+k=np→R.length=np→(∀ j,j<i→0≤S.at' R j∧S.at' R j<1000000)→(-3000000000≤c∧c≤3000000000)→S.valF (S.at' R) 0 i+S.pw i*c=fp*S.valF (fun j=>tp (j+ap)) 0 i+fq*S.valF (fun j=>tq (j+aq)) 0 (min i nq)→Comes (q76 ap np mp tp aq nq mq tq fp fq) (.h0 c (i:Int) R) (S.grp (fp*(S.val np (fun j=>tp (j+ap)))+fq*(S.val nq (fun j=>tq (j+aq))))):=by
  obtain ⟨⟨hp1,hp2⟩,⟨hp3,hp4⟩,⟨hp5,hp6⟩,hp7,hp8,hp9,hp10⟩:=hp
  have dP:=okD_iff.mp hp5
  have dQ:=okD_iff.mp hp6
  intro k
  induction k with
  | zero=>
    intro i c R hi hl hd hc he
    obtain rfl:i=np:=by omega
    rw [Nat.min_eq_right hp4] at he
    have he:S.valF (S.at' R) 0 i+S.pw i*c=fp*S.val i (fun j=>tp (j+ap))+fq*(S.val nq (fun j=>tq (j+aq))):=he
    have oD:=okD_iff.mpr hd
    have v0:=val_nn oD
    have v1:=val_lt oD (Nat.le_refl i)
    have w1:=val_lt hp5 (Nat.le_refl i)
    have pp:=pw_pos (k:=i)
    have he':S.val i (S.at' R)+S.pw i*c=fp*S.val i (fun j=>tp (j+ap))+fq*(S.val nq (fun j=>tq (j+aq))):=he
    have c0:c=0:=by
      rcases Int.lt_trichotomy c 0 with h|h|h
      · have:S.pw i*c≤S.pw i*(-1):=Int.mul_le_mul_of_nonneg_left (by omega) (by omega)
        omega
      · exact h
      · have:S.pw i*1≤S.pw i*c:=Int.mul_le_mul_of_nonneg_left (by omega) (by omega)
        omega
    rw [c0,Int.mul_zero,Int.add_zero] at he'
    rw [← he']
    have e:=trim_mkl (n:=i) (t:=S.at' R) oD
    clear v0 v1 w1 pp he he' hp9 hp10
    apply Comes.of
    rw [q76]
    refine goes_no (decide_eq_false (by omega)) (goes_ok (decide_eq_true (Nat.le_refl _)) (goes_ok (decide_eq_true (by omega)) (goes_inr.mpr ?_)))
    rw [hl]; exact e
  | succ k ih=>
    intro i c R hi hl hd hc he
    have gp:0≤tp (i+ap)∧tp (i+ap)<1000000:=dP i (by omega)
    have step: ∀ (t G:Int),t=c+fp*tp (i+ap)+fq*G→(0≤G∧G<1000000)→S.valF (fun j=>tq (j+aq)) 0 (min (i+1) nq)=S.valF (fun j=>tq (j+aq)) 0 (min i nq)+S.pw i*G→Comes (q76 ap np mp tp aq nq mq tq fp fq) (.h0 (t / 1000000) (((i+1:Nat):Int)) (S.mkl np fun j=>bif Nat.beq j i then t % 1000000 else S.at' R j)) (S.grp (fp*(S.val np (fun j=>tp (j+ap)))+fq*(S.val nq (fun j=>tq (j+aq))))):=by
      intro t G ht hG hv
      have b1: -(1000000000*1000000)≤fp*tp (i+ap)∧fp*tp (i+ap)≤1000000000*1000000:=mul_b hp7 gp
      have b2: -(1000000000*1000000)≤fq*G∧fq*G≤1000000000*1000000:=mul_b hp8 hG
      refine ih (i+1) _ _ (by omega) mkl_len (fun j hj=> ?_) (by omega) ?_
      · rw [at_mkl (by omega),put_if']
        split
        · omega
        · exact hd j (by omega)
      · have e1:S.valF (S.at' (S.mkl np fun j=>bif Nat.beq j i then t % 1000000 else S.at' R j)) 0 (i+1)=S.valF (S.at' R) 0 i+S.pw i*(t % 1000000):=by
          rw [valF_snoc,Nat.zero_add,at_mkl (by omega),put_if',if_pos rfl,valF_congr (u:=S.at' R) fun j _ h=>by rw [at_mkl (by omega),put_if',if_neg (by omega)]]
        have e2:S.valF (fun j=>tp (j+ap)) 0 (i+1)=S.valF (fun j=>tp (j+ap)) 0 i+S.pw i*tp (i+ap):=by
          rw [valF_snoc,Nat.zero_add]
        have e3:S.pw (i+1)=S.pw i*1000000:=Int.mul_comm _ _
        have e4:t % 1000000+1000000*(t / 1000000)=t:=Int.emod_add_mul_ediv t 1000000
        have e5:S.pw i*(t % 1000000)+S.pw i*(1000000*(t / 1000000))=S.pw i*c+S.pw i*(fp*tp (i+ap))+S.pw i*(fq*G):=by
          rw [← Int.mul_add,e4,ht,Int.mul_add,Int.mul_add]
        rw [e1,e2,e3,hv,Int.mul_assoc,Int.mul_add,Int.mul_add,Int.mul_left_comm fp,Int.mul_left_comm fq]
        omega
    have b1: -(1000000000*1000000)≤fp*tp (i+ap)∧fp*tp (i+ap)≤1000000000*1000000:=mul_b hp7 gp
    have ei:((i+1:Nat):Int)=(i:Int)+1:=by omega
    have hx:i+ap<mp:=by omega
    have hw:i<np:=by omega
    have hv:(0:Int)≤(i:Int)∧(i:Int)<(np:Int):=by omega
    clear ih hp9 hp10 hp5 hp6 dP he
    by_cases hn:i<nq
    · have gq:0≤tq (i+aq)∧tq (i+aq)<1000000:=dQ i (by omega)
      have hy:i+aq<mq:=by omega
      have hs:=step _ (tq (i+aq)) rfl gq (by rw [Nat.min_eq_left (by omega:i+1≤nq),Nat.min_eq_left (by omega:i≤nq),valF_snoc,Nat.zero_add])
      have b2: -(1000000000*1000000)≤fq*tq (i+aq)∧fq*tq (i+aq)≤1000000000*1000000:=mul_b hp8 gq
      clear step dQ
      have hT:=tm_em (c+fp*tp (i+ap)+fq*tq (i+aq))
      have bT: -2000003000000000≤c+fp*tp (i+ap)+fq*tq (i+aq)∧c+fp*tp (i+ap)+fq*tq (i+aq)≤2000003000000000:=by omega
      rw [ei] at hs
      subst hl
      have hb: ∀ x y:Int,(bif Nat.beq i i then x else y)=x:=fun x y=>by rw [Nat.beq_refl]; rfl
      have hz:(0:Int)≤(i:Int)∧(i:Int)<(nq:Int):=by omega
      apply Comes.of
      rw [q76,Int.toNat_natCast]
      by_cases hm:Int.tmod (c+fp*tp (i+ap)+fq*tq (i+aq)) 1000000<0
      · obtain ⟨h1,h2⟩:=hT.1 hm
        clear hT
        rw [h1,h2] at hs
        have eL:(S.mkl R.length fun j=>bif Nat.beq j i then Int.tmod (c+fp*tp (i+ap)+fq*tq (i+aq)) 1000000+1000000 else bif Nat.beq j i then Int.tmod (c+fp*tp (i+ap)+fq*tq (i+aq)) 1000000 else S.at' R j)=S.mkl R.length fun j=>bif Nat.beq j i then Int.tmod (c+fp*tp (i+ap)+fq*tq (i+aq)) 1000000+1000000 else S.at' R j:=mkl_congr fun j _=>by
          cases Nat.beq j i<;>rfl
        rw [← eL] at hs
        clear eL
        repeat' first
          |(with_reducible refine goes_ok ?_ ?_; focus (first|with_reducible exact decide_eq_true hx|with_reducible exact decide_eq_true hw|with_reducible exact decide_eq_true hv|with_reducible exact decide_eq_true hy|with_reducible exact decide_eq_true hz|(apply decide_eq_true; rw [hb]; exact hm)|(rw [lim64]; apply decide_eq_true; omega)|(rw [hb,lim64]; apply decide_eq_true; omega)|(apply decide_eq_true; omega)))
          |(with_reducible refine goes_no ?_ ?_; focus (first|(apply decide_eq_false; rw [hb]; exact hm)|(apply decide_eq_false; omega)))
        rw [hb]
        exact hs
      · obtain ⟨h1,h2⟩:=hT.2 hm
        clear hT
        rw [h1,h2] at hs
        repeat' first
          |(with_reducible refine goes_ok ?_ ?_; focus (first|with_reducible exact decide_eq_true hx|with_reducible exact decide_eq_true hw|with_reducible exact decide_eq_true hv|with_reducible exact decide_eq_true hy|with_reducible exact decide_eq_true hz|(apply decide_eq_true; rw [hb]; exact hm)|(rw [lim64]; apply decide_eq_true; omega)|(rw [hb,lim64]; apply decide_eq_true; omega)|(apply decide_eq_true; omega)))
          |(with_reducible refine goes_no ?_ ?_; focus (first|(apply decide_eq_false; rw [hb]; exact hm)|(apply decide_eq_false; omega)))
        exact hs
    · have hs:=step (c+fp*tp (i+ap)) 0 (by rw [Int.mul_zero,Int.add_zero]) (by omega) (by rw [Nat.min_eq_right (by omega:nq≤i+1),Nat.min_eq_right (by omega:nq≤i),Int.mul_zero,Int.add_zero])
      clear step dQ
      have hT:=tm_em (c+fp*tp (i+ap))
      have bT: -2000003000000000≤c+fp*tp (i+ap)∧c+fp*tp (i+ap)≤2000003000000000:=by omega
      rw [ei] at hs
      subst hl
      have hb: ∀ x y:Int,(bif Nat.beq i i then x else y)=x:=fun x y=>by rw [Nat.beq_refl]; rfl
      skip
      apply Comes.of
      rw [q76,Int.toNat_natCast]
      by_cases hm:Int.tmod (c+fp*tp (i+ap)) 1000000<0
      · obtain ⟨h1,h2⟩:=hT.1 hm
        clear hT
        rw [h1,h2] at hs
        have eL:(S.mkl R.length fun j=>bif Nat.beq j i then Int.tmod (c+fp*tp (i+ap)) 1000000+1000000 else bif Nat.beq j i then Int.tmod (c+fp*tp (i+ap)) 1000000 else S.at' R j)=S.mkl R.length fun j=>bif Nat.beq j i then Int.tmod (c+fp*tp (i+ap)) 1000000+1000000 else S.at' R j:=mkl_congr fun j _=>by
          cases Nat.beq j i<;>rfl
        rw [← eL] at hs
        clear eL
        repeat' first
          |(with_reducible refine goes_ok ?_ ?_; focus (first|with_reducible exact decide_eq_true hx|with_reducible exact decide_eq_true hw|with_reducible exact decide_eq_true hv|(apply decide_eq_true; rw [hb]; exact hm)|(rw [lim64]; apply decide_eq_true; omega)|(rw [hb,lim64]; apply decide_eq_true; omega)|(apply decide_eq_true; omega)))
          |(with_reducible refine goes_no ?_ ?_; focus (first|(apply decide_eq_false; rw [hb]; exact hm)|(apply decide_eq_false; omega)))
        rw [hb]
        exact hs
      · obtain ⟨h1,h2⟩:=hT.2 hm
        clear hT
        rw [h1,h2] at hs
        repeat' first
          |(with_reducible refine goes_ok ?_ ?_; focus (first|with_reducible exact decide_eq_true hx|with_reducible exact decide_eq_true hw|with_reducible exact decide_eq_true hv|(apply decide_eq_true; rw [hb]; exact hm)|(rw [lim64]; apply decide_eq_true; omega)|(rw [hb,lim64]; apply decide_eq_true; omega)|(apply decide_eq_true; omega)))
          |(with_reducible refine goes_no ?_ ?_; focus (first|(apply decide_eq_false; rw [hb]; exact hm)|(apply decide_eq_false; omega)))
        exact hs
theorem s76 (ap np mp:Nat) (tp:Nat→Int) (aq nq mq:Nat) (tq:Nat→Int) (fp fq:Int) (hp:(ap+np≤mp∧aq+nq≤mq)∧(np≤900∧nq≤np)∧(S.okD np (fun j=>tp (j+ap))=true∧S.okD nq (fun j=>tq (j+aq))=true)∧(-1000000000≤fp∧fp≤1000000000)∧(-1000000000≤fq∧fq≤1000000000)∧0≤fp*(S.val np (fun j=>tp (j+ap)))+fq*(S.val nq (fun j=>tq (j+aq)))∧fp*(S.val np (fun j=>tp (j+ap)))+fq*(S.val nq (fun j=>tq (j+aq)))≤(S.val np (fun j=>tp (j+ap)))):Goes ((q76 ap np mp tp aq nq mq tq fp fq)) ((p76 ap np mp tp aq nq mq tq fp fq)) (S.grp (fp*(S.val np (fun j=>tp (j+ap)))+fq*(S.val nq (fun j=>tq (j+aq))))):=by
  have hp':=hp
  obtain ⟨⟨hp1,hp2⟩,⟨hp3,hp4⟩,-⟩:=hp
  have hm:=s76' ap np mp tp aq nq mq tq fp fq hp' np 0 0 (S.mkl np fun _=>0) (by omega) mkl_len (fun j hj=>by omega) (by omega) (by
    rw [Nat.min_eq_left (Nat.zero_le _)]
    simp only [S.valF,Int.mul_zero,Int.add_zero])
  unfold p76
  with_reducible refine goes_ok ?_ ?_
  · apply decide_eq_true; omega
  exact hm
theorem k76_ok:k76.ok Tryz.prog:=by
  intro x hx
  obtain ⟨⟨ap,np,mp,tp,_⟩,⟨aq,nq,mq,tq,_⟩,fp,fq,_⟩:=x
  obtain ⟨h1,h2⟩:=a76 ap np mp tp aq nq mq tq fp fq (s76 ap np mp tp aq nq mq tq fp fq (of_dec hx rfl))
  exact ⟨⟨400,(by decide:2+1+1≤400),h1⟩,h2⟩
noncomputable def xG5 (test:Bool→Prop→Prop→Prop):Ext:=consX test [k65v,k60,k61,k44,k55,k54,k74,k77,k75,k76,k45]
theorem xG5_ok:ExtOk Tryz.prog (xG5 cond):=consX_ok ⟨k65v_ok,k60_ok,k61_ok,k44_ok,k55_ok,k54_ok,k74_ok,k77_ok,k75_ok,k76_ok,k45_ok,trivial⟩
namespace S
noncomputable def gcdV (a b:Int):Int:=((Int.gcd a b:Nat):Int)
end S
theorem gcdV_mod {a b:Int}:S.gcdV b (a % b)=S.gcdV a b:=by
  unfold S.gcdV
  have h:=gcd_det (A:=a) (B:=b) (p:=0) (q:=1) (r:=1) (s:= -(a / b)) (.inr (by omega))
  have e:=Int.mul_ediv_add_emod a b
  rw [show 0*a+1*b=b by omega,show 1*a+ -(a / b)*b=a % b by have e2:a / b*b=b*(a / b):=Int.mul_comm _ _; rw [Int.neg_mul]; omega] at h
  rw [h]
theorem gcdV_zero {a:Int} (h:0≤a):S.gcdV a 0=a:=by
  unfold S.gcdV
  rw [Int.gcd_zero_right]; omega
theorem gcdV_comm {a b:Int}:S.gcdV a b=S.gcdV b a:=by
  unfold S.gcdV
  rw [Int.gcd_comm]
theorem wrapU {x:Int} (h:0≤x∧x<9223372036854775808):IntKind.u64.wrap x=x:=by
  first|(rw [IntKind.wrap_u64]; omega)|(show x % 18446744073709551616=x; omega)|(simp [IntKind.wrap]; omega)
theorem mkl_G: ∀ {n:Nat} {t:Nat→Int},S.okG n t=true→S.mkl n t=S.trim (S.mkl n t)
  |0,_,_=>rfl
  |n+1,t,h=>by
    rcases (okG_iff.mp h).2 with h|h
    · omega
    · exact (trim_mkl1 h).symm
noncomputable abbrev c63_0_0 (x0 x1:List Int):=S.leadS (S.valF (fun j=>S.at' x0 j) (List.length x0-3) (3)) (S.valF (fun j=>S.at' x1 j) (List.length x0-3) (List.length x1-(List.length x0-3)))
noncomputable abbrev c63_0_1 (x0 x1:List Int):=decide ((0+List.length x0≤List.length x0∧0+List.length x1≤List.length x1)∧(List.length x0≤900∧List.length x1≤List.length x0)∧((S.okD (List.length x0) fun j=>S.at' x0 j)=true∧(S.okD (List.length x1) fun j=>S.at' x1 j)=true)∧((-1000000000:Int)≤Prod.fst (Prod.snd (Prod.snd (c63_0_0 x0 x1)))∧Prod.fst (Prod.snd (Prod.snd (c63_0_0 x0 x1)))≤1000000000)∧((-1000000000:Int)≤Prod.snd (Prod.snd (Prod.snd (c63_0_0 x0 x1)))∧Prod.snd (Prod.snd (Prod.snd (c63_0_0 x0 x1)))≤1000000000)∧((0:Int)≤(Prod.fst (Prod.snd (Prod.snd (c63_0_0 x0 x1)))*S.val (List.length x0) fun j=>S.at' x0 j)+Prod.snd (Prod.snd (Prod.snd (c63_0_0 x0 x1)))*S.val (List.length x1) fun j=>S.at' x1 j)∧((Prod.fst (Prod.snd (Prod.snd (c63_0_0 x0 x1)))*S.val (List.length x0) fun j=>S.at' x0 j)+Prod.snd (Prod.snd (Prod.snd (c63_0_0 x0 x1)))*S.val (List.length x1) fun j=>S.at' x1 j)≤S.val (List.length x0) fun j=>S.at' x0 j)
noncomputable abbrev c63_0_2 (x0 x1:List Int):=decide ((0+List.length x0≤List.length x0∧0+List.length x1≤List.length x1)∧(List.length x0≤900∧List.length x1≤List.length x0)∧((S.okD (List.length x0) fun j=>S.at' x0 j)=true∧(S.okD (List.length x1) fun j=>S.at' x1 j)=true)∧((-1000000000:Int)≤Prod.fst (c63_0_0 x0 x1)∧Prod.fst (c63_0_0 x0 x1)≤1000000000)∧((-1000000000:Int)≤Prod.fst (Prod.snd (c63_0_0 x0 x1))∧Prod.fst (Prod.snd (c63_0_0 x0 x1))≤1000000000)∧((0:Int)≤(Prod.fst (c63_0_0 x0 x1)*S.val (List.length x0) fun j=>S.at' x0 j)+Prod.fst (Prod.snd (c63_0_0 x0 x1))*S.val (List.length x1) fun j=>S.at' x1 j)∧((Prod.fst (c63_0_0 x0 x1)*S.val (List.length x0) fun j=>S.at' x0 j)+Prod.fst (Prod.snd (c63_0_0 x0 x1))*S.val (List.length x1) fun j=>S.at' x1 j)≤S.val (List.length x0) fun j=>S.at' x0 j)
noncomputable abbrev c63_0_3 (x0 x1:List Int):=S.leadS (S.valF (fun j=>S.at' x0 j) (List.length x0-3) (3)) (S.valF (fun j=>S.at' x1 j) (List.length x0-3) (List.length x1-(List.length x0-3)))
inductive St63 where
  |h0 (x0:List Int) (x1:List Int)
  |h1 (x0:Int) (x1:Int)
abbrev Rt63:=List Int
noncomputable def V63 (ap np mp:Nat) (tp:NI) (aq nq mq:Nat) (tq:NI) (r:Rt63):PV:=PV.own (3) (1) (List.length r)
noncomputable def N63 (ap np mp:Nat) (tp:NI) (aq nq mq:Nat) (tq:NI) (r:Rt63):List Blk:= [Blk.cols (List.length r) [Col.int .i64 fun j=>S.at' r j]]
noncomputable def I63 (ap np mp:Nat) (tp:NI) (aq nq mq:Nat) (tq:NI):St63→Hd
  | .h0 x0 x1=>⟨hd Tryz.f126 0,[PV.own (2) (1) (List.length x0),PV.own (3) (1) (List.length x1),
 PV.unk,PV.unk],[[(2,(true,Blk.cols (List.length x0) [Col.int .i64 fun j=>S.at' x0 j])),(3,(true,Blk.cols (List.length x1) [Col.int .i64 fun j=>S.at' x1 j]))],[(0,(false,.cols mp [.int .i64 tp])),(1,(false,.cols mq [.int .i64 tq]))]],4⟩
  | .h1 x0 x1=>⟨hd Tryz.f126 1,[PV.unk,PV.unk,PV.int .i64 x0,PV.int .i64 x1],[[],[(0,(false,.cols mp [.int .i64 tp])),(1,(false,.cols mq [.int .i64 tq]))]],2⟩
noncomputable def q63 (ap np mp:Nat) (tp:NI) (aq nq mq:Nat) (tq:NI):St63→Option (St63⊕Rt63)| .h0 x0 x1=>bif (decide ((↑(List.length x0):Int)>3)) then (bif (decide ((↑(List.length x1):Int)>0)) then (bif (decide ((0+List.length x0≤List.length x0∧0+List.length x1≤List.length x1)∧(3<List.length x0∧List.length x0≤900∧List.length x1≤List.length x0)∧(S.okD (List.length x0) fun j=>S.at' x0 j)=true∧(S.okD (List.length x1) fun j=>S.at' x1 j)=true∧(S.val (List.length x1) fun j=>S.at' x1 j)≤S.val (List.length x0) fun j=>S.at' x0 j)) then (bif (Prod.fst (Prod.snd (c63_0_3 x0 x1))==0) then (bif (decide ((0+List.length x0≤List.length x0∧0+List.length x1≤List.length x1)∧(List.length x0≤900∧List.length x1≤900)∧(S.okG (List.length x0) fun j=>S.at' x0 j)=true∧(S.okG (List.length x1) fun j=>S.at' x1 j)=true∧0<List.length x1)) then (some (.inl (.h0 (x1) (S.grp ((S.val (List.length x0) fun j=>S.at' x0 j) % S.val (List.length x1) fun j=>S.at' x1 j))))) else (none)) else (bif (c63_0_2 x0 x1) then (bif (c63_0_1 x0 x1) then (some (.inl (.h0 (S.grp ((Prod.fst (c63_0_3 x0 x1)*S.val (List.length x0) fun j=>S.at' x0 j)+Prod.fst (Prod.snd (c63_0_3 x0 x1))*S.val (List.length x1) fun j=>S.at' x1 j)) (S.grp ((Prod.fst (Prod.snd (Prod.snd (c63_0_3 x0 x1)))*S.val (List.length x0) fun j=>S.at' x0 j)+Prod.snd (Prod.snd (Prod.snd (c63_0_3 x0 x1)))*S.val (List.length x1) fun j=>S.at' x1 j))))) else (none)) else (none))) else (none)) else (bif ((↑(List.length x1):Int)==0) then (some (.inr (x0))) else (bif (decide (0+List.length x0≤List.length x0∧List.length x0≤1000∧(S.okD (List.length x0) fun j=>S.at' x0 j)=true∧(0:Int)≤0∧(0:Int)≤1000)) then (bif (decide (0+List.length x1≤List.length x1∧List.length x1≤1000∧(S.okD (List.length x1) fun j=>S.at' x1 j)=true∧(0:Int)≤0∧(0:Int)≤1000)) then (some (.inl (.h1 (S.valF (fun j=>S.at' x0 j) (0) (Min.min (List.length x0) (3))) (S.valF (fun j=>S.at' x1 j) (0) (Min.min (List.length x1) (3)))))) else (none)) else (none)))) else (bif ((↑(List.length x1):Int)==0) then (some (.inr (x0))) else (bif (decide (0+List.length x0≤List.length x0∧List.length x0≤1000∧(S.okD (List.length x0) fun j=>S.at' x0 j)=true∧(0:Int)≤0∧(0:Int)≤1000)) then (bif (decide (0+List.length x1≤List.length x1∧List.length x1≤1000∧(S.okD (List.length x1) fun j=>S.at' x1 j)=true∧(0:Int)≤0∧(0:Int)≤1000)) then (some (.inl (.h1 (S.valF (fun j=>S.at' x0 j) (0) (Min.min (List.length x0) (3))) (S.valF (fun j=>S.at' x1 j) (0) (Min.min (List.length x1) (3)))))) else (none)) else (none)))| .h1 x0 x1=>bif (decide (x1>0)) then (bif (decide (x1=0)) then (none) else (some (.inl (.h1 (x1) (Int.tmod x0 x1))))) else (bif (decide ((0:Int)≤IntKind.wrap .u64 x0∧IntKind.wrap .u64 x0≤9223372036854775808)) then (some (.inr (S.grp (IntKind.wrap .u64 x0)))) else (none))
noncomputable def p63 (ap np mp:Nat) (tp:NI) (aq nq mq:Nat) (tq:NI):Option (St63⊕Rt63):=bif (decide (ap+np≤mp∧np≤1000000)) then (bif (decide (aq+nq≤mq∧nq≤1000000)) then (bif (decide (0+np≤np∧np≤1000000∧0+nq≤nq∧nq≤1000000∧(S.okG np fun j=>tp (j+ap))=true∧(S.okG nq fun j=>tq (j+aq))=true)) then (bif (decide (S.cmpS (S.val np fun j=>tp (j+ap)) (S.val nq fun j=>tq (j+aq))<0)) then (some (.inl (.h0 (S.mkl nq fun j=>tq (j+aq)) (S.mkl np fun j=>tp (j+ap))))) else (some (.inl (.h0 (S.mkl np fun j=>tp (j+ap)) (S.mkl nq fun j=>tq (j+aq)))))) else (none)) else (none)) else (none)
noncomputable def Te63 (test:TT) (Kst:KS) (Kret:KR) (ap np mp:Nat) (tp:NI) (aq nq mq:Nat) (tq:NI):Prop:=test (decide (ap+np≤mp∧np≤1000000)) (test (decide (aq+nq≤mq∧nq≤1000000)) (test (decide (0+np≤np∧np≤1000000∧0+nq≤nq∧nq≤1000000∧(S.okG np fun j=>tp (j+ap))=true∧(S.okG nq fun j=>tq (j+aq))=true)) (test (decide (S.cmpS (S.val np fun j=>tp (j+ap)) (S.val nq fun j=>tq (j+aq))<0)) (Kst (hd Tryz.f126 0) ([PV.own (5) (1) nq,PV.own (3) (1) np,PV.unk,PV.unk]) ([[(1,false,Blk.cols mq [Col.int .i64 tq]),(0,false,Blk.cols mp [Col.int .i64 tp]),(3,true,Blk.cols np [Col.int .i64 fun j=>tp (j+ap)]),(5,true,Blk.cols nq [Col.int .i64 fun j=>tq (j+aq)])]]) (7)) (Kst (hd Tryz.f126 0) ([PV.own (3) (1) np,PV.own (5) (1) nq,PV.unk,PV.unk]) ([[(1,false,Blk.cols mq [Col.int .i64 tq]),(0,false,Blk.cols mp [Col.int .i64 tp]),(5,true,Blk.cols nq [Col.int .i64 fun j=>tq (j+aq)]),(3,true,Blk.cols np [Col.int .i64 fun j=>tp (j+ap)])]]) (7))) (False)) (False)) (False)
theorem te63 (test:TT) (Kst:KS) (Kret:KR) (ap np mp:Nat) (tp:NI) (aq nq mq:Nat) (tq:NI):run test Tryz.env true (xG5 test) true 400 ⟨126,[.cd (mkFn Tryz.f126).body],argT 0 [.loose ⟨0,1,ap,0⟩ np,.loose ⟨1,1,aq,0⟩ nq],[[],[(0,(false,.cols mp [.int .i64 tp])),(1,(false,.cols mq [.int .i64 tq]))]],2⟩ (proj 2 [0,1,11,12] Kst Kret)=
  Te63 test Kst Kret ap np mp tp aq nq mq tq:=by kernel_rfl
noncomputable abbrev u63_0_0 (x0 x1:List Int):=S.grp (((c63_0_0 x0 x1).2.2.1*S.val (List.length x0) fun j=>S.at' x0 j)+(c63_0_0 x0 x1).2.2.2*S.val (List.length x1) fun j=>S.at' x1 j)
noncomputable abbrev u63_0_1 (x0:List Int) (x1:List Int):=([PV.own (2) (1) (List.length x0),PV.own (3) (1) (List.length x1),PV.int .i64 (S.valF (fun j=>S.at' x0 j) (0) (Min.min (List.length x0) (3))),PV.int .i64 (S.valF (fun j=>S.at' x1 j) (0) (Min.min (List.length x1) (3)))])
noncomputable abbrev u63_0_2 (x0:List Int):=(2,true,Blk.cols (List.length x0) [Col.int .i64 fun j=>S.at' x0 j])
noncomputable abbrev u63_0_3 (x0:List Int):=decide (0+List.length x0≤List.length x0∧List.length x0≤1000∧(S.okD (List.length x0) fun j=>S.at' x0 j)=true∧(0:Int)≤0∧(0:Int)≤1000)
noncomputable abbrev u63_0_4 (x1:List Int):=decide (0+List.length x1≤List.length x1∧List.length x1≤1000∧(S.okD (List.length x1) fun j=>S.at' x1 j)=true∧(0:Int)≤0∧(0:Int)≤1000)
noncomputable def T63_0 (test:TT) (Kst:KS) (Kret:KR) (ap np mp:Nat) (tp:NI) (aq nq mq:Nat) (tq:NI) (x0:List Int) (x1:List Int):Prop:=test (decide ((↑(List.length x0):Int)>3)) (test (decide ((↑(List.length x1):Int)>0)) (test (decide ((0+List.length x0≤List.length x0∧0+List.length x1≤List.length x1)∧(3<List.length x0∧List.length x0≤900∧List.length x1≤List.length x0)∧(S.okD (List.length x0) fun j=>S.at' x0 j)=true∧(S.okD (List.length x1) fun j=>S.at' x1 j)=true∧(S.val (List.length x1) fun j=>S.at' x1 j)≤S.val (List.length x0) fun j=>S.at' x0 j)) (test (((c63_0_3 x0 x1).2).1==0) (test (decide ((0+List.length x0≤List.length x0∧0+List.length x1≤List.length x1)∧(List.length x0≤900∧List.length x1≤900)∧(S.okG (List.length x0) fun j=>S.at' x0 j)=true∧(S.okG (List.length x1) fun j=>S.at' x1 j)=true∧0<List.length x1)) (Kst (hd Tryz.f126 0) ([PV.own (3) (1) (List.length x1),PV.own (6) (1) (List.length (S.grp ((S.val (List.length x0) fun j=>S.at' x0 j) % S.val (List.length x1) fun j=>S.at' x1 j))),PV.unk,PV.unk]) ([[(1,false,Blk.cols mq [Col.int .i64 tq]),(0,false,Blk.cols mp [Col.int .i64 tp]),(6,true,Blk.cols (List.length (S.grp ((S.val (List.length x0) fun j=>S.at' x0 j) % S.val (List.length x1) fun j=>S.at' x1 j))) [Col.int .i64 fun j=>S.at' (S.grp ((S.val (List.length x0) fun j=>S.at' x0 j) % S.val (List.length x1) fun j=>S.at' x1 j)) j]),(3,true,Blk.cols (List.length x1) [Col.int .i64 fun j=>S.at' x1 j])]]) (8)) (False)) (test (c63_0_2 x0 x1) (test (c63_0_1 x0 x1) (Kst (hd Tryz.f126 0) ([PV.own (6) (1) (List.length (S.grp (((c63_0_3 x0 x1).1*S.val (List.length x0) fun j=>S.at' x0 j)+(c63_0_0 x0 x1).2.1*S.val (List.length x1) fun j=>S.at' x1 j))),PV.own (8) (1) (List.length (u63_0_0 x0 x1)),PV.unk,PV.unk]) ([[(1,false,Blk.cols mq [Col.int .i64 tq]),(0,false,Blk.cols mp [Col.int .i64 tp]),(8,true,Blk.cols (List.length (u63_0_0 x0 x1)) [Col.int .i64 fun j=>S.at' (u63_0_0 x0 x1) j]),(6,true,Blk.cols (List.length (S.grp (((c63_0_0 x0 x1).1*S.val (List.length x0) fun j=>S.at' x0 j)+(c63_0_0 x0 x1).2.1*S.val (List.length x1) fun j=>S.at' x1 j))) [Col.int .i64 fun j=>S.at' (S.grp (((c63_0_0 x0 x1).1*S.val (List.length x0) fun j=>S.at' x0 j)+(c63_0_0 x0 x1).2.1*S.val (List.length x1) fun j=>S.at' x1 j)) j])]]) (9)) (False)) (False))) (False)) (test ((↑(List.length x1):Int)==0) (Kret (PV.own (2) (1) (List.length x0)) ([[(1,false,Blk.cols mq [Col.int .i64 tq]),(0,false,Blk.cols mp [Col.int .i64 tp]),(u63_0_2 x0)]]) (4)) (test (u63_0_3 x0) (test (u63_0_4 x1) (Kst (hd Tryz.f126 1) (u63_0_1 x0 x1) ([[(1,false,Blk.cols mq [Col.int .i64 tq]),(0,false,Blk.cols mp [Col.int .i64 tp]),(3,true,Blk.cols (List.length x1) [Col.int .i64 fun j=>S.at' x1 j]),(u63_0_2 x0)]]) (6)) (False)) (False)))) (test ((↑(List.length x1):Int)==0) (Kret (PV.own (2) (1) (List.length x0)) ([[(1,false,Blk.cols mq [Col.int .i64 tq]),(0,false,Blk.cols mp [Col.int .i64 tp]),(u63_0_2 x0)]]) (4)) (test (u63_0_3 x0) (test (u63_0_4 x1) (Kst (hd Tryz.f126 1) (u63_0_1 x0 x1) ([[(1,false,Blk.cols mq [Col.int .i64 tq]),(0,false,Blk.cols mp [Col.int .i64 tp]),(3,true,Blk.cols (List.length x1) [Col.int .i64 fun j=>S.at' x1 j]),(u63_0_2 x0)]]) (6)) (False)) (False)))
theorem t63_0 (test:TT) (Kst:KS) (Kret:KR) (ap np mp:Nat) (tp:NI) (aq nq mq:Nat) (tq:NI) (x0 x1:List Int):run test Tryz.env true (xG5 test) true 400 ⟨126,hd Tryz.f126 0,zipT [0,1,11,12] [PV.own (2) (1) (List.length x0),PV.own (3) (1) (List.length x1),
 PV.unk,PV.unk],[[(2,(true,Blk.cols (List.length x0) [Col.int .i64 fun j=>S.at' x0 j])),(3,(true,Blk.cols (List.length x1) [Col.int .i64 fun j=>S.at' x1 j]))],[(0,(false,.cols mp [.int .i64 tp])),(1,(false,.cols mq [.int .i64 tq]))]],4⟩ (proj 2 [0,1,11,12] Kst Kret)=
  T63_0 test Kst Kret ap np mp tp aq nq mq tq x0 x1:=by kernel_rfl
noncomputable def T63_1 (test:TT) (Kst:KS) (Kret:KR) (ap np mp:Nat) (tp:NI) (aq nq mq:Nat) (tq:NI) (x0 x1:Int):Prop:=test (decide (x1>0)) (test (decide (x1=0)) (False) (Kst (hd Tryz.f126 1) ([PV.unk,PV.unk,PV.int .i64 x1,PV.int .i64 (Int.tmod x0 x1)]) ([[(1,false,Blk.cols mq [Col.int .i64 tq]),(0,false,Blk.cols mp [Col.int .i64 tp])]]) (2))) (test (decide ((0:Int)≤IntKind.wrap .u64 x0∧IntKind.wrap .u64 x0≤9223372036854775808)) (Kret (PV.own (3) (1) (List.length (S.grp (IntKind.wrap .u64 x0)))) ([[(1,false,Blk.cols mq [Col.int .i64 tq]),(0,false,Blk.cols mp [Col.int .i64 tp]),(3,true,Blk.cols (List.length (S.grp (IntKind.wrap .u64 x0))) [Col.int .i64 fun j=>S.at' (S.grp (IntKind.wrap .u64 x0)) j])]]) (4)) (False))
theorem t63_1 (test:TT) (Kst:KS) (Kret:KR) (ap np mp:Nat) (tp:NI) (aq nq mq:Nat) (tq:NI) (x0 x1:Int):run test Tryz.env true (xG5 test) true 400 ⟨126,hd Tryz.f126 1,zipT [0,1,11,12] [PV.unk,PV.unk,PV.int .i64 x0,PV.int .i64 x1],[[],[(0,(false,.cols mp [.int .i64 tp])),(1,(false,.cols mq [.int .i64 tq]))]],2⟩ (proj 2 [0,1,11,12] Kst Kret)=
  T63_1 test Kst Kret ap np mp tp aq nq mq tq x0 x1:=by kernel_rfl
noncomputable abbrev J63 (ap np mp:Nat) (tp:NI) (aq nq mq:Nat) (tq:NI):Rt63→Heap:=fun r=> [newL (2+1) ((N63 ap np mp tp aq nq mq tq) r)++ [(0,(false,.cols mp [.int .i64 tp])),(1,(false,.cols mq [.int .i64 tq]))]]
attribute [local irreducible] Int.subNatNat in
theorem be63 (ap np mp:Nat) (tp:NI) (aq nq mq:Nat) (tq:NI) (Kst:KS) (Kret:KR) (x:St63⊕Rt63) (hS:HS 2 400 ((I63 ap np mp tp aq nq mq tq)) Kst x) (hR:HR 2 400 ((V63 ap np mp tp aq nq mq tq)) (J63 ap np mp tp aq nq mq tq) Kret x) (h:p63 ap np mp tp aq nq mq tq=some x):Te63 cond Kst Kret ap np mp tp aq nq mq tq:=by
  unfold Te63
  unfold p63 at h
  exact bif_split h (fun c0 h=>bif_split h (fun c1 h=>bif_split h (fun c2 h=>bif_split h (fun c3 h=>stop_at hS _ h (fun n=>bif Nat.beq n 2 then 5 else bif Nat.beq n 3 then 3 else n) rfl rfl rfl ⟨(rn_own (use_own rfl) rfl mkl_len),⟨(rn_own (use_own rfl) rfl mkl_len),⟨(rn_unk _),⟨(rn_unk _),trivial⟩⟩⟩⟩ rfl (entl_new (use_own rfl) rfl (Nat.le_of_eq mkl_len) (rcs_int (fun _ hj=>col_mkl (fun (t:Int)=>t) hj) rcs_nil) (entl_new (use_own rfl) rfl (Nat.le_of_eq mkl_len) (rcs_int (fun _ hj=>col_mkl (fun (t:Int)=>t) hj) rcs_nil) (entl_bor (use_lo rfl) rfl rfl (entl_bor (use_lo rfl) rfl rfl entl_nil))))) (fun c3 h=>stop_at hS _ h (fun n=>bif Nat.beq n 2 then 3 else bif Nat.beq n 3 then 5 else n) rfl rfl rfl ⟨(rn_own (use_own rfl) rfl mkl_len),⟨(rn_own (use_own rfl) rfl mkl_len),⟨(rn_unk _),⟨(rn_unk _),trivial⟩⟩⟩⟩ rfl (entl_new (use_own rfl) rfl (Nat.le_of_eq mkl_len) (rcs_int (fun _ hj=>col_mkl (fun (t:Int)=>t) hj) rcs_nil) (entl_new (use_own rfl) rfl (Nat.le_of_eq mkl_len) (rcs_int (fun _ hj=>col_mkl (fun (t:Int)=>t) hj) rcs_nil) (entl_bor (use_lo rfl) rfl rfl (entl_bor (use_lo rfl) rfl rfl entl_nil)))))) (fun c2 h=>no_some h)) (fun c1 h=>no_some h)) (fun c0 h=>no_some h)
attribute [local irreducible] Int.subNatNat in
theorem b63_0 (ap np mp:Nat) (tp:NI) (aq nq mq:Nat) (tq:NI) (Kst:KS) (Kret:KR) (x:St63⊕Rt63) (hS:HS 2 400 ((I63 ap np mp tp aq nq mq tq)) Kst x) (hR:HR 2 400 ((V63 ap np mp tp aq nq mq tq)) (J63 ap np mp tp aq nq mq tq) Kret x) (x0 x1:List Int) (h:q63 ap np mp tp aq nq mq tq (.h0 x0 x1)=some x):T63_0 cond Kst Kret ap np mp tp aq nq mq tq x0 x1:=by
  unfold T63_0
  rw [q63] at h
  refine bif_split h (fun c0 h=>bif_split h (fun c1 h=>bif_split h (fun c2 h=>bif_split h (fun c3 h=>bif_split h (fun c4 h=>stop_at hS _ h (fun n=>bif Nat.beq n 2 then 3 else bif Nat.beq n 3 then 6 else n) rfl rfl rfl ⟨(rn_own (use_own rfl) rfl rfl),⟨(rn_own (use_own rfl) rfl rfl),⟨(rn_unk _),⟨(rn_unk _),trivial⟩⟩⟩⟩ rfl (entl_new (use_own rfl) rfl (Nat.le_of_eq rfl) (rcs_int (fun _ _=>rfl) rcs_nil) (entl_new (use_own rfl) rfl (Nat.le_of_eq rfl) (rcs_int (fun _ _=>rfl) rcs_nil) (entl_bor (use_lo rfl) rfl rfl (entl_bor (use_lo rfl) rfl rfl entl_nil))))) (fun c4 h=> ?_)) (fun c3 h=>bif_split h (fun c4 h=>bif_split h (fun c5 h=>stop_at hS _ h (fun n=>bif Nat.beq n 2 then 6 else bif Nat.beq n 3 then 8 else n) rfl rfl rfl ⟨(rn_own (use_own rfl) rfl rfl),⟨(rn_own (use_own rfl) rfl rfl),⟨(rn_unk _),⟨(rn_unk _),trivial⟩⟩⟩⟩ rfl (entl_new (use_own rfl) rfl (Nat.le_of_eq rfl) (rcs_int (fun _ _=>rfl) rcs_nil) (entl_new (use_own rfl) rfl (Nat.le_of_eq rfl) (rcs_int (fun _ _=>rfl) rcs_nil) (entl_bor (use_lo rfl) rfl rfl (entl_bor (use_lo rfl) rfl rfl entl_nil))))) (fun c5 h=> ?_)) (fun c4 h=> ?_))) (fun c2 h=> ?_)) (fun c1 h=>bif_split h (fun c2 h=> ?_) (fun c2 h=>bif_split h (fun c3 h=>bif_split h (fun c4 h=> ?_) (fun c4 h=> ?_)) (fun c3 h=> ?_)))) (fun c0 h=>bif_split h (fun c1 h=> ?_) (fun c1 h=>bif_split h (fun c2 h=>bif_split h (fun c3 h=> ?_) (fun c3 h=> ?_)) (fun c2 h=> ?_)))
  all_goals first
    |exact no_some h
    |exact ret_at hR _ h (fun n=>bif Nat.beq n 3 then 2 else n) rfl rfl rfl (rn_own (use_own rfl) rfl rfl) rfl (entl_new (use_own rfl) rfl (Nat.le_of_eq rfl) (rcs_int (fun _ _=>rfl) rcs_nil) (entl_bor (use_lo rfl) rfl rfl (entl_bor (use_lo rfl) rfl rfl entl_nil)))
    |exact stop_at hS _ h (fun n=>n) rfl rfl rfl ⟨(rn_unk _),⟨(rn_unk _),⟨(rn_int rfl),⟨(rn_int rfl),trivial⟩⟩⟩⟩ rfl (entl_bor (use_lo rfl) rfl rfl (entl_bor (use_lo rfl) rfl rfl entl_nil))
attribute [local irreducible] Int.subNatNat in
theorem b63_1 (ap np mp:Nat) (tp:NI) (aq nq mq:Nat) (tq:NI) (Kst:KS) (Kret:KR) (x:St63⊕Rt63) (hS:HS 2 400 ((I63 ap np mp tp aq nq mq tq)) Kst x) (hR:HR 2 400 ((V63 ap np mp tp aq nq mq tq)) (J63 ap np mp tp aq nq mq tq) Kret x) (x0 x1:Int) (h:q63 ap np mp tp aq nq mq tq (.h1 x0 x1)=some x):T63_1 cond Kst Kret ap np mp tp aq nq mq tq x0 x1:=by
  unfold T63_1
  rw [q63] at h
  exact bif_split h (fun c0 h=>bif_split h (fun c1 h=>no_some h) (fun c1 h=>stop_at hS _ h (fun n=>n) rfl rfl rfl ⟨(rn_unk _),⟨(rn_unk _),⟨(rn_int rfl),⟨(rn_int rfl),trivial⟩⟩⟩⟩ rfl (entl_bor (use_lo rfl) rfl rfl (entl_bor (use_lo rfl) rfl rfl entl_nil)))) (fun c0 h=>bif_split h (fun c1 h=>ret_at hR _ h (fun n=>bif Nat.beq n 3 then 3 else n) rfl rfl rfl (rn_own (use_own rfl) rfl rfl) rfl (entl_new (use_own rfl) rfl (Nat.le_of_eq rfl) (rcs_int (fun _ _=>rfl) rcs_nil) (entl_bor (use_lo rfl) rfl rfl (entl_bor (use_lo rfl) rfl rfl entl_nil)))) (fun c1 h=>no_some h))
theorem a63 (ap np mp:Nat) (tp:NI) (aq nq mq:Nat) (tq:NI) {r:Rt63} (h:Goes ((q63 ap np mp tp aq nq mq tq)) ((p63 ap np mp tp aq nq mq tq)) r):CallR Tryz.prog 126 [.loose ⟨0,1,ap,0⟩ np,.loose ⟨1,1,aq,0⟩ nq] [[(0,(false,.cols mp [.int .i64 tp])),(1,(false,.cols mq [.int .i64 tq]))]] 2 ((V63 ap np mp tp aq nq mq tq) r) ((J63 ap np mp tp aq nq mq tq) r) 400∧ ∃ F,Tryz.prog.funcs[126]? =some F∧F.body.isSome=true∧(F.name== "runtime.NumGoroutine")=false:=by
  refine dec_calls (f:=126) (lo:=2) (hi:=400) Tryz.envOk Tryz.mixed xG5_ok ((I63 ap np mp tp aq nq mq tq)) ((V63 ap np mp tp aq nq mq tq)) (J63 ap np mp tp aq nq mq tq) (fn:=mkFn Tryz.f126) (ts:= [0,1,11,12]) (n:=400) rfl (by decide) (by simp) (names_of rfl) ?_ ?_ ?_ h
  · intro s; cases s<;>exact ⟨hd_ok _ _,by simp [I63],names_of rfl,Nat.le_of_ble_eq_true rfl⟩
  · intro Kst Kret x hS hR h
    exact Holds.eq (te63 cond Kst Kret ap np mp tp aq nq mq tq) (be63 ap np mp tp aq nq mq tq Kst Kret x hS hR h)
  · intro Kst Kret x hS hR s h
    cases s with
    |h0 x0 x1=>exact Holds.eq (t63_0 cond Kst Kret ap np mp tp aq nq mq tq x0 x1) (b63_0 ap np mp tp aq nq mq tq Kst Kret x hS hR x0 x1 h)
    |h1 x0 x1=>exact Holds.eq (t63_1 cond Kst Kret ap np mp tp aq nq mq tq x0 x1) (b63_1 ap np mp tp aq nq mq tq Kst Kret x hS hR x0 x1 h)
end Go.Ev
