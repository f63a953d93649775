/-
  The parts that the statement needs, 4 of 4.
-/
import Derived.Test.YtlmomkdmbacbpaaDoorW83
namespace Go.Ev
open Go.Proofs
set_option linter.unusedVariables false
set_option linter.unusedSimpArgs false
set_option maxRecDepth 100000
noncomputable def q63 (ap np mp:Nat) (tp:NI) (aq nq mq:Nat) (tq:NI):St63→Option (St63⊕Rt63)| .h0 x0 x1=>bif (decide ((↑(List.length x0):Int)>3)) then (bif (decide ((↑(List.length x1):Int)>0)) then (bif (decide ((0+List.length x0≤List.length x0∧0+List.length x1≤List.length x1)∧(3<List.length x0∧List.length x0≤900∧List.length x1≤List.length x0)∧(S.okD (List.length x0) fun j=>S.at' x0 j)=true∧(S.okD (List.length x1) fun j=>S.at' x1 j)=true∧(S.val (List.length x1) fun j=>S.at' x1 j)≤S.val (List.length x0) fun j=>S.at' x0 j)) then (bif (Prod.fst (Prod.snd (c63_0_3 x0 x1))==0) then (bif (decide ((0+List.length x0≤List.length x0∧0+List.length x1≤List.length x1)∧(List.length x0≤900∧List.length x1≤900)∧(S.okG (List.length x0) fun j=>S.at' x0 j)=true∧(S.okG (List.length x1) fun j=>S.at' x1 j)=true∧0<List.length x1)) then (some (.inl (.h0 (x1) (S.grp ((S.val (List.length x0) fun j=>S.at' x0 j) % S.val (List.length x1) fun j=>S.at' x1 j))))) else (none)) else (bif (c63_0_2 x0 x1) then (bif (c63_0_1 x0 x1) then (some (.inl (.h0 (S.grp ((Prod.fst (c63_0_3 x0 x1)*S.val (List.length x0) fun j=>S.at' x0 j)+Prod.fst (Prod.snd (c63_0_3 x0 x1))*S.val (List.length x1) fun j=>S.at' x1 j)) (S.grp ((Prod.fst (Prod.snd (Prod.snd (c63_0_3 x0 x1)))*S.val (List.length x0) fun j=>S.at' x0 j)+Prod.snd (Prod.snd (Prod.snd (c63_0_3 x0 x1)))*S.val (List.length x1) fun j=>S.at' x1 j))))) else (none)) else (none))) else (none)) else (bif ((↑(List.length x1):Int)==0) then (some (.inr (x0))) else (bif (decide (0+List.length x0≤List.length x0∧List.length x0≤1000∧(S.okD (List.length x0) fun j=>S.at' x0 j)=true∧(0:Int)≤0∧(0:Int)≤1000)) then (bif (decide (0+List.length x1≤List.length x1∧List.length x1≤1000∧(S.okD (List.length x1) fun j=>S.at' x1 j)=true∧(0:Int)≤0∧(0:Int)≤1000)) then (some (.inl (.h1 (S.valF (fun j=>S.at' x0 j) (0) (Min.min (List.length x0) (3))) (S.valF (fun j=>S.at' x1 j) (0) (Min.min (List.length x1) (3)))))) else (none)) else (none)))) else (bif ((↑(List.length x1):Int)==0) then (some (.inr (x0))) else (bif (decide (0+List.length x0≤List.length x0∧List.length x0≤1000∧(S.okD (List.length x0) fun j=>S.at' x0 j)=true∧(0:Int)≤0∧(0:Int)≤1000)) then (bif (decide (0+List.length x1≤List.length x1∧List.length x1≤1000∧(S.okD (List.length x1) fun j=>S.at' x1 j)=true∧(0:Int)≤0∧(0:Int)≤1000)) then (some (.inl (.h1 (S.valF (fun j=>S.at' x0 j) (0) (Min.min (List.length x0) (3))) (S.valF (fun j=>S.at' x1 j) (0) (Min.min (List.length x1) (3)))))) else (none)) else (none)))| .h1 x0 x1=>bif (decide (x1>0)) then (bif (decide (x1=0)) then (none) else (some (.inl (.h1 (x1) (Int.tmod x0 x1))))) else (bif (decide ((0:Int)≤IntKind.wrap .u64 x0∧IntKind.wrap .u64 x0≤9223372036854775808)) then (some (.inr (S.grp (IntKind.wrap .u64 x0)))) else (none))
noncomputable def p63 (ap np mp:Nat) (tp:NI) (aq nq mq:Nat) (tq:NI):Option (St63⊕Rt63):=bif (decide (ap+np≤mp∧np≤1000000)) then (bif (decide (aq+nq≤mq∧nq≤1000000)) then (bif (decide (0+np≤np∧np≤1000000∧0+nq≤nq∧nq≤1000000∧(S.okG np fun j=>tp (j+ap))=true∧(S.okG nq fun j=>tq (j+aq))=true)) then (bif (decide (S.cmpS (S.val np fun j=>tp (j+ap)) (S.val nq fun j=>tq (j+aq))<0)) then (some (.inl (.h0 (S.mkl nq fun j=>tq (j+aq)) (S.mkl np fun j=>tp (j+ap))))) else (some (.inl (.h0 (S.mkl np fun j=>tp (j+ap)) (S.mkl nq fun j=>tq (j+aq)))))) else (none)) else (none)) else (none)
noncomputable def Te63 (test:TT) (Kst:KS) (Kret:KR) (ap np mp:Nat) (tp:NI) (aq nq mq:Nat) (tq:NI):Prop:=test (decide (ap+np≤mp∧np≤1000000)) (test (decide (aq+nq≤mq∧nq≤1000000)) (test (decide (0+np≤np∧np≤1000000∧0+nq≤nq∧nq≤1000000∧(S.okG np fun j=>tp (j+ap))=true∧(S.okG nq fun j=>tq (j+aq))=true)) (test (decide (S.cmpS (S.val np fun j=>tp (j+ap)) (S.val nq fun j=>tq (j+aq))<0)) (Kst (hd Tryd.f63 0) ([PV.own (5) (1) nq,PV.own (3) (1) np,PV.unk,PV.unk]) ([[(1,false,Blk.cols mq [Col.int .i64 tq]),(0,false,Blk.cols mp [Col.int .i64 tp]),(3,true,Blk.cols np [Col.int .i64 fun j=>tp (j+ap)]),(5,true,Blk.cols nq [Col.int .i64 fun j=>tq (j+aq)])]]) (7)) (Kst (hd Tryd.f63 0) ([PV.own (3) (1) np,PV.own (5) (1) nq,PV.unk,PV.unk]) ([[(1,false,Blk.cols mq [Col.int .i64 tq]),(0,false,Blk.cols mp [Col.int .i64 tp]),(5,true,Blk.cols nq [Col.int .i64 fun j=>tq (j+aq)]),(3,true,Blk.cols np [Col.int .i64 fun j=>tp (j+ap)])]]) (7))) (False)) (False)) (False)
theorem te63 (test:TT) (Kst:KS) (Kret:KR) (ap np mp:Nat) (tp:NI) (aq nq mq:Nat) (tq:NI):run test Tryd.env true (xG5 test) true 400 ⟨63,[.cd (mkFn Tryd.f63).body],argT 0 [.loose ⟨0,1,ap,0⟩ np,.loose ⟨1,1,aq,0⟩ nq],[[],[(0,(false,.cols mp [.int .i64 tp])),(1,(false,.cols mq [.int .i64 tq]))]],2⟩ (proj 2 [0,1,11,12] Kst Kret)=
  Te63 test Kst Kret ap np mp tp aq nq mq tq:=by kernel_rfl
noncomputable def T63_0 (test:TT) (Kst:KS) (Kret:KR) (ap np mp:Nat) (tp:NI) (aq nq mq:Nat) (tq:NI) (x0 x1:List Int):Prop:=test (decide ((↑(List.length x0):Int)>3)) (test (decide ((↑(List.length x1):Int)>0)) (test (decide ((0+List.length x0≤List.length x0∧0+List.length x1≤List.length x1)∧(3<List.length x0∧List.length x0≤900∧List.length x1≤List.length x0)∧(S.okD (List.length x0) fun j=>S.at' x0 j)=true∧(S.okD (List.length x1) fun j=>S.at' x1 j)=true∧(S.val (List.length x1) fun j=>S.at' x1 j)≤S.val (List.length x0) fun j=>S.at' x0 j)) (test (Prod.fst (Prod.snd (c63_0_3 x0 x1))==0) (test (decide ((0+List.length x0≤List.length x0∧0+List.length x1≤List.length x1)∧(List.length x0≤900∧List.length x1≤900)∧(S.okG (List.length x0) fun j=>S.at' x0 j)=true∧(S.okG (List.length x1) fun j=>S.at' x1 j)=true∧0<List.length x1)) (Kst (hd Tryd.f63 0) ([PV.own (3) (1) (List.length x1),PV.own (6) (1) (List.length (S.grp ((S.val (List.length x0) fun j=>S.at' x0 j) % S.val (List.length x1) fun j=>S.at' x1 j))),PV.unk,PV.unk]) ([[(1,false,Blk.cols mq [Col.int .i64 tq]),(0,false,Blk.cols mp [Col.int .i64 tp]),(6,true,Blk.cols (List.length (S.grp ((S.val (List.length x0) fun j=>S.at' x0 j) % S.val (List.length x1) fun j=>S.at' x1 j))) [Col.int .i64 fun j=>S.at' (S.grp ((S.val (List.length x0) fun j=>S.at' x0 j) % S.val (List.length x1) fun j=>S.at' x1 j)) j]),(3,true,Blk.cols (List.length x1) [Col.int .i64 fun j=>S.at' x1 j])]]) (8)) (False)) (test (c63_0_2 x0 x1) (test (c63_0_1 x0 x1) (Kst (hd Tryd.f63 0) ([PV.own (6) (1) (List.length (S.grp ((Prod.fst (c63_0_3 x0 x1)*S.val (List.length x0) fun j=>S.at' x0 j)+Prod.fst (Prod.snd (c63_0_0 x0 x1))*S.val (List.length x1) fun j=>S.at' x1 j))),PV.own (8) (1) (List.length (S.grp ((Prod.fst (Prod.snd (Prod.snd (c63_0_0 x0 x1)))*S.val (List.length x0) fun j=>S.at' x0 j)+Prod.snd (Prod.snd (Prod.snd (c63_0_0 x0 x1)))*S.val (List.length x1) fun j=>S.at' x1 j))),PV.unk,PV.unk]) ([[(1,false,Blk.cols mq [Col.int .i64 tq]),(0,false,Blk.cols mp [Col.int .i64 tp]),(8,true,Blk.cols (List.length (S.grp ((Prod.fst (Prod.snd (Prod.snd (c63_0_0 x0 x1)))*S.val (List.length x0) fun j=>S.at' x0 j)+Prod.snd (Prod.snd (Prod.snd (c63_0_0 x0 x1)))*S.val (List.length x1) fun j=>S.at' x1 j))) [Col.int .i64 fun j=>S.at' (S.grp ((Prod.fst (Prod.snd (Prod.snd (c63_0_0 x0 x1)))*S.val (List.length x0) fun j=>S.at' x0 j)+Prod.snd (Prod.snd (Prod.snd (c63_0_0 x0 x1)))*S.val (List.length x1) fun j=>S.at' x1 j)) j]),(6,true,Blk.cols (List.length (S.grp ((Prod.fst (c63_0_0 x0 x1)*S.val (List.length x0) fun j=>S.at' x0 j)+Prod.fst (Prod.snd (c63_0_0 x0 x1))*S.val (List.length x1) fun j=>S.at' x1 j))) [Col.int .i64 fun j=>S.at' (S.grp ((Prod.fst (c63_0_0 x0 x1)*S.val (List.length x0) fun j=>S.at' x0 j)+Prod.fst (Prod.snd (c63_0_0 x0 x1))*S.val (List.length x1) fun j=>S.at' x1 j)) j])]]) (9)) (False)) (False))) (False)) (test ((↑(List.length x1):Int)==0) (Kret (PV.own (2) (1) (List.length x0)) ([[(1,false,Blk.cols mq [Col.int .i64 tq]),(0,false,Blk.cols mp [Col.int .i64 tp]),(2,true,Blk.cols (List.length x0) [Col.int .i64 fun j=>S.at' x0 j])]]) (4)) (test (decide (0+List.length x0≤List.length x0∧List.length x0≤1000∧(S.okD (List.length x0) fun j=>S.at' x0 j)=true∧(0:Int)≤0∧(0:Int)≤1000)) (test (decide (0+List.length x1≤List.length x1∧List.length x1≤1000∧(S.okD (List.length x1) fun j=>S.at' x1 j)=true∧(0:Int)≤0∧(0:Int)≤1000)) (Kst (hd Tryd.f63 1) ([PV.own (2) (1) (List.length x0),PV.own (3) (1) (List.length x1),PV.int .i64 (S.valF (fun j=>S.at' x0 j) (0) (Min.min (List.length x0) (3))),PV.int .i64 (S.valF (fun j=>S.at' x1 j) (0) (Min.min (List.length x1) (3)))]) ([[(1,false,Blk.cols mq [Col.int .i64 tq]),(0,false,Blk.cols mp [Col.int .i64 tp]),(3,true,Blk.cols (List.length x1) [Col.int .i64 fun j=>S.at' x1 j]),(2,true,Blk.cols (List.length x0) [Col.int .i64 fun j=>S.at' x0 j])]]) (6)) (False)) (False)))) (test ((↑(List.length x1):Int)==0) (Kret (PV.own (2) (1) (List.length x0)) ([[(1,false,Blk.cols mq [Col.int .i64 tq]),(0,false,Blk.cols mp [Col.int .i64 tp]),(2,true,Blk.cols (List.length x0) [Col.int .i64 fun j=>S.at' x0 j])]]) (4)) (test (decide (0+List.length x0≤List.length x0∧List.length x0≤1000∧(S.okD (List.length x0) fun j=>S.at' x0 j)=true∧(0:Int)≤0∧(0:Int)≤1000)) (test (decide (0+List.length x1≤List.length x1∧List.length x1≤1000∧(S.okD (List.length x1) fun j=>S.at' x1 j)=true∧(0:Int)≤0∧(0:Int)≤1000)) (Kst (hd Tryd.f63 1) ([PV.own (2) (1) (List.length x0),PV.own (3) (1) (List.length x1),PV.int .i64 (S.valF (fun j=>S.at' x0 j) (0) (Min.min (List.length x0) (3))),PV.int .i64 (S.valF (fun j=>S.at' x1 j) (0) (Min.min (List.length x1) (3)))]) ([[(1,false,Blk.cols mq [Col.int .i64 tq]),(0,false,Blk.cols mp [Col.int .i64 tp]),(3,true,Blk.cols (List.length x1) [Col.int .i64 fun j=>S.at' x1 j]),(2,true,Blk.cols (List.length x0) [Col.int .i64 fun j=>S.at' x0 j])]]) (6)) (False)) (False)))
theorem t63_0 (test:TT) (Kst:KS) (Kret:KR) (ap np mp:Nat) (tp:NI) (aq nq mq:Nat) (tq:NI) (x0 x1:List Int):run test Tryd.env true (xG5 test) true 400 ⟨63,hd Tryd.f63 0,zipT [0,1,11,12] [PV.own (2) (1) (List.length x0),PV.own (3) (1) (List.length x1),
 PV.unk,PV.unk],[[(2,(true,Blk.cols (List.length x0) [Col.int .i64 fun j=>S.at' x0 j])),(3,(true,Blk.cols (List.length x1) [Col.int .i64 fun j=>S.at' x1 j]))],[(0,(false,.cols mp [.int .i64 tp])),(1,(false,.cols mq [.int .i64 tq]))]],4⟩ (proj 2 [0,1,11,12] Kst Kret)=
  T63_0 test Kst Kret ap np mp tp aq nq mq tq x0 x1:=by kernel_rfl
noncomputable def T63_1 (test:TT) (Kst:KS) (Kret:KR) (ap np mp:Nat) (tp:NI) (aq nq mq:Nat) (tq:NI) (x0 x1:Int):Prop:=test (decide (x1>0)) (test (decide (x1=0)) (False) (Kst (hd Tryd.f63 1) ([PV.unk,PV.unk,PV.int .i64 x1,PV.int .i64 (Int.tmod x0 x1)]) ([[(1,false,Blk.cols mq [Col.int .i64 tq]),(0,false,Blk.cols mp [Col.int .i64 tp])]]) (2))) (test (decide ((0:Int)≤IntKind.wrap .u64 x0∧IntKind.wrap .u64 x0≤9223372036854775808)) (Kret (PV.own (3) (1) (List.length (S.grp (IntKind.wrap .u64 x0)))) ([[(1,false,Blk.cols mq [Col.int .i64 tq]),(0,false,Blk.cols mp [Col.int .i64 tp]),(3,true,Blk.cols (List.length (S.grp (IntKind.wrap .u64 x0))) [Col.int .i64 fun j=>S.at' (S.grp (IntKind.wrap .u64 x0)) j])]]) (4)) (False))
theorem t63_1 (test:TT) (Kst:KS) (Kret:KR) (ap np mp:Nat) (tp:NI) (aq nq mq:Nat) (tq:NI) (x0 x1:Int):run test Tryd.env true (xG5 test) true 400 ⟨63,hd Tryd.f63 1,zipT [0,1,11,12] [PV.unk,PV.unk,PV.int .i64 x0,PV.int .i64 x1],[[],[(0,(false,.cols mp [.int .i64 tp])),(1,(false,.cols mq [.int .i64 tq]))]],2⟩ (proj 2 [0,1,11,12] Kst Kret)=
  T63_1 test Kst Kret ap np mp tp aq nq mq tq x0 x1:=by kernel_rfl
noncomputable abbrev J63 (ap np mp:Nat) (tp:NI) (aq nq mq:Nat) (tq:NI):Rt63→Heap:=fun r=> [newL (2+1) ((N63 ap np mp tp aq nq mq tq) r)++ [(0,(false,.cols mp [.int .i64 tp])),(1,(false,.cols mq [.int .i64 tq]))]]
attribute [local irreducible] Int.subNatNat in
theorem be63 (ap np mp:Nat) (tp:NI) (aq nq mq:Nat) (tq:NI) (Kst:KS) (Kret:KR) (x:St63⊕Rt63) (hS:HS 2 400 ((I63 ap np mp tp aq nq mq tq)) Kst x) (hR:HR 2 400 ((V63 ap np mp tp aq nq mq tq)) (J63 ap np mp tp aq nq mq tq) Kret x) (h:p63 ap np mp tp aq nq mq tq=some x):Te63 cond Kst Kret ap np mp tp aq nq mq tq:=by
  unfold Te63
  unfold p63 at h
  exact bif_split h (fun c0 h=>bif_split h (fun c1 h=>bif_split h (fun c2 h=>bif_split h (fun c3 h=>stop_at hS _ h (fun n=>bif Nat.beq n 2 then 5 else bif Nat.beq n 3 then 3 else n) rfl rfl rfl ⟨(rn_own (use_own rfl) rfl mkl_len),⟨(rn_own (use_own rfl) rfl mkl_len),⟨(rn_unk _),⟨(rn_unk _),trivial⟩⟩⟩⟩ rfl (entl_new (use_own rfl) rfl (Nat.le_of_eq mkl_len) (rcs_int (fun _ hj=>col_mkl (fun (t:Int)=>t) hj) rcs_nil) (entl_new (use_own rfl) rfl (Nat.le_of_eq mkl_len) (rcs_int (fun _ hj=>col_mkl (fun (t:Int)=>t) hj) rcs_nil) (entl_bor (use_lo rfl) rfl rfl (entl_bor (use_lo rfl) rfl rfl entl_nil))))) (fun c3 h=>stop_at hS _ h (fun n=>bif Nat.beq n 2 then 3 else bif Nat.beq n 3 then 5 else n) rfl rfl rfl ⟨(rn_own (use_own rfl) rfl mkl_len),⟨(rn_own (use_own rfl) rfl mkl_len),⟨(rn_unk _),⟨(rn_unk _),trivial⟩⟩⟩⟩ rfl (entl_new (use_own rfl) rfl (Nat.le_of_eq mkl_len) (rcs_int (fun _ hj=>col_mkl (fun (t:Int)=>t) hj) rcs_nil) (entl_new (use_own rfl) rfl (Nat.le_of_eq mkl_len) (rcs_int (fun _ hj=>col_mkl (fun (t:Int)=>t) hj) rcs_nil) (entl_bor (use_lo rfl) rfl rfl (entl_bor (use_lo rfl) rfl rfl entl_nil)))))) (fun c2 h=>no_some h)) (fun c1 h=>no_some h)) (fun c0 h=>no_some h)
attribute [local irreducible] Int.subNatNat in
theorem b63_0 (ap np mp:Nat) (tp:NI) (aq nq mq:Nat) (tq:NI) (Kst:KS) (Kret:KR) (x:St63⊕Rt63) (hS:HS 2 400 ((I63 ap np mp tp aq nq mq tq)) Kst x) (hR:HR 2 400 ((V63 ap np mp tp aq nq mq tq)) (J63 ap np mp tp aq nq mq tq) Kret x) (x0 x1:List Int) (h:q63 ap np mp tp aq nq mq tq (.h0 x0 x1)=some x):T63_0 cond Kst Kret ap np mp tp aq nq mq tq x0 x1:=by
  unfold T63_0
  rw [q63] at h
  refine bif_split h (fun c0 h=>bif_split h (fun c1 h=>bif_split h (fun c2 h=>bif_split h (fun c3 h=>bif_split h (fun c4 h=>stop_at hS _ h (fun n=>bif Nat.beq n 2 then 3 else bif Nat.beq n 3 then 6 else n) rfl rfl rfl ⟨(rn_own (use_own rfl) rfl rfl),⟨(rn_own (use_own rfl) rfl rfl),⟨(rn_unk _),⟨(rn_unk _),trivial⟩⟩⟩⟩ rfl (entl_new (use_own rfl) rfl (Nat.le_of_eq rfl) (rcs_int (fun _ _=>rfl) rcs_nil) (entl_new (use_own rfl) rfl (Nat.le_of_eq rfl) (rcs_int (fun _ _=>rfl) rcs_nil) (entl_bor (use_lo rfl) rfl rfl (entl_bor (use_lo rfl) rfl rfl entl_nil))))) (fun c4 h=> ?_)) (fun c3 h=>bif_split h (fun c4 h=>bif_split h (fun c5 h=>stop_at hS _ h (fun n=>bif Nat.beq n 2 then 6 else bif Nat.beq n 3 then 8 else n) rfl rfl rfl ⟨(rn_own (use_own rfl) rfl rfl),⟨(rn_own (use_own rfl) rfl rfl),⟨(rn_unk _),⟨(rn_unk _),trivial⟩⟩⟩⟩ rfl (entl_new (use_own rfl) rfl (Nat.le_of_eq rfl) (rcs_int (fun _ _=>rfl) rcs_nil) (entl_new (use_own rfl) rfl (Nat.le_of_eq rfl) (rcs_int (fun _ _=>rfl) rcs_nil) (entl_bor (use_lo rfl) rfl rfl (entl_bor (use_lo rfl) rfl rfl entl_nil))))) (fun c5 h=> ?_)) (fun c4 h=> ?_))) (fun c2 h=> ?_)) (fun c1 h=>bif_split h (fun c2 h=> ?_) (fun c2 h=>bif_split h (fun c3 h=>bif_split h (fun c4 h=> ?_) (fun c4 h=> ?_)) (fun c3 h=> ?_)))) (fun c0 h=>bif_split h (fun c1 h=> ?_) (fun c1 h=>bif_split h (fun c2 h=>bif_split h (fun c3 h=> ?_) (fun c3 h=> ?_)) (fun c2 h=> ?_)))
  all_goals first
    |exact no_some h
    |exact ret_at hR _ h (fun n=>bif Nat.beq n 3 then 2 else n) rfl rfl rfl (rn_own (use_own rfl) rfl rfl) rfl (entl_new (use_own rfl) rfl (Nat.le_of_eq rfl) (rcs_int (fun _ _=>rfl) rcs_nil) (entl_bor (use_lo rfl) rfl rfl (entl_bor (use_lo rfl) rfl rfl entl_nil)))
    |exact stop_at hS _ h (fun n=>n) rfl rfl rfl ⟨(rn_unk _),⟨(rn_unk _),⟨(rn_int rfl),⟨(rn_int rfl),trivial⟩⟩⟩⟩ rfl (entl_bor (use_lo rfl) rfl rfl (entl_bor (use_lo rfl) rfl rfl entl_nil))
attribute [local irreducible] Int.subNatNat in
theorem b63_1 (ap np mp:Nat) (tp:NI) (aq nq mq:Nat) (tq:NI) (Kst:KS) (Kret:KR) (x:St63⊕Rt63) (hS:HS 2 400 ((I63 ap np mp tp aq nq mq tq)) Kst x) (hR:HR 2 400 ((V63 ap np mp tp aq nq mq tq)) (J63 ap np mp tp aq nq mq tq) Kret x) (x0 x1:Int) (h:q63 ap np mp tp aq nq mq tq (.h1 x0 x1)=some x):T63_1 cond Kst Kret ap np mp tp aq nq mq tq x0 x1:=by
  unfold T63_1
  rw [q63] at h
  exact bif_split h (fun c0 h=>bif_split h (fun c1 h=>no_some h) (fun c1 h=>stop_at hS _ h (fun n=>n) rfl rfl rfl ⟨(rn_unk _),⟨(rn_unk _),⟨(rn_int rfl),⟨(rn_int rfl),trivial⟩⟩⟩⟩ rfl (entl_bor (use_lo rfl) rfl rfl (entl_bor (use_lo rfl) rfl rfl entl_nil)))) (fun c0 h=>bif_split h (fun c1 h=>ret_at hR _ h (fun n=>bif Nat.beq n 3 then 3 else n) rfl rfl rfl (rn_own (use_own rfl) rfl rfl) rfl (entl_new (use_own rfl) rfl (Nat.le_of_eq rfl) (rcs_int (fun _ _=>rfl) rcs_nil) (entl_bor (use_lo rfl) rfl rfl (entl_bor (use_lo rfl) rfl rfl entl_nil)))) (fun c1 h=>no_some h))
theorem a63 (ap np mp:Nat) (tp:NI) (aq nq mq:Nat) (tq:NI) {r:Rt63} (h:Goes ((q63 ap np mp tp aq nq mq tq)) ((p63 ap np mp tp aq nq mq tq)) r):CallR Tryd.prog 63 [.loose ⟨0,1,ap,0⟩ np,.loose ⟨1,1,aq,0⟩ nq] [[(0,(false,.cols mp [.int .i64 tp])),(1,(false,.cols mq [.int .i64 tq]))]] 2 ((V63 ap np mp tp aq nq mq tq) r) ((J63 ap np mp tp aq nq mq tq) r) 400∧ ∃ F,Tryd.prog.funcs[63]? =some F∧F.body.isSome=true∧(F.name== "runtime.NumGoroutine")=false:=by
  refine dec_calls (f:=63) (lo:=2) (hi:=400) Tryd.envOk Tryd.mixed xG5_ok ((I63 ap np mp tp aq nq mq tq)) ((V63 ap np mp tp aq nq mq tq)) (J63 ap np mp tp aq nq mq tq) (fn:=mkFn Tryd.f63) (ts:= [0,1,11,12]) (n:=400) rfl (by decide) (by simp) (names_of rfl) ?_ ?_ ?_ h
  · intro s; cases s<;>exact ⟨hd_ok _ _,by simp [I63],names_of rfl,Nat.le_of_ble_eq_true rfl⟩
  · intro Kst Kret x hS hR h
    exact Holds.eq (te63 cond Kst Kret ap np mp tp aq nq mq tq) (be63 ap np mp tp aq nq mq tq Kst Kret x hS hR h)
  · intro Kst Kret x hS hR s h
    cases s with
    |h0 x0 x1=>exact Holds.eq (t63_0 cond Kst Kret ap np mp tp aq nq mq tq x0 x1) (b63_0 ap np mp tp aq nq mq tq Kst Kret x hS hR x0 x1 h)
    |h1 x0 x1=>exact Holds.eq (t63_1 cond Kst Kret ap np mp tp aq nq mq tq x0 x1) (b63_1 ap np mp tp aq nq mq tq Kst Kret x hS hR x0 x1 h)
noncomputable abbrev w63 {α:Type} (g:Nat→Nat→Nat→(Nat→Int)→Nat→Nat→Nat→(Nat→Int)→α) (x:(Nat×Nat×Nat×(Nat→Int)×Unit)×(Nat×Nat×Nat×(Nat→Int)×Unit)×Unit):α:=g x.1.1 x.1.2.1 x.1.2.2.1 x.1.2.2.2.1 x.2.1.1 x.2.1.2.1 x.2.1.2.2.1 x.2.1.2.2.2.1
noncomputable def k63:Con:=⟨63,[.one (.list [.int .i64]),.one (.list [.int .i64])],w63 (fun ap np mp tp aq nq mq tq=>decide ((ap+np≤mp∧aq+nq≤mq)∧(np≤800∧nq≤800)∧S.okG np (fun j=>tp (j+ap))=true∧S.okG nq (fun j=>tq (j+aq))=true)),w63 (fun ap np mp tp aq nq mq tq=>(V63 ap np mp tp aq nq mq tq) (S.grp (S.gcdV (S.val np (fun j=>tp (j+ap))) (S.val nq (fun j=>tq (j+aq)))))),w63 (fun ap np mp tp aq nq mq tq=>(N63 ap np mp tp aq nq mq tq) (S.grp (S.gcdV (S.val np (fun j=>tp (j+ap))) (S.val nq (fun j=>tq (j+aq)))))),fun _ _=> .dead⟩
theorem s63e (ap np mp:Nat) (tp:Nat→Int) (aq nq mq:Nat) (tq:Nat→Int): ∀ (k:Nat) (x y:Int),y.toNat<k→(0≤x∧x<9223372036854775808)→(0≤y∧y<9223372036854775808)→Comes (q63 ap np mp tp aq nq mq tq) (.h1 x y) (S.grp (S.gcdV x y)):=by
  intro k
  induction k with
  |zero=>intro x y h; omega
  | succ k ih=>
    intro x y h hx hy
    apply Comes.of
    rw [q63]
    by_cases h0:y>0
    · have m0:=Int.emod_nonneg x (show y≠0 by omega)
      have m1:=Int.emod_lt_of_pos x h0
      have hm:=ih y (x % y) (by omega) hy (by omega)
      rw [gcdV_mod,← Int.tmod_eq_emod_of_nonneg hx.1] at hm
      with_reducible refine goes_ok (decide_eq_true h0) ?_
      with_reducible refine goes_no ?_ ?_
      · exact decide_eq_false (by omega)
      exact hm
    · obtain rfl:y=0:=by omega
      rw [gcdV_zero hx.1]
      with_reducible refine goes_no ?_ ?_
      · exact decide_eq_false h0
      rw [wrapU hx]
      with_reducible refine goes_ok ?_ ?_
      · apply decide_eq_true; omega
      exact goes_inr.mpr rfl
theorem s63' (ap np mp:Nat) (tp:Nat→Int) (aq nq mq:Nat) (tq:Nat→Int): ∀ (k:Nat) (A B:Int),B.toNat<k→0≤B→B≤A→A<S.pw 900→Comes (q63 ap np mp tp aq nq mq tq) (.h0 (S.grp A) (S.grp B)) (S.grp (S.gcdV A B)):=by
  intro k
  induction k with
  |zero=>intro A B h; omega
  | succ k ih=>
    intro A B h h0 h1 h2
    have lA:=grp_le (v:=A) (n:=900) h2
    have lB:=grp_le (v:=B) (n:=900) (by omega)
    have vA:=val_grpL (v:=A) (by omega)
    have vB:=val_grpL (v:=B) h0
    have oA:(S.okG (S.grp A).length (fun j=>S.at' (S.grp A) j))=true:=grp_ok
    have oB:(S.okG (S.grp B).length (fun j=>S.at' (S.grp B) j))=true:=grp_ok
    have lBA:(S.grp B).length≤(S.grp A).length:=by
      refine grp_le (Int.lt_of_le_of_lt h1 ?_)
      have:=val_lt (okG_D oA) (Nat.le_refl _)
      rw [vA] at this
      exact this
    have fin: ¬ ((S.grp A).length>3∧(S.grp B).length>0)→Goes (q63 ap np mp tp aq nq mq tq) (bif ((((S.grp B).length:Nat):Int)==0) then (some (.inr (S.grp A))) else (bif decide (0+(S.grp A).length≤(S.grp A).length∧(S.grp A).length≤1000∧(S.okD (S.grp A).length (fun j=>S.at' (S.grp A) j))=true∧(0:Int)≤0∧(0:Int)≤1000) then (bif decide (0+(S.grp B).length≤(S.grp B).length∧(S.grp B).length≤1000∧(S.okD (S.grp B).length (fun j=>S.at' (S.grp B) j))=true∧(0:Int)≤0∧(0:Int)≤1000) then (some (.inl (.h1 (S.valF (fun j=>S.at' (S.grp A) j) 0 (min (S.grp A).length 3)) (S.valF (fun j=>S.at' (S.grp B) j) 0 (min (S.grp B).length 3))))) else none) else none)) (S.grp (S.gcdV A B)):=by
      intro hn
      by_cases hB:(S.grp B).length=0
      · have e:B=0:=by have:=len_zero.mp hB; omega
        rw [e,gcdV_zero (by omega)]
        with_reducible refine goes_ok ?_ ?_
        · rw [grp_neg (by omega)]; rfl
        exact goes_inr.mpr rfl
      · have l3:(S.grp A).length≤3:=by omega
        rw [Nat.min_eq_left l3,Nat.min_eq_left (Nat.le_trans lBA l3)]
        have p3:S.pw 3=1000000000000000000:=rfl
        have wA:=val_lt (okG_D oA) l3
        rw [vA] at wA
        have hm:=s63e ap np mp tp aq nq mq tq (B.toNat+1) A B (by omega) ⟨by omega,by omega⟩ ⟨h0,by omega⟩
        have eA:S.valF (fun j=>S.at' (S.grp A) j) 0 (S.grp A).length=A:=vA
        have eB:S.valF (fun j=>S.at' (S.grp B) j) 0 (S.grp B).length=B:=vB
        rw [eA,eB]
        with_reducible refine goes_no ?_ ?_
        · rw [beq_eq_false_iff_ne]; omega
        with_reducible refine goes_ok ?_ ?_
        · exact decide_eq_true ⟨by omega,by omega,okG_D oA,by omega,by omega⟩
        with_reducible refine goes_ok ?_ ?_
        · exact decide_eq_true ⟨by omega,by omega,okG_D oB,by omega,by omega⟩
        exact hm
    apply Comes.of
    rw [q63]
    by_cases g3:(S.grp A).length>3
    · with_reducible refine goes_ok ?_ ?_
      · apply decide_eq_true; omega
      by_cases gB:(S.grp B).length>0
      · with_reducible refine goes_ok ?_ ?_
        · apply decide_eq_true; omega
        have Bp:0<B:=by
          refine Int.not_le.mp fun h=> ?_
          have:=len_zero.mpr h
          omega
        have hBA:S.val (S.grp B).length (fun j=>S.at' (S.grp B) j)≤S.val (S.grp A).length (fun j=>S.at' (S.grp A) j):=by rw [vA,vB]; exact h1
        obtain ⟨xy1,xy2,xy3⟩:=lead_xy g3 lBA (okG_D oA) (okG_D oB) hBA
        rw [vA] at xy1
        rw [vB] at xy2
        with_reducible refine goes_ok ?_ ?_
        · exact decide_eq_true ⟨⟨by omega,by omega⟩,⟨g3,lA,lBA⟩,okG_D oA,okG_D oB,hBA⟩
        clear fin
        obtain ⟨p,q,r,s,hs⟩: ∃ p q r s,c63_0_3 (S.grp A) (S.grp B)=(p,q,r,s):=⟨_,_,_,_,rfl⟩
        have lb:=lead_b xy3 hs
        have hs':=hs
        unfold c63_0_3 at hs'
        rw [hs]
        by_cases hq:q=0
        · have m1:=Int.emod_lt_of_pos A Bp
          have m0:=Int.emod_nonneg A (show B≠0 by omega)
          have hm:=ih B (A % B) (by omega) m0 (by omega) (by omega)
          rw [gcdV_mod] at hm
          with_reducible refine goes_ok ?_ ?_
          · rw [hq]; rfl
          with_reducible refine goes_ok ?_ ?_
          · exact decide_eq_true ⟨⟨by omega,by omega⟩,⟨lA,lB⟩,oA,oB,gB⟩
          rw [vA,vB]
          exact hm
        · obtain ⟨⟨k1,k2,k3,k4⟩,k5⟩:=lead_ok pw_pos xy1 xy2 xy3 hs hq
          have hm:=ih (p*A+q*B) (r*A+s*B) (by omega) k1 k3 (by omega)
          have e5:S.gcdV (p*A+q*B) (r*A+s*B)=S.gcdV A B:=by unfold S.gcdV; rw [k5]
          rw [e5] at hm
          with_reducible refine goes_no ?_ ?_
          · rw [beq_eq_false_iff_ne]; exact hq
          with_reducible refine goes_ok ?_ ?_
          · unfold c63_0_2; (try unfold c63_0_0); rw [hs',vA,vB]; refine decide_eq_true ?_; dsimp only; exact ⟨⟨by omega,by omega⟩,⟨lA,lBA⟩,⟨okG_D oA,okG_D oB⟩,lb.1,lb.2.1,by omega,by omega⟩
          with_reducible refine goes_ok ?_ ?_
          · unfold c63_0_1; (try unfold c63_0_0); rw [hs',vA,vB]; refine decide_eq_true ?_; dsimp only; exact ⟨⟨by omega,by omega⟩,⟨lA,lBA⟩,⟨okG_D oA,okG_D oB⟩,lb.2.2.1,lb.2.2.2,by omega,by omega⟩
          rw [vA,vB]
          exact hm
      · with_reducible refine goes_no ?_ ?_
        · apply decide_eq_false; omega
        exact fin (by omega)
    · with_reducible refine goes_no ?_ ?_
      · apply decide_eq_false; omega
      exact fin (by omega)
theorem s63 (ap np mp:Nat) (tp:Nat→Int) (aq nq mq:Nat) (tq:Nat→Int) (hp:(ap+np≤mp∧aq+nq≤mq)∧(np≤800∧nq≤800)∧S.okG np (fun j=>tp (j+ap))=true∧S.okG nq (fun j=>tq (j+aq))=true):Goes ((q63 ap np mp tp aq nq mq tq)) ((p63 ap np mp tp aq nq mq tq)) (S.grp (S.gcdV (S.val np (fun j=>tp (j+ap))) (S.val nq (fun j=>tq (j+aq))))):=by
  obtain ⟨⟨hp1,hp2⟩,⟨hp3,hp4⟩,g1,g2⟩:=hp
  have v1:=val_nn (okG_D g1)
  have v2:=val_nn (okG_D g2)
  have w1:=val_lt (okG_D g1) (show np≤900 by omega)
  have w2:=val_lt (okG_D g2) (show nq≤900 by omega)
  have eP:S.mkl np (fun j=>tp (j+ap))=S.grp (S.val np (fun j=>tp (j+ap))):=by rw [← trim_mkl (okG_D g1)]; exact mkl_G g1
  have eQ:S.mkl nq (fun j=>tq (j+aq))=S.grp (S.val nq (fun j=>tq (j+aq))):=by rw [← trim_mkl (okG_D g2)]; exact mkl_G g2
  unfold p63
  with_reducible refine goes_ok ?_ ?_
  · exact decide_eq_true ⟨hp1,by omega⟩
  with_reducible refine goes_ok ?_ ?_
  · exact decide_eq_true ⟨hp2,by omega⟩
  with_reducible refine goes_ok ?_ ?_
  · exact decide_eq_true ⟨by omega,by omega,by omega,by omega,g1,g2⟩
  by_cases h:(S.val np (fun j=>tp (j+ap)))<(S.val nq (fun j=>tq (j+aq)))
  · have hm:=s63' ap np mp tp aq nq mq tq ((S.val np (fun j=>tp (j+ap))).toNat+1) (S.val nq (fun j=>tq (j+aq))) (S.val np (fun j=>tp (j+ap))) (by omega) v1 (by omega) w2
    rw [gcdV_comm,← eP,← eQ] at hm
    with_reducible refine goes_ok ?_ ?_
    · refine decide_eq_true ?_
      unfold S.cmpS; rw [if_pos h]; decide
    exact hm
  · have hm:=s63' ap np mp tp aq nq mq tq ((S.val nq (fun j=>tq (j+aq))).toNat+1) (S.val np (fun j=>tp (j+ap))) (S.val nq (fun j=>tq (j+aq))) (by omega) v2 (by omega) w1
    rw [← eP,← eQ] at hm
    with_reducible refine goes_no ?_ ?_
    · refine decide_eq_false ?_
      unfold S.cmpS; rw [if_neg h]; split<;>decide
    exact hm
theorem k63_ok:k63.ok Tryd.prog:=by
  intro x hx
  obtain ⟨⟨ap,np,mp,tp,_⟩,⟨aq,nq,mq,tq,_⟩,_⟩:=x
  obtain ⟨h1,h2⟩:=a63 ap np mp tp aq nq mq tq (s63 ap np mp tp aq nq mq tq (of_dec hx rfl))
  exact ⟨⟨400,(by decide:2+1+1≤400),h1⟩,h2⟩
noncomputable def xG6 (test:Bool→Prop→Prop→Prop):Ext:=consX test [k63,k18]
theorem xG6_ok:ExtOk Tryd.prog (xG6 cond):=consX_ok ⟨k63_ok,k18_ok,trivial⟩
noncomputable def xG7 (test:Bool→Prop→Prop→Prop):Ext:=consX test [k57,k46,k18,k19]
theorem xG7_ok:ExtOk Tryd.prog (xG7 cond):=consX_ok ⟨k57_ok,k46_ok,k18_ok,k19_ok,trivial⟩
namespace S
noncomputable def gcdS (n1:Bool) (n:Nat) (t:Nat→Int) (n2:Bool) (m:Nat) (u:Nat→Int):Bool×Int×List Int:=if okI n1 n t=true∧okI n2 m u=true then (false,0,grp (gcdV (val n t) (val m u))) else (false,1,[])
end S
inductive St35 where
  |h0
  |h1 (x0:List Int)
  |h2 (x0:Nat) (x1:Nat) (x2:List Int) (x3:List Int)
abbrev Rt35:=Bool×Int×List Int
noncomputable def V35 (n1:Bool) (ap np mp:Nat) (tp:NI) (n2:Bool) (aq nq mq:Nat) (tq:NI) (r:Rt35):PV:=PV.tup [PV.agg [PV.bool r.1,PV.own (3) (1) (List.length r.2.2)],PV.int .i64 r.2.1]
noncomputable def N35 (n1:Bool) (ap np mp:Nat) (tp:NI) (n2:Bool) (aq nq mq:Nat) (tq:NI) (r:Rt35):List Blk:= [Blk.cols (List.length r.2.2) [Col.int .i64 fun j=>S.at' r.2.2 j]]
noncomputable def I35 (n1:Bool) (ap np mp:Nat) (tp:NI) (n2:Bool) (aq nq mq:Nat) (tq:NI):St35→Hd
  | .h0=>⟨hd Tryd.f35 0,[PV.ptr (PA.mk (2) (0) (0) (0)),
 PV.loose (PA.mk (0) (1) ap (0)) np,
 PV.loose (PA.mk (1) (1) aq (0)) nq],[[(2,(true,Blk.cells [PV.tf false,PV.nils]))],[(0,(false,.cols mp [.int .i64 tp])),(1,(false,.cols mq [.int .i64 tq]))]],3⟩
  | .h1 x0=>⟨hd Tryd.f35 0,[PV.ptr (PA.mk (2) (0) (0) (0)),
 PV.loose (PA.mk (1) (1) aq (0)) nq,
 PV.loose (PA.mk (3) (1) (0) (0))
 (List.length
 (S.grp ((S.val np fun j=>tp (j+ap)) % S.val nq fun j=>tq (j+aq))))],[[(2,(true,Blk.cells [PV.tf false,PV.nils])),(3,(true,Blk.cols (List.length x0) [Col.int .i64 fun j=>S.at' x0 j]))],[(0,(false,.cols mp [.int .i64 tp])),(1,(false,.cols mq [.int .i64 tq]))]],4⟩
  | .h2 x0 x1 x2 x3=>⟨hd Tryd.f35 0,[PV.ptr (PA.mk (2) (0) (0) (0)),
 PV.loose (PA.mk (3) (1) (0) (0)) x0,
 PV.loose (PA.mk (4) (1) (0) (0)) x1],[[(2,(true,Blk.cells [PV.tf false,PV.nils])),(3,(true,Blk.cols (List.length x2) [Col.int .i64 fun j=>S.at' x2 j])),(4,(true,Blk.cols (List.length x3) [Col.int .i64 fun j=>S.at' x3 j]))],[(0,(false,.cols mp [.int .i64 tp])),(1,(false,.cols mq [.int .i64 tq]))]],5⟩
noncomputable def q35 (n1:Bool) (ap np mp:Nat) (tp:NI) (n2:Bool) (aq nq mq:Nat) (tq:NI):St35→Option (St35⊕Rt35)| .h0=>bif (decide ((↑nq:Int)>0)) then (bif (decide ((ap+np≤mp∧aq+nq≤mq)∧(np≤900∧nq≤900)∧(S.okG np fun j=>tp (j+ap))=true∧(S.okG nq fun j=>tq (j+aq))=true∧0<nq)) then (some (.inl (.h1 (S.grp ((S.val np fun j=>tp (j+ap)) % S.val nq fun j=>tq (j+aq)))))) else (none)) else (bif (decide (ap+np≤mp∧np≤1000000∧(S.okD np fun j=>tp (j+ap))=true)) then (some (.inr (S.sgB false (S.val np fun j=>tp (j+ap)),(0:Int),S.grp (S.val np fun j=>tp (j+ap))))) else (none))| .h1 x0=>bif (decide ((↑(List.length (S.grp ((S.val np fun j=>tp (j+ap)) % S.val nq fun j=>tq (j+aq)))):Int)>0)) then (bif (decide ((aq+nq≤mq∧0+List.length (S.grp ((S.val np fun j=>tp (j+ap)) % S.val nq fun j=>tq (j+aq)))≤List.length x0)∧(nq≤900∧List.length (S.grp ((S.val np fun j=>tp (j+ap)) % S.val nq fun j=>tq (j+aq)))≤900)∧(S.okG nq fun j=>tq (j+aq))=true∧(S.okG (List.length (S.grp ((S.val np fun j=>tp (j+ap)) % S.val nq fun j=>tq (j+aq)))) fun j=>S.at' x0 j)=true∧0<List.length (S.grp ((S.val np fun j=>tp (j+ap)) % S.val nq fun j=>tq (j+aq))))) then (some (.inl (.h2 (List.length (S.grp ((S.val np fun j=>tp (j+ap)) % S.val nq fun j=>tq (j+aq)))) (List.length (S.grp ((S.val nq fun j=>tq (j+aq)) % S.val (List.length (S.grp ((S.val np fun j=>tp (j+ap)) % S.val nq fun j=>tq (j+aq)))) fun j=>S.at' x0 j))) (x0) (S.grp ((S.val nq fun j=>tq (j+aq)) % S.val (List.length (S.grp ((S.val np fun j=>tp (j+ap)) % S.val nq fun j=>tq (j+aq)))) fun j=>S.at' x0 j))))) else (none)) else (bif (decide (aq+nq≤mq∧nq≤1000000∧(S.okD nq fun j=>tq (j+aq))=true)) then (some (.inr (S.sgB false (S.val nq fun j=>tq (j+aq)),(0:Int),S.grp (S.val nq fun j=>tq (j+aq))))) else (none))| .h2 x0 x1 x2 x3=>bif (decide ((↑x1:Int)>0)) then (bif (decide ((0+x0≤List.length x2∧0+x1≤List.length x3)∧(x0≤900∧x1≤900)∧(S.okG x0 fun j=>S.at' x2 j)=true∧(S.okG x1 fun j=>S.at' x3 j)=true∧0<x1)) then (some (.inl (.h2 (x1) (List.length (S.grp ((S.val x0 fun j=>S.at' x2 j) % S.val x1 fun j=>S.at' x3 j))) (x3) (S.grp ((S.val x0 fun j=>S.at' x2 j) % S.val x1 fun j=>S.at' x3 j))))) else (none)) else (bif (decide (0+x0≤List.length x2∧x0≤1000000∧(S.okD x0 fun j=>S.at' x2 j)=true)) then (some (.inr (S.sgB false (S.val x0 fun j=>S.at' x2 j),(0:Int),S.grp (S.val x0 fun j=>S.at' x2 j)))) else (none))
noncomputable def p35 (n1:Bool) (ap np mp:Nat) (tp:NI) (n2:Bool) (aq nq mq:Nat) (tq:NI):Option (St35⊕Rt35):=bif (decide (ap+np≤mp∧np≤1000000)) then (bif (S.okI n1 np fun j=>tp (j+ap)) then (bif (decide (aq+nq≤mq∧nq≤1000000)) then (bif (S.okI n2 nq fun j=>tq (j+aq)) then (some (.inl (.h0))) else (some (.inr (false,(1:Int),[])))) else (none)) else (some (.inr (false,(1:Int),[])))) else (none)
noncomputable def Te35 (test:TT) (Kst:KS) (Kret:KR) (n1:Bool) (ap np mp:Nat) (tp:NI) (n2:Bool) (aq nq mq:Nat) (tq:NI):Prop:=test (decide (ap+np≤mp∧np≤1000000)) (test (S.okI n1 np fun j=>tp (j+ap)) (test (decide (aq+nq≤mq∧nq≤1000000)) (test (S.okI n2 nq fun j=>tq (j+aq)) (Kst (hd Tryd.f35 0) ([PV.ptr (PA.mk (4) (0) (0) (0)),PV.loose (PA.mk (0) (1) ap (0)) np,PV.loose (PA.mk (1) (1) aq (0)) nq]) ([[(1,false,Blk.cols mq [Col.int .i64 tq]),(0,false,Blk.cols mp [Col.int .i64 tp]),(4,true,Blk.cells [PV.tf false,PV.nils])]]) (7)) (Kret (PV.tup [PV.agg [PV.tf false,PV.nils],PV.int .i64 (1:Int)]) ([[(1,false,Blk.cols mq [Col.int .i64 tq]),(0,false,Blk.cols mp [Col.int .i64 tp])]]) (7))) (False)) (Kret (PV.tup [PV.agg [PV.tf false,PV.nils],PV.int .i64 (1:Int)]) ([[(1,false,Blk.cols mq [Col.int .i64 tq]),(0,false,Blk.cols mp [Col.int .i64 tp])]]) (6))) (False)
theorem te35 (test:TT) (Kst:KS) (Kret:KR) (n1:Bool) (ap np mp:Nat) (tp:NI) (n2:Bool) (aq nq mq:Nat) (tq:NI):run test Tryd.env true (xG7 test) true 400 ⟨35,[.cd (mkFn Tryd.f35).body],argT 0 [.agg [.bool n1,.loose ⟨0,1,ap,0⟩ np],.agg [.bool n2,.loose ⟨1,1,aq,0⟩ nq]],[[],[(0,(false,.cols mp [.int .i64 tp])),(1,(false,.cols mq [.int .i64 tq]))]],2⟩ (proj 2 [4,6,7] Kst Kret)=
  Te35 test Kst Kret n1 ap np mp tp n2 aq nq mq tq:=by kernel_rfl
noncomputable def T35_0 (test:TT) (Kst:KS) (Kret:KR) (n1:Bool) (ap np mp:Nat) (tp:NI) (n2:Bool) (aq nq mq:Nat) (tq:NI):Prop:=test (decide ((↑nq:Int)>0)) (test (decide ((ap+np≤mp∧aq+nq≤mq)∧(np≤900∧nq≤900)∧(S.okG np fun j=>tp (j+ap))=true∧(S.okG nq fun j=>tq (j+aq))=true∧0<nq)) (Kst (hd Tryd.f35 0) ([PV.ptr (PA.mk (2) (0) (0) (0)),PV.loose (PA.mk (1) (1) aq (0)) nq,PV.loose (PA.mk (5) (1) (0) (0)) (List.length (S.grp ((S.val np fun j=>tp (j+ap)) % S.val nq fun j=>tq (j+aq))))]) ([[(1,false,Blk.cols mq [Col.int .i64 tq]),(0,false,Blk.cols mp [Col.int .i64 tp]),(5,true,Blk.cols (List.length (S.grp ((S.val np fun j=>tp (j+ap)) % S.val nq fun j=>tq (j+aq)))) [Col.int .i64 fun j=>S.at' (S.grp ((S.val np fun j=>tp (j+ap)) % S.val nq fun j=>tq (j+aq))) j]),(2,true,Blk.cells [PV.tf false,PV.nils])]]) (6)) (False)) (test (decide (ap+np≤mp∧np≤1000000∧(S.okD np fun j=>tp (j+ap))=true)) (Kret (PV.tup [PV.agg [PV.bool (S.sgB false (S.val np fun j=>tp (j+ap))),PV.own (4) (1) (List.length (S.grp (S.val np fun j=>tp (j+ap))))],PV.int .i64 (0:Int)]) ([[(1,false,Blk.cols mq [Col.int .i64 tq]),(0,false,Blk.cols mp [Col.int .i64 tp]),(4,true,Blk.cols (List.length (S.grp (S.val np fun j=>tp (j+ap)))) [Col.int .i64 fun j=>S.at' (S.grp (S.val np fun j=>tp (j+ap))) j])]]) (5)) (False))
theorem t35_0 (test:TT) (Kst:KS) (Kret:KR) (n1:Bool) (ap np mp:Nat) (tp:NI) (n2:Bool) (aq nq mq:Nat) (tq:NI):run test Tryd.env true (xG7 test) true 400 ⟨35,hd Tryd.f35 0,zipT [4,6,7] [PV.ptr (PA.mk (2) (0) (0) (0)),
 PV.loose (PA.mk (0) (1) ap (0)) np,
 PV.loose (PA.mk (1) (1) aq (0)) nq],[[(2,(true,Blk.cells [PV.tf false,PV.nils]))],[(0,(false,.cols mp [.int .i64 tp])),(1,(false,.cols mq [.int .i64 tq]))]],3⟩ (proj 2 [4,6,7] Kst Kret)=
  T35_0 test Kst Kret n1 ap np mp tp n2 aq nq mq tq:=by kernel_rfl
noncomputable def T35_1 (test:TT) (Kst:KS) (Kret:KR) (n1:Bool) (ap np mp:Nat) (tp:NI) (n2:Bool) (aq nq mq:Nat) (tq:NI) (x0:List Int):Prop:=test (decide ((↑(List.length (S.grp ((S.val np fun j=>tp (j+ap)) % S.val nq fun j=>tq (j+aq)))):Int)>0)) (test (decide ((aq+nq≤mq∧0+List.length (S.grp ((S.val np fun j=>tp (j+ap)) % S.val nq fun j=>tq (j+aq)))≤List.length x0)∧(nq≤900∧List.length (S.grp ((S.val np fun j=>tp (j+ap)) % S.val nq fun j=>tq (j+aq)))≤900)∧(S.okG nq fun j=>tq (j+aq))=true∧(S.okG (List.length (S.grp ((S.val np fun j=>tp (j+ap)) % S.val nq fun j=>tq (j+aq)))) fun j=>S.at' x0 j)=true∧0<List.length (S.grp ((S.val np fun j=>tp (j+ap)) % S.val nq fun j=>tq (j+aq))))) (Kst (hd Tryd.f35 0) ([PV.ptr (PA.mk (2) (0) (0) (0)),PV.loose (PA.mk (3) (1) (0) (0)) (List.length (S.grp ((S.val np fun j=>tp (j+ap)) % S.val nq fun j=>tq (j+aq)))),PV.loose (PA.mk (6) (1) (0) (0)) (List.length (S.grp ((S.val nq fun j=>tq (j+aq)) % S.val (List.length (S.grp ((S.val np fun j=>tp (j+ap)) % S.val nq fun j=>tq (j+aq)))) fun j=>S.at' x0 j)))]) ([[(1,false,Blk.cols mq [Col.int .i64 tq]),(0,false,Blk.cols mp [Col.int .i64 tp]),(6,true,Blk.cols (List.length (S.grp ((S.val nq fun j=>tq (j+aq)) % S.val (List.length (S.grp ((S.val np fun j=>tp (j+ap)) % S.val nq fun j=>tq (j+aq)))) fun j=>S.at' x0 j))) [Col.int .i64 fun j=>S.at' (S.grp ((S.val nq fun j=>tq (j+aq)) % S.val (List.length (S.grp ((S.val np fun j=>tp (j+ap)) % S.val nq fun j=>tq (j+aq)))) fun j=>S.at' x0 j)) j]),(3,true,Blk.cols (List.length x0) [Col.int .i64 fun j=>S.at' x0 j]),(2,true,Blk.cells [PV.tf false,PV.nils])]]) (7)) (False)) (test (decide (aq+nq≤mq∧nq≤1000000∧(S.okD nq fun j=>tq (j+aq))=true)) (Kret (PV.tup [PV.agg [PV.bool (S.sgB false (S.val nq fun j=>tq (j+aq))),PV.own (5) (1) (List.length (S.grp (S.val nq fun j=>tq (j+aq))))],PV.int .i64 (0:Int)]) ([[(1,false,Blk.cols mq [Col.int .i64 tq]),(0,false,Blk.cols mp [Col.int .i64 tp]),(5,true,Blk.cols (List.length (S.grp (S.val nq fun j=>tq (j+aq)))) [Col.int .i64 fun j=>S.at' (S.grp (S.val nq fun j=>tq (j+aq))) j])]]) (6)) (False))
theorem t35_1 (test:TT) (Kst:KS) (Kret:KR) (n1:Bool) (ap np mp:Nat) (tp:NI) (n2:Bool) (aq nq mq:Nat) (tq:NI) (x0:List Int):run test Tryd.env true (xG7 test) true 400 ⟨35,hd Tryd.f35 0,zipT [4,6,7] [PV.ptr (PA.mk (2) (0) (0) (0)),
 PV.loose (PA.mk (1) (1) aq (0)) nq,
 PV.loose (PA.mk (3) (1) (0) (0))
 (List.length
 (S.grp ((S.val np fun j=>tp (j+ap)) % S.val nq fun j=>tq (j+aq))))],[[(2,(true,Blk.cells [PV.tf false,PV.nils])),(3,(true,Blk.cols (List.length x0) [Col.int .i64 fun j=>S.at' x0 j]))],[(0,(false,.cols mp [.int .i64 tp])),(1,(false,.cols mq [.int .i64 tq]))]],4⟩ (proj 2 [4,6,7] Kst Kret)=
  T35_1 test Kst Kret n1 ap np mp tp n2 aq nq mq tq x0:=by kernel_rfl
noncomputable def T35_2 (test:TT) (Kst:KS) (Kret:KR) (n1:Bool) (ap np mp:Nat) (tp:NI) (n2:Bool) (aq nq mq:Nat) (tq:NI) (x0 x1:Nat) (x2 x3:List Int):Prop:=test (decide ((↑x1:Int)>0)) (test (decide ((0+x0≤List.length x2∧0+x1≤List.length x3)∧(x0≤900∧x1≤900)∧(S.okG x0 fun j=>S.at' x2 j)=true∧(S.okG x1 fun j=>S.at' x3 j)=true∧0<x1)) (Kst (hd Tryd.f35 0) ([PV.ptr (PA.mk (2) (0) (0) (0)),PV.loose (PA.mk (4) (1) (0) (0)) x1,PV.loose (PA.mk (7) (1) (0) (0)) (List.length (S.grp ((S.val x0 fun j=>S.at' x2 j) % S.val x1 fun j=>S.at' x3 j)))]) ([[(1,false,Blk.cols mq [Col.int .i64 tq]),(0,false,Blk.cols mp [Col.int .i64 tp]),(7,true,Blk.cols (List.length (S.grp ((S.val x0 fun j=>S.at' x2 j) % S.val x1 fun j=>S.at' x3 j))) [Col.int .i64 fun j=>S.at' (S.grp ((S.val x0 fun j=>S.at' x2 j) % S.val x1 fun j=>S.at' x3 j)) j]),(4,true,Blk.cols (List.length x3) [Col.int .i64 fun j=>S.at' x3 j]),(2,true,Blk.cells [PV.tf false,PV.nils])]]) (8)) (False)) (test (decide (0+x0≤List.length x2∧x0≤1000000∧(S.okD x0 fun j=>S.at' x2 j)=true)) (Kret (PV.tup [PV.agg [PV.bool (S.sgB false (S.val x0 fun j=>S.at' x2 j)),PV.own (6) (1) (List.length (S.grp (S.val x0 fun j=>S.at' x2 j)))],PV.int .i64 (0:Int)]) ([[(1,false,Blk.cols mq [Col.int .i64 tq]),(0,false,Blk.cols mp [Col.int .i64 tp]),(6,true,Blk.cols (List.length (S.grp (S.val x0 fun j=>S.at' x2 j))) [Col.int .i64 fun j=>S.at' (S.grp (S.val x0 fun j=>S.at' x2 j)) j])]]) (7)) (False))
theorem t35_2 (test:TT) (Kst:KS) (Kret:KR) (n1:Bool) (ap np mp:Nat) (tp:NI) (n2:Bool) (aq nq mq:Nat) (tq:NI) (x0 x1:Nat) (x2 x3:List Int):run test Tryd.env true (xG7 test) true 400 ⟨35,hd Tryd.f35 0,zipT [4,6,7] [PV.ptr (PA.mk (2) (0) (0) (0)),
 PV.loose (PA.mk (3) (1) (0) (0)) x0,
 PV.loose (PA.mk (4) (1) (0) (0)) x1],[[(2,(true,Blk.cells [PV.tf false,PV.nils])),(3,(true,Blk.cols (List.length x2) [Col.int .i64 fun j=>S.at' x2 j])),(4,(true,Blk.cols (List.length x3) [Col.int .i64 fun j=>S.at' x3 j]))],[(0,(false,.cols mp [.int .i64 tp])),(1,(false,.cols mq [.int .i64 tq]))]],5⟩ (proj 2 [4,6,7] Kst Kret)=
  T35_2 test Kst Kret n1 ap np mp tp n2 aq nq mq tq x0 x1 x2 x3:=by kernel_rfl
noncomputable abbrev J35 (n1:Bool) (ap np mp:Nat) (tp:NI) (n2:Bool) (aq nq mq:Nat) (tq:NI):Rt35→Heap:=fun r=> [newL (2+1) ((N35 n1 ap np mp tp n2 aq nq mq tq) r)++ [(0,(false,.cols mp [.int .i64 tp])),(1,(false,.cols mq [.int .i64 tq]))]]
attribute [local irreducible] Int.subNatNat in
theorem be35 (n1:Bool) (ap np mp:Nat) (tp:NI) (n2:Bool) (aq nq mq:Nat) (tq:NI) (Kst:KS) (Kret:KR) (x:St35⊕Rt35) (hS:HS 2 400 ((I35 n1 ap np mp tp n2 aq nq mq tq)) Kst x) (hR:HR 2 400 ((V35 n1 ap np mp tp n2 aq nq mq tq)) (J35 n1 ap np mp tp n2 aq nq mq tq) Kret x) (h:p35 n1 ap np mp tp n2 aq nq mq tq=some x):Te35 cond Kst Kret n1 ap np mp tp n2 aq nq mq tq:=by
  unfold Te35
  unfold p35 at h
  exact bif_split h (fun c0 h=>bif_split h (fun c1 h=>bif_split h (fun c2 h=>bif_split h (fun c3 h=>stop_at hS _ h (fun n=>bif Nat.beq n 2 then 4 else n) rfl rfl rfl ⟨(rn_ptr (use_own rfl) rfl rfl),⟨(rn_loose (use_lo rfl) rfl rfl rfl),⟨(rn_loose (use_lo rfl) rfl rfl rfl),trivial⟩⟩⟩ rfl (entl_b (use_own rfl) rfl (by simp) (rb_cells ⟨(rn_tf rfl),rn_nils,trivial⟩) (entl_bor (use_lo rfl) rfl rfl (entl_bor (use_lo rfl) rfl rfl entl_nil)))) (fun c3 h=>ret_at hR _ h (fun n=>bif Nat.beq n 3 then 399 else n) rfl rfl rfl (rn_tup ⟨(rn_agg ⟨(rn_bool_tf rfl),(rn_own_nils rfl),trivial⟩),(rn_int rfl),trivial⟩) rfl (entl_fresh (use_own rfl) (fresh_ok rfl) (entl_bor (use_lo rfl) rfl rfl (entl_bor (use_lo rfl) rfl rfl entl_nil))))) (fun c2 h=>no_some h)) (fun c1 h=>ret_at hR _ h (fun n=>bif Nat.beq n 3 then 399 else n) rfl rfl rfl (rn_tup ⟨(rn_agg ⟨(rn_bool_tf rfl),(rn_own_nils rfl),trivial⟩),(rn_int rfl),trivial⟩) rfl (entl_fresh (use_own rfl) (fresh_ok rfl) (entl_bor (use_lo rfl) rfl rfl (entl_bor (use_lo rfl) rfl rfl entl_nil))))) (fun c0 h=>no_some h)
attribute [local irreducible] Int.subNatNat in
theorem b35_0 (n1:Bool) (ap np mp:Nat) (tp:NI) (n2:Bool) (aq nq mq:Nat) (tq:NI) (Kst:KS) (Kret:KR) (x:St35⊕Rt35) (hS:HS 2 400 ((I35 n1 ap np mp tp n2 aq nq mq tq)) Kst x) (hR:HR 2 400 ((V35 n1 ap np mp tp n2 aq nq mq tq)) (J35 n1 ap np mp tp n2 aq nq mq tq) Kret x) (h:q35 n1 ap np mp tp n2 aq nq mq tq (.h0)=some x):T35_0 cond Kst Kret n1 ap np mp tp n2 aq nq mq tq:=by
  unfold T35_0
  rw [q35] at h
  exact bif_split h (fun c0 h=>bif_split h (fun c1 h=>stop_at hS _ h (fun n=>bif Nat.beq n 2 then 2 else bif Nat.beq n 3 then 5 else n) rfl rfl rfl ⟨(rn_ptr (use_own rfl) rfl rfl),⟨(rn_loose (use_lo rfl) rfl rfl rfl),⟨(rn_loose (use_own rfl) rfl rfl rfl),trivial⟩⟩⟩ rfl (entl_b (use_own rfl) rfl (by simp) (rb_cells ⟨(rn_tf rfl),rn_nils,trivial⟩) (entl_new (use_own rfl) rfl (Nat.le_of_eq rfl) (rcs_int (fun _ _=>rfl) rcs_nil) (entl_bor (use_lo rfl) rfl rfl (entl_bor (use_lo rfl) rfl rfl entl_nil))))) (fun c1 h=>no_some h)) (fun c0 h=>bif_split h (fun c1 h=>ret_at hR _ h (fun n=>bif Nat.beq n 3 then 4 else n) rfl rfl rfl (rn_tup ⟨(rn_agg ⟨(rn_bool rfl),(rn_own (use_own rfl) rfl rfl),trivial⟩),(rn_int rfl),trivial⟩) rfl (entl_new (use_own rfl) rfl (Nat.le_of_eq rfl) (rcs_int (fun _ _=>rfl) rcs_nil) (entl_bor (use_lo rfl) rfl rfl (entl_bor (use_lo rfl) rfl rfl entl_nil)))) (fun c1 h=>no_some h))
attribute [local irreducible] Int.subNatNat in
theorem b35_1 (n1:Bool) (ap np mp:Nat) (tp:NI) (n2:Bool) (aq nq mq:Nat) (tq:NI) (Kst:KS) (Kret:KR) (x:St35⊕Rt35) (hS:HS 2 400 ((I35 n1 ap np mp tp n2 aq nq mq tq)) Kst x) (hR:HR 2 400 ((V35 n1 ap np mp tp n2 aq nq mq tq)) (J35 n1 ap np mp tp n2 aq nq mq tq) Kret x) (x0:List Int) (h:q35 n1 ap np mp tp n2 aq nq mq tq (.h1 x0)=some x):T35_1 cond Kst Kret n1 ap np mp tp n2 aq nq mq tq x0:=by
  unfold T35_1
  rw [q35] at h
  exact bif_split h (fun c0 h=>bif_split h (fun c1 h=>stop_at hS _ h (fun n=>bif Nat.beq n 2 then 2 else bif Nat.beq n 3 then 3 else bif Nat.beq n 4 then 6 else n) rfl rfl rfl ⟨(rn_ptr (use_own rfl) rfl rfl),⟨(rn_loose (use_own rfl) rfl rfl rfl),⟨(rn_loose (use_own rfl) rfl rfl rfl),trivial⟩⟩⟩ rfl (entl_b (use_own rfl) rfl (by simp) (rb_cells ⟨(rn_tf rfl),rn_nils,trivial⟩) (entl_new (use_own rfl) rfl (Nat.le_of_eq rfl) (rcs_int (fun _ _=>rfl) rcs_nil) (entl_new (use_own rfl) rfl (Nat.le_of_eq rfl) (rcs_int (fun _ _=>rfl) rcs_nil) (entl_bor (use_lo rfl) rfl rfl (entl_bor (use_lo rfl) rfl rfl entl_nil)))))) (fun c1 h=>no_some h)) (fun c0 h=>bif_split h (fun c1 h=>ret_at hR _ h (fun n=>bif Nat.beq n 3 then 5 else n) rfl rfl rfl (rn_tup ⟨(rn_agg ⟨(rn_bool rfl),(rn_own (use_own rfl) rfl rfl),trivial⟩),(rn_int rfl),trivial⟩) rfl (entl_new (use_own rfl) rfl (Nat.le_of_eq rfl) (rcs_int (fun _ _=>rfl) rcs_nil) (entl_bor (use_lo rfl) rfl rfl (entl_bor (use_lo rfl) rfl rfl entl_nil)))) (fun c1 h=>no_some h))
attribute [local irreducible] Int.subNatNat in
theorem b35_2 (n1:Bool) (ap np mp:Nat) (tp:NI) (n2:Bool) (aq nq mq:Nat) (tq:NI) (Kst:KS) (Kret:KR) (x:St35⊕Rt35) (hS:HS 2 400 ((I35 n1 ap np mp tp n2 aq nq mq tq)) Kst x) (hR:HR 2 400 ((V35 n1 ap np mp tp n2 aq nq mq tq)) (J35 n1 ap np mp tp n2 aq nq mq tq) Kret x) (x0 x1:Nat) (x2 x3:List Int) (h:q35 n1 ap np mp tp n2 aq nq mq tq (.h2 x0 x1 x2 x3)=some x):T35_2 cond Kst Kret n1 ap np mp tp n2 aq nq mq tq x0 x1 x2 x3:=by
  unfold T35_2
  rw [q35] at h
  exact bif_split h (fun c0 h=>bif_split h (fun c1 h=>stop_at hS _ h (fun n=>bif Nat.beq n 2 then 2 else bif Nat.beq n 3 then 4 else bif Nat.beq n 4 then 7 else n) rfl rfl rfl ⟨(rn_ptr (use_own rfl) rfl rfl),⟨(rn_loose (use_own rfl) rfl rfl rfl),⟨(rn_loose (use_own rfl) rfl rfl rfl),trivial⟩⟩⟩ rfl (entl_b (use_own rfl) rfl (by simp) (rb_cells ⟨(rn_tf rfl),rn_nils,trivial⟩) (entl_new (use_own rfl) rfl (Nat.le_of_eq rfl) (rcs_int (fun _ _=>rfl) rcs_nil) (entl_new (use_own rfl) rfl (Nat.le_of_eq rfl) (rcs_int (fun _ _=>rfl) rcs_nil) (entl_bor (use_lo rfl) rfl rfl (entl_bor (use_lo rfl) rfl rfl entl_nil)))))) (fun c1 h=>no_some h)) (fun c0 h=>bif_split h (fun c1 h=>ret_at hR _ h (fun n=>bif Nat.beq n 3 then 6 else n) rfl rfl rfl (rn_tup ⟨(rn_agg ⟨(rn_bool rfl),(rn_own (use_own rfl) rfl rfl),trivial⟩),(rn_int rfl),trivial⟩) rfl (entl_new (use_own rfl) rfl (Nat.le_of_eq rfl) (rcs_int (fun _ _=>rfl) rcs_nil) (entl_bor (use_lo rfl) rfl rfl (entl_bor (use_lo rfl) rfl rfl entl_nil)))) (fun c1 h=>no_some h))
theorem a35 (n1:Bool) (ap np mp:Nat) (tp:NI) (n2:Bool) (aq nq mq:Nat) (tq:NI) {r:Rt35} (h:Goes ((q35 n1 ap np mp tp n2 aq nq mq tq)) ((p35 n1 ap np mp tp n2 aq nq mq tq)) r):CallR Tryd.prog 35 [.agg [.bool n1,.loose ⟨0,1,ap,0⟩ np],.agg [.bool n2,.loose ⟨1,1,aq,0⟩ nq]] [[(0,(false,.cols mp [.int .i64 tp])),(1,(false,.cols mq [.int .i64 tq]))]] 2 ((V35 n1 ap np mp tp n2 aq nq mq tq) r) ((J35 n1 ap np mp tp n2 aq nq mq tq) r) 400∧ ∃ F,Tryd.prog.funcs[35]? =some F∧F.body.isSome=true∧(F.name== "runtime.NumGoroutine")=false:=by
  refine dec_calls (f:=35) (lo:=2) (hi:=400) Tryd.envOk Tryd.mixed xG7_ok ((I35 n1 ap np mp tp n2 aq nq mq tq)) ((V35 n1 ap np mp tp n2 aq nq mq tq)) (J35 n1 ap np mp tp n2 aq nq mq tq) (fn:=mkFn Tryd.f35) (ts:= [4,6,7]) (n:=400) rfl (by decide) (by simp) (names_of rfl) ?_ ?_ ?_ h
  · intro s; cases s<;>exact ⟨hd_ok _ _,by simp [I35],names_of rfl,Nat.le_of_ble_eq_true rfl⟩
  · intro Kst Kret x hS hR h
    exact Holds.eq (te35 cond Kst Kret n1 ap np mp tp n2 aq nq mq tq) (be35 n1 ap np mp tp n2 aq nq mq tq Kst Kret x hS hR h)
  · intro Kst Kret x hS hR s h
    cases s with
    |h0=>exact Holds.eq (t35_0 cond Kst Kret n1 ap np mp tp n2 aq nq mq tq) (b35_0 n1 ap np mp tp n2 aq nq mq tq Kst Kret x hS hR h)
    |h1 x0=>exact Holds.eq (t35_1 cond Kst Kret n1 ap np mp tp n2 aq nq mq tq x0) (b35_1 n1 ap np mp tp n2 aq nq mq tq Kst Kret x hS hR x0 h)
    |h2 x0 x1 x2 x3=>exact Holds.eq (t35_2 cond Kst Kret n1 ap np mp tp n2 aq nq mq tq x0 x1 x2 x3) (b35_2 n1 ap np mp tp n2 aq nq mq tq Kst Kret x hS hR x0 x1 x2 x3 h)
noncomputable abbrev w35 {α:Type} (g:Bool→Nat→Nat→Nat→(Nat→Int)→Bool→Nat→Nat→Nat→(Nat→Int)→α) (x:(Bool×(Nat×Nat×Nat×(Nat→Int)×Unit)×Unit)×(Bool×(Nat×Nat×Nat×(Nat→Int)×Unit)×Unit)×Unit):α:=g x.1.1 x.1.2.1.1 x.1.2.1.2.1 x.1.2.1.2.2.1 x.1.2.1.2.2.2.1 x.2.1.1 x.2.1.2.1.1 x.2.1.2.1.2.1 x.2.1.2.1.2.2.1 x.2.1.2.1.2.2.2.1
noncomputable def k35:Con:=⟨35,[.agg [.plain (.bool),.list [.int .i64]],.agg [.plain (.bool),.list [.int .i64]]],w35 (fun n1 ap np mp tp n2 aq nq mq tq=>decide ((ap+np≤mp∧np≤1000000)∧aq+nq≤mq∧nq≤1000000)),w35 (fun n1 ap np mp tp n2 aq nq mq tq=>(V35 n1 ap np mp tp n2 aq nq mq tq) (S.gcdS n1 np (fun j=>tp (j+ap)) n2 nq (fun j=>tq (j+aq)))),w35 (fun n1 ap np mp tp n2 aq nq mq tq=>(N35 n1 ap np mp tp n2 aq nq mq tq) (S.gcdS n1 np (fun j=>tp (j+ap)) n2 nq (fun j=>tq (j+aq)))),fun _ _=> .dead⟩
theorem s35' (n1:Bool) (ap np mp:Nat) (tp:Nat→Int) (n2:Bool) (aq nq mq:Nat) (tq:Nat→Int): ∀ (k:Nat) (A B:Int),B.toNat<k→(0≤A∧A<S.pw 80)→(0≤B∧B<S.pw 80)→Comes (q35 n1 ap np mp tp n2 aq nq mq tq) (.h2 (S.grp A).length (S.grp B).length (S.grp A) (S.grp B)) (false,0,S.grp (S.gcdV A B)):=by
  intro k
  induction k with
  |zero=>intro A B h; omega
  | succ k ih=>
    intro A B h hA hB
    have lA:=grp_le hA.2
    have lB:=grp_le hB.2
    have vA:=val_grpL hA.1
    have vB:=val_grpL hB.1
    have oA:(S.okG (S.grp A).length (fun j=>S.at' (S.grp A) j))=true:=grp_ok
    have oB:(S.okG (S.grp B).length (fun j=>S.at' (S.grp B) j))=true:=grp_ok
    apply Comes.of
    rw [q35]
    by_cases h0:B=0
    · rw [h0,gcdV_zero hA.1]
      with_reducible refine goes_no ?_ ?_
      · apply decide_eq_false; rw [grp_neg (by omega)]; decide
      with_reducible refine goes_ok ?_ ?_
      · exact decide_eq_true ⟨by omega,by omega,okG_D oA⟩
      rw [vA]
      exact goes_inr.mpr rfl
    · have hp:=len_pos (v:=B) (by omega)
      have m0:=Int.emod_nonneg A h0
      have m1:=Int.emod_lt_of_pos A (show 0<B by omega)
      have hm:=ih B (A % B) (by omega) hB ⟨m0,by omega⟩
      rw [gcdV_mod] at hm
      with_reducible refine goes_ok ?_ ?_
      · apply decide_eq_true; omega
      with_reducible refine goes_ok ?_ ?_
      · exact decide_eq_true ⟨⟨by omega,by omega⟩,⟨by omega,by omega⟩,oA,oB,hp⟩
      rw [vA,vB]
      exact hm
theorem s35 (n1:Bool) (ap np mp:Nat) (tp:Nat→Int) (n2:Bool) (aq nq mq:Nat) (tq:Nat→Int) (hp:(ap+np≤mp∧np≤1000000)∧aq+nq≤mq∧nq≤1000000):Goes ((q35 n1 ap np mp tp n2 aq nq mq tq)) ((p35 n1 ap np mp tp n2 aq nq mq tq)) (S.gcdS n1 np (fun j=>tp (j+ap)) n2 nq (fun j=>tq (j+aq))):=by
  obtain ⟨⟨hp1,hp2⟩,hp3,hp4⟩:=hp
  by_cases g1:S.okI n1 np (fun j=>tp (j+ap))=true
  · by_cases g2:S.okI n2 nq (fun j=>tq (j+aq))=true
    · obtain ⟨l1,k1⟩:=okI_G g1
      obtain ⟨l2,k2⟩:=okI_G g2
      have hr:S.gcdS n1 np (fun j=>tp (j+ap)) n2 nq (fun j=>tq (j+aq))=(false,0,S.grp (S.gcdV (S.val np (fun j=>tp (j+ap))) (S.val nq (fun j=>tq (j+aq))))):=by unfold S.gcdS; rw [if_pos ⟨g1,g2⟩]
      rw [hr]
      have v1:=val_nn (okG_D k1)
      have v2:=val_nn (okG_D k2)
      have w1:=val_lt (okG_D k1) l1
      have w2:=val_lt (okG_D k2) l2
      have h0:Goes (q35 n1 ap np mp tp n2 aq nq mq tq) ((q35 n1 ap np mp tp n2 aq nq mq tq) .h0) (false,0,S.grp (S.gcdV (S.val np (fun j=>tp (j+ap))) (S.val nq (fun j=>tq (j+aq))))):=by
        rw [q35]
        by_cases hn:nq=0
        · have e:(S.val nq (fun j=>tq (j+aq)))=0:=by subst hn; rfl
          rw [e,gcdV_zero v1]
          with_reducible refine goes_no ?_ ?_
          · apply decide_eq_false; omega
          with_reducible refine goes_ok ?_ ?_
          · exact decide_eq_true ⟨hp1,hp2,okG_D k1⟩
          exact goes_inr.mpr rfl
        · have vp:=val_pos k2 (by omega)
          with_reducible refine goes_ok ?_ ?_
          · apply decide_eq_true; omega
          with_reducible refine goes_ok ?_ ?_
          · exact decide_eq_true ⟨⟨hp1,hp3⟩,⟨by omega,by omega⟩,k1,k2,by omega⟩
          have m0:=Int.emod_nonneg (S.val np (fun j=>tp (j+ap))) (show (S.val nq (fun j=>tq (j+aq)))≠0 by omega)
          have m1:=Int.emod_lt_of_pos (S.val np (fun j=>tp (j+ap))) vp
          rw [← gcdV_mod]
          generalize hR:(S.val np (fun j=>tp (j+ap))) % (S.val nq (fun j=>tq (j+aq)))=R at*
          show Comes (q35 n1 ap np mp tp n2 aq nq mq tq) (.h1 (S.grp R)) _
          apply Comes.of
          rw [q35,hR]
          have lR:=grp_le (v:=R) (n:=80) (by omega)
          have oR:(S.okG (S.grp R).length (fun j=>S.at' (S.grp R) j))=true:=grp_ok
          have vR:=val_grpL m0
          by_cases hz:R=0
          · rw [hz,gcdV_zero v2]
            with_reducible refine goes_no ?_ ?_
            · apply decide_eq_false; rw [grp_neg (by omega)]; decide
            with_reducible refine goes_ok ?_ ?_
            · exact decide_eq_true ⟨hp3,hp4,okG_D k2⟩
            exact goes_inr.mpr rfl
          · have hp:=len_pos (v:=R) (by omega)
            have m2:=Int.emod_nonneg (S.val nq (fun j=>tq (j+aq))) hz
            have m3:=Int.emod_lt_of_pos (S.val nq (fun j=>tq (j+aq))) (show 0<R by omega)
            have hm:=s35' n1 ap np mp tp n2 aq nq mq tq (((S.val nq (fun j=>tq (j+aq))) % R).toNat+1) R ((S.val nq (fun j=>tq (j+aq))) % R) (by omega) ⟨m0,by omega⟩ ⟨m2,by omega⟩
            rw [gcdV_mod] at hm
            with_reducible refine goes_ok ?_ ?_
            · apply decide_eq_true; omega
            with_reducible refine goes_ok ?_ ?_
            · exact decide_eq_true ⟨⟨hp3,by omega⟩,⟨by omega,by omega⟩,k2,oR,hp⟩
            rw [vR]
            exact hm
      unfold p35
      with_reducible refine goes_ok (decide_eq_true ⟨hp1,hp2⟩) ?_
      with_reducible refine goes_ok g1 ?_
      with_reducible refine goes_ok (decide_eq_true ⟨hp3,hp4⟩) ?_
      with_reducible refine goes_ok g2 ?_
      exact Comes.of h0
    · have hr:S.gcdS n1 np (fun j=>tp (j+ap)) n2 nq (fun j=>tq (j+aq))=(false,1,[]):=by unfold S.gcdS; rw [if_neg fun h=>g2 h.2]
      rw [hr]
      unfold p35
      with_reducible refine goes_ok (decide_eq_true ⟨hp1,hp2⟩) ?_
      with_reducible refine goes_ok g1 ?_
      with_reducible refine goes_ok (decide_eq_true ⟨hp3,hp4⟩) ?_
      with_reducible refine goes_no (Bool.not_eq_true _ ▸ g2) ?_
      exact goes_inr.mpr rfl
  · have hr:S.gcdS n1 np (fun j=>tp (j+ap)) n2 nq (fun j=>tq (j+aq))=(false,1,[]):=by unfold S.gcdS; rw [if_neg fun h=>g1 h.1]
    rw [hr]
    unfold p35
    with_reducible refine goes_ok (decide_eq_true ⟨hp1,hp2⟩) ?_
    with_reducible refine goes_no (Bool.not_eq_true _ ▸ g1) ?_
    exact goes_inr.mpr rfl
theorem k35_ok:k35.ok Tryd.prog:=by
  intro x hx
  obtain ⟨⟨n1,⟨ap,np,mp,tp,_⟩,_⟩,⟨n2,⟨aq,nq,mq,tq,_⟩,_⟩,_⟩:=x
  obtain ⟨h1,h2⟩:=a35 n1 ap np mp tp n2 aq nq mq tq (s35 n1 ap np mp tp n2 aq nq mq tq (of_dec hx rfl))
  exact ⟨⟨400,(by decide:2+1+1≤400),h1⟩,h2⟩
abbrev St34:=Empty
abbrev Rt34:=Int×List Int
noncomputable def V34 (n1:Bool) (ap np mp:Nat) (tp:NI) (n2:Bool) (aq nq mq:Nat) (tq:NI) (r:Rt34):PV:=PV.tup [PV.agg [PV.tf false,PV.own (3) (1) (List.length r.2)],PV.int .i64 r.1]
noncomputable def N34 (n1:Bool) (ap np mp:Nat) (tp:NI) (n2:Bool) (aq nq mq:Nat) (tq:NI) (r:Rt34):List Blk:= [Blk.cols (List.length r.2) [Col.int .i64 fun j=>S.at' r.2 j]]
noncomputable def I34 (n1:Bool) (ap np mp:Nat) (tp:NI) (n2:Bool) (aq nq mq:Nat) (tq:NI):St34→Hd:=fun s=>s.elim
noncomputable def q34 (n1:Bool) (ap np mp:Nat) (tp:NI) (n2:Bool) (aq nq mq:Nat) (tq:NI):St34→Option (St34⊕Rt34):=fun s=>s.elim
noncomputable def p34 (n1:Bool) (ap np mp:Nat) (tp:NI) (n2:Bool) (aq nq mq:Nat) (tq:NI):Option (St34⊕Rt34):=bif (decide (ap+np≤mp∧np≤1000000)) then (bif (S.okI n1 np fun j=>tp (j+ap)) then (bif (decide (aq+nq≤mq∧nq≤1000000)) then (bif (S.okI n2 nq fun j=>tq (j+aq)) then (bif (decide ((ap+np≤mp∧aq+nq≤mq)∧(np≤800∧nq≤800)∧(S.okG np fun j=>tp (j+ap))=true∧(S.okG nq fun j=>tq (j+aq))=true)) then (bif ((↑(List.length (S.grp (S.gcdV (S.val np fun j=>tp (j+ap)) (S.val nq fun j=>tq (j+aq))))):Int)==0) then (some (.inr ((0:Int),[]))) else (some (.inr ((0:Int),S.grp (S.gcdV (S.val np fun j=>tp (j+ap)) (S.val nq fun j=>tq (j+aq))))))) else (none)) else (some (.inr ((1:Int),[])))) else (none)) else (some (.inr ((1:Int),[])))) else (none)
noncomputable def Te34 (test:TT) (Kst:KS) (Kret:KR) (n1:Bool) (ap np mp:Nat) (tp:NI) (n2:Bool) (aq nq mq:Nat) (tq:NI):Prop:=test (decide (ap+np≤mp∧np≤1000000)) (test (S.okI n1 np fun j=>tp (j+ap)) (test (decide (aq+nq≤mq∧nq≤1000000)) (test (S.okI n2 nq fun j=>tq (j+aq)) (test (decide ((ap+np≤mp∧aq+nq≤mq)∧(np≤800∧nq≤800)∧(S.okG np fun j=>tp (j+ap))=true∧(S.okG nq fun j=>tq (j+aq))=true)) (test ((↑(List.length (S.grp (S.gcdV (S.val np fun j=>tp (j+ap)) (S.val nq fun j=>tq (j+aq))))):Int)==0) (Kret (PV.tup [PV.agg [PV.tf false,PV.nils],PV.int .i64 (0:Int)]) ([[(1,false,Blk.cols mq [Col.int .i64 tq]),(0,false,Blk.cols mp [Col.int .i64 tp])]]) (10)) (Kret (PV.tup [PV.agg [PV.tf false,PV.own (8) (1) (List.length (S.grp (S.gcdV (S.val np fun j=>tp (j+ap)) (S.val nq fun j=>tq (j+aq)))))],PV.int .i64 (0:Int)]) ([[(1,false,Blk.cols mq [Col.int .i64 tq]),(0,false,Blk.cols mp [Col.int .i64 tp]),(8,true,Blk.cols (List.length (S.grp (S.gcdV (S.val np fun j=>tp (j+ap)) (S.val nq fun j=>tq (j+aq))))) [Col.int .i64 fun j=>S.at' (S.grp (S.gcdV (S.val np fun j=>tp (j+ap)) (S.val nq fun j=>tq (j+aq)))) j])]]) (10))) (False)) (Kret (PV.tup [PV.agg [PV.tf false,PV.nils],PV.int .i64 (1:Int)]) ([[(1,false,Blk.cols mq [Col.int .i64 tq]),(0,false,Blk.cols mp [Col.int .i64 tp])]]) (7))) (False)) (Kret (PV.tup [PV.agg [PV.tf false,PV.nils],PV.int .i64 (1:Int)]) ([[(1,false,Blk.cols mq [Col.int .i64 tq]),(0,false,Blk.cols mp [Col.int .i64 tp])]]) (6))) (False)
theorem te34 (test:TT) (Kst:KS) (Kret:KR) (n1:Bool) (ap np mp:Nat) (tp:NI) (n2:Bool) (aq nq mq:Nat) (tq:NI):run test Tryd.env true (xG6 test) true 400 ⟨34,[.cd (mkFn Tryd.f34).body],argT 0 [.agg [.bool n1,.loose ⟨0,1,ap,0⟩ np],.agg [.bool n2,.loose ⟨1,1,aq,0⟩ nq]],[[],[(0,(false,.cols mp [.int .i64 tp])),(1,(false,.cols mq [.int .i64 tq]))]],2⟩ (proj 2 [] Kst Kret)=
  Te34 test Kst Kret n1 ap np mp tp n2 aq nq mq tq:=by kernel_rfl
noncomputable abbrev J34 (n1:Bool) (ap np mp:Nat) (tp:NI) (n2:Bool) (aq nq mq:Nat) (tq:NI):Rt34→Heap:=fun r=> [newL (2+1) ((N34 n1 ap np mp tp n2 aq nq mq tq) r)++ [(0,(false,.cols mp [.int .i64 tp])),(1,(false,.cols mq [.int .i64 tq]))]]
attribute [local irreducible] Int.subNatNat in
theorem be34 (n1:Bool) (ap np mp:Nat) (tp:NI) (n2:Bool) (aq nq mq:Nat) (tq:NI) (Kst:KS) (Kret:KR) (x:St34⊕Rt34) (hS:HS 2 400 ((I34 n1 ap np mp tp n2 aq nq mq tq)) Kst x) (hR:HR 2 400 ((V34 n1 ap np mp tp n2 aq nq mq tq)) (J34 n1 ap np mp tp n2 aq nq mq tq) Kret x) (h:p34 n1 ap np mp tp n2 aq nq mq tq=some x):Te34 cond Kst Kret n1 ap np mp tp n2 aq nq mq tq:=by
  unfold Te34
  unfold p34 at h
  refine bif_split h (fun c0 h=>bif_split h (fun c1 h=>bif_split h (fun c2 h=>bif_split h (fun c3 h=>bif_split h (fun c4 h=>bif_split h (fun c5 h=> ?_) (fun c5 h=>ret_at hR _ h (fun n=>bif Nat.beq n 3 then 8 else n) rfl rfl rfl (rn_tup ⟨(rn_agg ⟨(rn_tf rfl),(rn_own (use_own rfl) rfl rfl),trivial⟩),(rn_int rfl),trivial⟩) rfl (entl_new (use_own rfl) rfl (Nat.le_of_eq rfl) (rcs_int (fun _ _=>rfl) rcs_nil) (entl_bor (use_lo rfl) rfl rfl (entl_bor (use_lo rfl) rfl rfl entl_nil))))) (fun c4 h=> ?_)) (fun c3 h=> ?_)) (fun c2 h=> ?_)) (fun c1 h=> ?_)) (fun c0 h=> ?_)
  all_goals first
    |exact ret_at hR _ h (fun n=>bif Nat.beq n 3 then 399 else n) rfl rfl rfl (rn_tup ⟨(rn_agg ⟨(rn_tf rfl),(rn_own_nils rfl),trivial⟩),(rn_int rfl),trivial⟩) rfl (entl_fresh (use_own rfl) (fresh_ok rfl) (entl_bor (use_lo rfl) rfl rfl (entl_bor (use_lo rfl) rfl rfl entl_nil)))
    |exact no_some h
theorem a34 (n1:Bool) (ap np mp:Nat) (tp:NI) (n2:Bool) (aq nq mq:Nat) (tq:NI) {r:Rt34} (h:Goes ((q34 n1 ap np mp tp n2 aq nq mq tq)) ((p34 n1 ap np mp tp n2 aq nq mq tq)) r):CallR Tryd.prog 34 [.agg [.bool n1,.loose ⟨0,1,ap,0⟩ np],.agg [.bool n2,.loose ⟨1,1,aq,0⟩ nq]] [[(0,(false,.cols mp [.int .i64 tp])),(1,(false,.cols mq [.int .i64 tq]))]] 2 ((V34 n1 ap np mp tp n2 aq nq mq tq) r) ((J34 n1 ap np mp tp n2 aq nq mq tq) r) 400∧ ∃ F,Tryd.prog.funcs[34]? =some F∧F.body.isSome=true∧(F.name== "runtime.NumGoroutine")=false:=by
  refine dec_calls (f:=34) (lo:=2) (hi:=400) Tryd.envOk Tryd.mixed xG6_ok ((I34 n1 ap np mp tp n2 aq nq mq tq)) ((V34 n1 ap np mp tp n2 aq nq mq tq)) (J34 n1 ap np mp tp n2 aq nq mq tq) (fn:=mkFn Tryd.f34) (ts:= []) (n:=400) rfl (by decide) (by simp) (names_of rfl) ?_ ?_ ?_ h
  · intro s; exact s.elim
  · intro Kst Kret x hS hR h
    exact Holds.eq (te34 cond Kst Kret n1 ap np mp tp n2 aq nq mq tq) (be34 n1 ap np mp tp n2 aq nq mq tq Kst Kret x hS hR h)
  · intro Kst Kret x hS hR s h; exact s.elim
noncomputable abbrev w34 {α:Type} (g:Bool→Nat→Nat→Nat→(Nat→Int)→Bool→Nat→Nat→Nat→(Nat→Int)→α) (x:(Bool×(Nat×Nat×Nat×(Nat→Int)×Unit)×Unit)×(Bool×(Nat×Nat×Nat×(Nat→Int)×Unit)×Unit)×Unit):α:=g x.1.1 x.1.2.1.1 x.1.2.1.2.1 x.1.2.1.2.2.1 x.1.2.1.2.2.2.1 x.2.1.1 x.2.1.2.1.1 x.2.1.2.1.2.1 x.2.1.2.1.2.2.1 x.2.1.2.1.2.2.2.1
noncomputable def k34:Con:=⟨34,[.agg [.plain (.bool),.list [.int .i64]],.agg [.plain (.bool),.list [.int .i64]]],w34 (fun n1 ap np mp tp n2 aq nq mq tq=>decide ((ap+np≤mp∧np≤1000000)∧aq+nq≤mq∧nq≤1000000)),w34 (fun n1 ap np mp tp n2 aq nq mq tq=>(V34 n1 ap np mp tp n2 aq nq mq tq) (((S.gcdS n1 np (fun j=>tp (j+ap)) n2 nq (fun j=>tq (j+aq))).2.1,(S.gcdS n1 np (fun j=>tp (j+ap)) n2 nq (fun j=>tq (j+aq))).2.2))),w34 (fun n1 ap np mp tp n2 aq nq mq tq=>(N34 n1 ap np mp tp n2 aq nq mq tq) (((S.gcdS n1 np (fun j=>tp (j+ap)) n2 nq (fun j=>tq (j+aq))).2.1,(S.gcdS n1 np (fun j=>tp (j+ap)) n2 nq (fun j=>tq (j+aq))).2.2))),fun _ _=> .dead⟩
theorem s34 (n1:Bool) (ap np mp:Nat) (tp:Nat→Int) (n2:Bool) (aq nq mq:Nat) (tq:Nat→Int) (hp:(ap+np≤mp∧np≤1000000)∧aq+nq≤mq∧nq≤1000000):Goes ((q34 n1 ap np mp tp n2 aq nq mq tq)) ((p34 n1 ap np mp tp n2 aq nq mq tq)) (((S.gcdS n1 np (fun j=>tp (j+ap)) n2 nq (fun j=>tq (j+aq))).2.1,(S.gcdS n1 np (fun j=>tp (j+ap)) n2 nq (fun j=>tq (j+aq))).2.2)):=by
  obtain ⟨⟨hp1,hp2⟩,hp3,hp4⟩:=hp
  by_cases g1:S.okI n1 np (fun j=>tp (j+ap))=true
  · by_cases g2:S.okI n2 nq (fun j=>tq (j+aq))=true
    · obtain ⟨l1,k1⟩:=okI_G g1
      obtain ⟨l2,k2⟩:=okI_G g2
      have hr:S.gcdS n1 np (fun j=>tp (j+ap)) n2 nq (fun j=>tq (j+aq))=(false,0,S.grp (S.gcdV (S.val np (fun j=>tp (j+ap))) (S.val nq (fun j=>tq (j+aq))))):=by unfold S.gcdS; rw [if_pos ⟨g1,g2⟩]
      rw [hr]
      unfold p34
      with_reducible refine goes_ok (decide_eq_true ⟨hp1,hp2⟩) ?_
      with_reducible refine goes_ok g1 ?_
      with_reducible refine goes_ok (decide_eq_true ⟨hp3,hp4⟩) ?_
      with_reducible refine goes_ok g2 ?_
      with_reducible refine goes_ok ?_ ?_
      · exact decide_eq_true ⟨⟨hp1,hp3⟩,⟨by omega,by omega⟩,k1,k2⟩
      generalize S.grp (S.gcdV (S.val np (fun j=>tp (j+ap))) (S.val nq (fun j=>tq (j+aq))))=L
      by_cases h:L.length=0
      · rw [List.length_eq_zero_iff.mp h]
        with_reducible refine goes_ok ?_ ?_
        · decide
        exact goes_inr.mpr rfl
      · with_reducible refine goes_no ?_ ?_
        · rw [beq_eq_false_iff_ne]; omega
        exact goes_inr.mpr rfl
    · have hr:S.gcdS n1 np (fun j=>tp (j+ap)) n2 nq (fun j=>tq (j+aq))=(false,1,[]):=by unfold S.gcdS; rw [if_neg fun h=>g2 h.2]
      rw [hr]
      unfold p34
      with_reducible refine goes_ok (decide_eq_true ⟨hp1,hp2⟩) ?_
      with_reducible refine goes_ok g1 ?_
      with_reducible refine goes_ok (decide_eq_true ⟨hp3,hp4⟩) ?_
      with_reducible refine goes_no (Bool.not_eq_true _ ▸ g2) ?_
      exact goes_inr.mpr rfl
  · have hr:S.gcdS n1 np (fun j=>tp (j+ap)) n2 nq (fun j=>tq (j+aq))=(false,1,[]):=by unfold S.gcdS; rw [if_neg fun h=>g1 h.1]
    rw [hr]
    unfold p34
    with_reducible refine goes_ok (decide_eq_true ⟨hp1,hp2⟩) ?_
    with_reducible refine goes_no (Bool.not_eq_true _ ▸ g1) ?_
    exact goes_inr.mpr rfl
theorem k34_ok:k34.ok Tryd.prog:=by
  intro x hx
  obtain ⟨⟨n1,⟨ap,np,mp,tp,_⟩,_⟩,⟨n2,⟨aq,nq,mq,tq,_⟩,_⟩,_⟩:=x
  obtain ⟨h1,h2⟩:=a34 n1 ap np mp tp n2 aq nq mq tq (s34 n1 ap np mp tp n2 aq nq mq tq (of_dec hx rfl))
  exact ⟨⟨400,(by decide:2+1+1≤400),h1⟩,h2⟩
noncomputable def xS8 (test:Bool→Prop→Prop→Prop):Ext:=consX test [k12,k34,k35,k26,k29,k20,k16,k18,k19,k33]
theorem xS8_ok:ExtOk Tryd.prog (xS8 cond):=consX_ok ⟨k12_ok,k34_ok,k35_ok,k26_ok,k29_ok,k20_ok,k16_ok,k18_ok,k19_ok,k33_ok,trivial⟩
theorem okI_I {v:Int} (hv:(v.natAbs:Int)<S.pw 80):S.okI (decide (v<0)) (S.grp (v.natAbs:Int)).length (fun j=>S.at' (S.grp (v.natAbs:Int)) j)=true∧S.sv (decide (v<0)) (S.val (S.grp (v.natAbs:Int)).length fun j=>S.at' (S.grp (v.natAbs:Int)) j)=v:=by
  have hl:=grp_le hv
  constructor
  · rw [okI_iff]
    refine ⟨hl,grp_ok,?_⟩
    by_cases h:v<0
    · left; exact len_pos (by omega)
    · right; exact decide_eq_false h
  · rw [val_grpL (by omega)]
    unfold S.sv
    by_cases h:v<0
    · rw [decide_eq_true h,cond_true]; omega
    · rw [decide_eq_false h,cond_false]; omega
theorem fit_I {r:Int} (hr:(r.natAbs:Int)<S.pw 80):S.fitI r=(decide (r<0),0,S.grp (r.natAbs:Int)):=by
  unfold S.fitI
  rw [if_neg (by have:=grp_le hr; omega)]
theorem sv_abs {ng:Bool} {V:Int}:(S.sv ng V).natAbs=V.natAbs:=by
  cases ng<;>simp [S.sv]
theorem okI_P {r:Int} (h0:0≤r) (h:r<S.pw 80):S.okI false (S.grp r).length (fun j=>S.at' (S.grp r) j)=true∧S.sv false (S.val (S.grp r).length fun j=>S.at' (S.grp r) j)=r:=
  ⟨okI_iff.mpr ⟨grp_le h,grp_ok,.inr rfl⟩,val_grpL h0⟩
theorem fit_P {r:Int} (h0:0≤r) (h:r<S.pw 80):S.fitI r=(false,0,S.grp r):=by
  rw [fit_I (by omega),decide_eq_false (by omega),show ((r.natAbs:Nat):Int)=r by omega]
theorem mulI_P {v w:Int} (hv:0≤v) (hw:0≤w) (lv:v<S.pw 80) (lw:w<S.pw 80) (l:v*w<S.pw 80):S.mulI false (S.grp v).length (fun j=>S.at' (S.grp v) j) false (S.grp w).length (fun j=>S.at' (S.grp w) j)=(false,0,S.grp (v*w)):=by
  unfold S.mulI
  rw [if_pos ⟨(okI_P hv lv).1,(okI_P hw lw).1⟩,(okI_P hv lv).2,(okI_P hw lw).2,fit_P (Int.mul_nonneg hv hw) l]
theorem sgB_f {v:Int}:S.sgB false v=false:=rfl
theorem gcdS_mk {n1 n2:Bool} {n m:Nat} {t u:Nat→Int}:S.gcdS n1 n (fun j=>S.at' (S.mkl n t) j) n2 m (fun j=>S.at' (S.mkl m u) j)=S.gcdS n1 n t n2 m u:=by
  unfold S.gcdS
  rw [okI_congr (u:=t) fun j hj=>at_mkl hj,okI_congr (u:=u) fun j hj=>at_mkl hj,val_congr (u:=t) fun j hj=>at_mkl hj,val_congr (u:=u) fun j hj=>at_mkl hj]
theorem mul_C {ng:Bool} {n:Nat} {t:Nat→Int} {c:Int} (g:S.okI ng n t=true) (hn:n≤40) (h0:0≤c) (hc:c<S.pw 20):S.mulI ng n t false (S.grp c).length (fun j=>S.at' (S.grp c) j)=(decide (S.sv ng (S.val n t)*c<0),0,S.grp (S.val n t*c))∧S.okI (decide (S.sv ng (S.val n t)*c<0)) (S.grp (S.val n t*c)).length (fun j=>S.at' (S.grp (S.val n t*c)) j)=true∧(0≤S.val n t*c∧S.val n t*c<S.pw 60):=by
  have v0:=val_nn (okG_D (okI_G g).2)
  have vl:=val_lt (okG_D (okI_G g).2) hn
  have m1:=mul_lt (a:=40) (b:=20) ⟨v0,vl⟩ ⟨h0,hc⟩
  have u1:=pw_mono (k:=40+20) (m:=80) (by decide)
  have u2:=pw_mono (k:=20) (m:=80) (by decide)
  have e:((S.sv ng (S.val n t)*c).natAbs:Int)=S.val n t*c:=by
    rw [Int.natAbs_mul,sv_abs,← Int.natAbs_mul]
    omega
  have ok:=okI_I (v:=S.sv ng (S.val n t)*c) (by rw [e]; omega)
  rw [e] at ok
  refine ⟨?_,ok.1,m1⟩
  unfold S.mulI
  rw [if_pos ⟨g,(okI_P h0 (by omega)).1⟩,(okI_P h0 (by omega)).2,fit_I (by rw [e]; omega),e]
theorem gcdV_mul {a c d:Int} (h:0≤d):S.gcdV (a*d) (c*d)=S.gcdV a c*d:=by
  unfold S.gcdV
  rw [Int.gcd_mul_right,Int.natCast_mul]
  have:((d.natAbs:Nat):Int)=d:=by omega
  rw [this]
theorem gcdV_dvd {a c:Int}:S.gcdV a c ∣ a∧S.gcdV a c ∣ c:=⟨Int.gcd_dvd_left ..,Int.gcd_dvd_right ..⟩
theorem gcdV_nn {a c:Int}:0≤S.gcdV a c:=Int.natCast_nonneg _
theorem gcdV_le {a c P:Int} (ha:0≤a) (hc:0≤c) (la:a<P) (lc:c<P):S.gcdV a c<P:=by
  by_cases h:a=0
  · rw [h,gcdV_comm,gcdV_zero hc]; exact lc
  · exact Int.lt_of_le_of_lt (Int.le_of_dvd (by omega) gcdV_dvd.1) la
theorem div_G {ng:Bool} {n:Nat} {t:Nat→Int} {g:Int} (ok:S.okI ng n t=true) (h0:0<g) (hl:g<S.pw 80) (hd:g ∣ S.val n t): ∃ x y,S.divI ng n t false (S.grp g).length (fun j=>S.at' (S.grp g) j)=(x,0,[],y):=by
  have dv:g ∣ S.sv ng (S.val n t):=by
    cases ng
    · exact hd
    · exact Int.dvd_neg.mpr hd
  have lv:=val_lt (okG_D (okI_G ok).2) (okI_G ok).1
  have v0:=val_nn (okG_D (okI_G ok).2)
  have ab:=Int.natAbs_ediv_le_natAbs (S.sv ng (S.val n t)) g
  have e:=sv_abs (ng:=ng) (V:=S.val n t)
  have lq:=grp_le (v:=((S.sv ng (S.val n t) / g).natAbs:Int)) (n:=80) (by omega)
  unfold S.divI
  rw [if_pos ⟨ok,(okI_P (by omega) hl).1⟩,if_neg (by have:=len_pos h0; omega),(okI_P (by omega) hl).2]
  unfold S.divV
  rw [if_neg (by omega),Int.emod_eq_zero_of_dvd dv,grp_neg (by omega)]
  exact ⟨_,_,rfl⟩
noncomputable abbrev c8_e_0 (n1:Bool) (ap np:Nat) (tp:NI) (n2:Bool) (aq nq:Nat) (tq:NI):=Prod.snd (S.gcdS n1 (List.length (S.mkl np fun j=>tp (j+ap))) (fun j=>S.at' (S.mkl np fun j=>tp (j+ap)) j) n2 (List.length (S.mkl nq fun j=>tq (j+aq))) fun j=>S.at' (S.mkl nq fun j=>tq (j+aq)) j)
noncomputable abbrev c8_e_1 (n1:Bool) (ap np:Nat) (tp:NI) (n2:Bool) (aq nq:Nat) (tq:NI) (ar nr:Nat) (tr:NI):=Prod.snd (Prod.snd (S.gcdS (Prod.fst (S.mulI n1 np (fun j=>tp (j+ap)) (S.sgB false (S.desV (Min.min nr (20)) fun j=>tr (j+ar))) (List.length (S.grp (S.desV (Min.min nr (20)) fun j=>tr (j+ar)))) fun j=>S.at' (S.grp (S.desV (Min.min nr (20)) fun j=>tr (j+ar))) j)) (List.length (Prod.snd (Prod.snd (S.mulI n1 np (fun j=>tp (j+ap)) (S.sgB false (S.desV (Min.min nr (20)) fun j=>tr (j+ar))) (List.length (S.grp (S.desV (Min.min nr (20)) fun j=>tr (j+ar)))) fun j=>S.at' (S.grp (S.desV (Min.min nr (20)) fun j=>tr (j+ar))) j)))) (fun j=>S.at' (Prod.snd (Prod.snd (S.mulI n1 np (fun j=>tp (j+ap)) (S.sgB false (S.desV (Min.min nr (20)) fun j=>tr (j+ar))) (List.length (S.grp (S.desV (Min.min nr (20)) fun j=>tr (j+ar)))) fun j=>S.at' (S.grp (S.desV (Min.min nr (20)) fun j=>tr (j+ar))) j))) j) (Prod.fst (S.mulI n2 nq (fun j=>tq (j+aq)) (S.sgB false (S.desV (Min.min nr (20)) fun j=>tr (j+ar))) (List.length (S.grp (S.desV (Min.min nr (20)) fun j=>tr (j+ar)))) fun j=>S.at' (S.grp (S.desV (Min.min nr (20)) fun j=>tr (j+ar))) j)) (List.length (Prod.snd (Prod.snd (S.mulI n2 nq (fun j=>tq (j+aq)) (S.sgB false (S.desV (Min.min nr (20)) fun j=>tr (j+ar))) (List.length (S.grp (S.desV (Min.min nr (20)) fun j=>tr (j+ar)))) fun j=>S.at' (S.grp (S.desV (Min.min nr (20)) fun j=>tr (j+ar))) j)))) fun j=>S.at' (Prod.snd (Prod.snd (S.mulI n2 nq (fun j=>tq (j+aq)) (S.sgB false (S.desV (Min.min nr (20)) fun j=>tr (j+ar))) (List.length (S.grp (S.desV (Min.min nr (20)) fun j=>tr (j+ar)))) fun j=>S.at' (S.grp (S.desV (Min.min nr (20)) fun j=>tr (j+ar))) j))) j))
noncomputable abbrev c8_e_2 (n1:Bool) (ap np:Nat) (tp:NI) (n2:Bool) (aq nq:Nat) (tq:NI) (ar nr:Nat) (tr:NI):=Prod.snd (S.gcdS (Prod.fst (S.mulI n1 np (fun j=>tp (j+ap)) (S.sgB false (S.desV (Min.min nr (20)) fun j=>tr (j+ar))) (List.length (S.grp (S.desV (Min.min nr (20)) fun j=>tr (j+ar)))) fun j=>S.at' (S.grp (S.desV (Min.min nr (20)) fun j=>tr (j+ar))) j)) (List.length (Prod.snd (Prod.snd (S.mulI n1 np (fun j=>tp (j+ap)) (S.sgB false (S.desV (Min.min nr (20)) fun j=>tr (j+ar))) (List.length (S.grp (S.desV (Min.min nr (20)) fun j=>tr (j+ar)))) fun j=>S.at' (S.grp (S.desV (Min.min nr (20)) fun j=>tr (j+ar))) j)))) (fun j=>S.at' (Prod.snd (Prod.snd (S.mulI n1 np (fun j=>tp (j+ap)) (S.sgB false (S.desV (Min.min nr (20)) fun j=>tr (j+ar))) (List.length (S.grp (S.desV (Min.min nr (20)) fun j=>tr (j+ar)))) fun j=>S.at' (S.grp (S.desV (Min.min nr (20)) fun j=>tr (j+ar))) j))) j) (Prod.fst (S.mulI n2 nq (fun j=>tq (j+aq)) (S.sgB false (S.desV (Min.min nr (20)) fun j=>tr (j+ar))) (List.length (S.grp (S.desV (Min.min nr (20)) fun j=>tr (j+ar)))) fun j=>S.at' (S.grp (S.desV (Min.min nr (20)) fun j=>tr (j+ar))) j)) (List.length (Prod.snd (Prod.snd (S.mulI n2 nq (fun j=>tq (j+aq)) (S.sgB false (S.desV (Min.min nr (20)) fun j=>tr (j+ar))) (List.length (S.grp (S.desV (Min.min nr (20)) fun j=>tr (j+ar)))) fun j=>S.at' (S.grp (S.desV (Min.min nr (20)) fun j=>tr (j+ar))) j)))) fun j=>S.at' (Prod.snd (Prod.snd (S.mulI n2 nq (fun j=>tq (j+aq)) (S.sgB false (S.desV (Min.min nr (20)) fun j=>tr (j+ar))) (List.length (S.grp (S.desV (Min.min nr (20)) fun j=>tr (j+ar)))) fun j=>S.at' (S.grp (S.desV (Min.min nr (20)) fun j=>tr (j+ar))) j))) j)
noncomputable abbrev c8_e_3 (n1:Bool) (ap np:Nat) (tp:NI) (n2:Bool) (aq nq:Nat) (tq:NI) (ar nr:Nat) (tr:NI):=decide ((0+List.length (Prod.snd (Prod.snd (S.gcdS (Prod.fst (S.mulI n1 np (fun j=>tp (j+ap)) (S.sgB false (S.desV (Min.min nr (20)) fun j=>tr (j+ar))) (List.length (S.grp (S.desV (Min.min nr (20)) fun j=>tr (j+ar)))) fun j=>S.at' (S.grp (S.desV (Min.min nr (20)) fun j=>tr (j+ar))) j)) (List.length (Prod.snd (Prod.snd (S.mulI n1 np (fun j=>tp (j+ap)) (S.sgB false (S.desV (Min.min nr (20)) fun j=>tr (j+ar))) (List.length (S.grp (S.desV (Min.min nr (20)) fun j=>tr (j+ar)))) fun j=>S.at' (S.grp (S.desV (Min.min nr (20)) fun j=>tr (j+ar))) j)))) (fun j=>S.at' (Prod.snd (Prod.snd (S.mulI n1 np (fun j=>tp (j+ap)) (S.sgB false (S.desV (Min.min nr (20)) fun j=>tr (j+ar))) (List.length (S.grp (S.desV (Min.min nr (20)) fun j=>tr (j+ar)))) fun j=>S.at' (S.grp (S.desV (Min.min nr (20)) fun j=>tr (j+ar))) j))) j) (Prod.fst (S.mulI n2 nq (fun j=>tq (j+aq)) (S.sgB false (S.desV (Min.min nr (20)) fun j=>tr (j+ar))) (List.length (S.grp (S.desV (Min.min nr (20)) fun j=>tr (j+ar)))) fun j=>S.at' (S.grp (S.desV (Min.min nr (20)) fun j=>tr (j+ar))) j)) (List.length (Prod.snd (Prod.snd (S.mulI n2 nq (fun j=>tq (j+aq)) (S.sgB false (S.desV (Min.min nr (20)) fun j=>tr (j+ar))) (List.length (S.grp (S.desV (Min.min nr (20)) fun j=>tr (j+ar)))) fun j=>S.at' (S.grp (S.desV (Min.min nr (20)) fun j=>tr (j+ar))) j)))) fun j=>S.at' (Prod.snd (Prod.snd (S.mulI n2 nq (fun j=>tq (j+aq)) (S.sgB false (S.desV (Min.min nr (20)) fun j=>tr (j+ar))) (List.length (S.grp (S.desV (Min.min nr (20)) fun j=>tr (j+ar)))) fun j=>S.at' (S.grp (S.desV (Min.min nr (20)) fun j=>tr (j+ar))) j))) j)))≤List.length (c8_e_1 n1 ap np tp n2 aq nq tq ar nr tr)∧List.length (c8_e_1 n1 ap np tp n2 aq nq tq ar nr tr)≤1000000)∧0+List.length (Prod.snd (Prod.snd (S.mulI false (List.length (Prod.snd (c8_e_0 n1 ap np tp n2 aq nq tq))) (fun j=>S.at' (Prod.snd (c8_e_0 n1 ap np tp n2 aq nq tq)) j) (S.sgB false (S.desV (Min.min nr (20)) fun j=>tr (j+ar))) (List.length (S.grp (S.desV (Min.min nr (20)) fun j=>tr (j+ar)))) fun j=>S.at' (S.grp (S.desV (Min.min nr (20)) fun j=>tr (j+ar))) j)))≤List.length (Prod.snd (Prod.snd (S.mulI false (List.length (Prod.snd (c8_e_0 n1 ap np tp n2 aq nq tq))) (fun j=>S.at' (Prod.snd (c8_e_0 n1 ap np tp n2 aq nq tq)) j) (S.sgB false (S.desV (Min.min nr (20)) fun j=>tr (j+ar))) (List.length (S.grp (S.desV (Min.min nr (20)) fun j=>tr (j+ar)))) fun j=>S.at' (S.grp (S.desV (Min.min nr (20)) fun j=>tr (j+ar))) j)))∧List.length (Prod.snd (Prod.snd (S.mulI false (List.length (Prod.snd (c8_e_0 n1 ap np tp n2 aq nq tq))) (fun j=>S.at' (Prod.snd (c8_e_0 n1 ap np tp n2 aq nq tq)) j) (S.sgB false (S.desV (Min.min nr (20)) fun j=>tr (j+ar))) (List.length (S.grp (S.desV (Min.min nr (20)) fun j=>tr (j+ar)))) fun j=>S.at' (S.grp (S.desV (Min.min nr (20)) fun j=>tr (j+ar))) j)))≤1000000)
noncomputable abbrev c8_e_4 (n1:Bool) (ap np:Nat) (tp:NI) (n2:Bool) (aq nq:Nat) (tq:NI) (ar nr:Nat) (tr:NI):=S.samI false (List.length (Prod.snd (c8_e_2 n1 ap np tp n2 aq nq tq ar nr tr))) (fun j=>S.at' (Prod.snd (Prod.snd (S.gcdS (Prod.fst (S.mulI n1 np (fun j=>tp (j+ap)) (S.sgB false (S.desV (Min.min nr (20)) fun j=>tr (j+ar))) (List.length (S.grp (S.desV (Min.min nr (20)) fun j=>tr (j+ar)))) fun j=>S.at' (S.grp (S.desV (Min.min nr (20)) fun j=>tr (j+ar))) j)) (List.length (Prod.snd (Prod.snd (S.mulI n1 np (fun j=>tp (j+ap)) (S.sgB false (S.desV (Min.min nr (20)) fun j=>tr (j+ar))) (List.length (S.grp (S.desV (Min.min nr (20)) fun j=>tr (j+ar)))) fun j=>S.at' (S.grp (S.desV (Min.min nr (20)) fun j=>tr (j+ar))) j)))) (fun j=>S.at' (Prod.snd (Prod.snd (S.mulI n1 np (fun j=>tp (j+ap)) (S.sgB false (S.desV (Min.min nr (20)) fun j=>tr (j+ar))) (List.length (S.grp (S.desV (Min.min nr (20)) fun j=>tr (j+ar)))) fun j=>S.at' (S.grp (S.desV (Min.min nr (20)) fun j=>tr (j+ar))) j))) j) (Prod.fst (S.mulI n2 nq (fun j=>tq (j+aq)) (S.sgB false (S.desV (Min.min nr (20)) fun j=>tr (j+ar))) (List.length (S.grp (S.desV (Min.min nr (20)) fun j=>tr (j+ar)))) fun j=>S.at' (S.grp (S.desV (Min.min nr (20)) fun j=>tr (j+ar))) j)) (List.length (Prod.snd (Prod.snd (S.mulI n2 nq (fun j=>tq (j+aq)) (S.sgB false (S.desV (Min.min nr (20)) fun j=>tr (j+ar))) (List.length (S.grp (S.desV (Min.min nr (20)) fun j=>tr (j+ar)))) fun j=>S.at' (S.grp (S.desV (Min.min nr (20)) fun j=>tr (j+ar))) j)))) fun j=>S.at' (Prod.snd (Prod.snd (S.mulI n2 nq (fun j=>tq (j+aq)) (S.sgB false (S.desV (Min.min nr (20)) fun j=>tr (j+ar))) (List.length (S.grp (S.desV (Min.min nr (20)) fun j=>tr (j+ar)))) fun j=>S.at' (S.grp (S.desV (Min.min nr (20)) fun j=>tr (j+ar))) j))) j))) j) (Prod.fst (S.mulI false (List.length (Prod.snd (c8_e_0 n1 ap np tp n2 aq nq tq))) (fun j=>S.at' (Prod.snd (c8_e_0 n1 ap np tp n2 aq nq tq)) j) (S.sgB false (S.desV (Min.min nr (20)) fun j=>tr (j+ar))) (List.length (S.grp (S.desV (Min.min nr (20)) fun j=>tr (j+ar)))) fun j=>S.at' (S.grp (S.desV (Min.min nr (20)) fun j=>tr (j+ar))) j)) (List.length (Prod.snd (Prod.snd (S.mulI false (List.length (Prod.snd (c8_e_0 n1 ap np tp n2 aq nq tq))) (fun j=>S.at' (Prod.snd (c8_e_0 n1 ap np tp n2 aq nq tq)) j) (S.sgB false (S.desV (Min.min nr (20)) fun j=>tr (j+ar))) (List.length (S.grp (S.desV (Min.min nr (20)) fun j=>tr (j+ar)))) fun j=>S.at' (S.grp (S.desV (Min.min nr (20)) fun j=>tr (j+ar))) j)))) fun j=>S.at' (Prod.snd (Prod.snd (S.mulI false (List.length (Prod.snd (c8_e_0 n1 ap np tp n2 aq nq tq))) (fun j=>S.at' (Prod.snd (c8_e_0 n1 ap np tp n2 aq nq tq)) j) (S.sgB false (S.desV (Min.min nr (20)) fun j=>tr (j+ar))) (List.length (S.grp (S.desV (Min.min nr (20)) fun j=>tr (j+ar)))) fun j=>S.at' (S.grp (S.desV (Min.min nr (20)) fun j=>tr (j+ar))) j))) j
noncomputable abbrev c8_e_5 (mp:Nat) (tp:NI) (mq:Nat) (tq:NI) (mr:Nat) (tr:NI):=([[(2,false,Blk.cols mr [Col.int .u32 tr]),(1,false,Blk.cols mq [Col.int .i64 tq]),(0,false,Blk.cols mp [Col.int .i64 tp])]])
noncomputable abbrev c8_e_6 (n1:Bool) (ap np:Nat) (tp:NI) (n2:Bool) (aq nq:Nat) (tq:NI):=decide ((0+List.length (Prod.snd (c8_e_0 n1 ap np tp n2 aq nq tq))≤List.length (Prod.snd (c8_e_0 n1 ap np tp n2 aq nq tq))∧List.length (Prod.snd (c8_e_0 n1 ap np tp n2 aq nq tq))≤1000000)∧0+List.length (Prod.snd ((S.gcdS n1 np (fun j=>tp (j+ap)) n2 nq fun j=>tq (j+aq)).2))≤List.length ((S.gcdS n1 np (fun j=>tp (j+ap)) n2 nq fun j=>tq (j+aq)).2.2)∧List.length ((S.gcdS n1 np (fun j=>tp (j+ap)) n2 nq fun j=>tq (j+aq)).2.2)≤1000000)
noncomputable abbrev c8_e_7 (n1:Bool) (ap np:Nat) (tp:NI) (n2:Bool) (aq nq:Nat) (tq:NI) (ar nr:Nat) (tr:NI):=decide ((0+List.length (Prod.snd (Prod.snd (S.mulI n1 np (fun j=>tp (j+ap)) (S.sgB false (S.desV (Min.min nr (20)) fun j=>tr (j+ar))) (List.length (S.grp (S.desV (Min.min nr (20)) fun j=>tr (j+ar)))) fun j=>S.at' (S.grp (S.desV (Min.min nr (20)) fun j=>tr (j+ar))) j)))≤List.length (Prod.snd (Prod.snd (S.mulI n1 np (fun j=>tp (j+ap)) (S.sgB false (S.desV (Min.min nr (20)) fun j=>tr (j+ar))) (List.length (S.grp (S.desV (Min.min nr (20)) fun j=>tr (j+ar)))) fun j=>S.at' (S.grp (S.desV (Min.min nr (20)) fun j=>tr (j+ar))) j)))∧List.length (Prod.snd (Prod.snd (S.mulI n1 np (fun j=>tp (j+ap)) (S.sgB false (S.desV (Min.min nr (20)) fun j=>tr (j+ar))) (List.length (S.grp (S.desV (Min.min nr (20)) fun j=>tr (j+ar)))) fun j=>S.at' (S.grp (S.desV (Min.min nr (20)) fun j=>tr (j+ar))) j)))≤1000000)∧0+List.length (Prod.snd (Prod.snd (S.mulI n2 nq (fun j=>tq (j+aq)) (S.sgB false (S.desV (Min.min nr (20)) fun j=>tr (j+ar))) (List.length (S.grp (S.desV (Min.min nr (20)) fun j=>tr (j+ar)))) fun j=>S.at' (S.grp (S.desV (Min.min nr (20)) fun j=>tr (j+ar))) j)))≤List.length (Prod.snd (Prod.snd (S.mulI n2 nq (fun j=>tq (j+aq)) (S.sgB false (S.desV (Min.min nr (20)) fun j=>tr (j+ar))) (List.length (S.grp (S.desV (Min.min nr (20)) fun j=>tr (j+ar)))) fun j=>S.at' (S.grp (S.desV (Min.min nr (20)) fun j=>tr (j+ar))) j)))∧List.length (Prod.snd (Prod.snd (S.mulI n2 nq (fun j=>tq (j+aq)) (S.sgB false (S.desV (Min.min nr (20)) fun j=>tr (j+ar))) (List.length (S.grp (S.desV (Min.min nr (20)) fun j=>tr (j+ar)))) fun j=>S.at' (S.grp (S.desV (Min.min nr (20)) fun j=>tr (j+ar))) j)))≤1000000)
noncomputable abbrev c8_e_8 (n1:Bool) (ap np:Nat) (tp:NI) (n2:Bool) (aq nq:Nat) (tq:NI):=S.samI false (List.length (Prod.snd (c8_e_0 n1 ap np tp n2 aq nq tq))) (fun j=>S.at' (Prod.snd (c8_e_0 n1 ap np tp n2 aq nq tq)) j) ((S.gcdS n1 np (fun j=>tp (j+ap)) n2 nq fun j=>tq (j+aq)).1) (List.length ((S.gcdS n1 np (fun j=>tp (j+ap)) n2 nq fun j=>tq (j+aq)).2.2)) fun j=>S.at' ((S.gcdS n1 np (fun j=>tp (j+ap)) n2 nq fun j=>tq (j+aq)).2.2) j
noncomputable abbrev c8_e_9 (n1:Bool) (ap np:Nat) (tp:NI) (n2:Bool) (aq nq:Nat) (tq:NI) (ar nr:Nat) (tr:NI):=decide ((0+List.length (Prod.snd (c8_e_0 n1 ap np tp n2 aq nq tq))≤List.length (Prod.snd (c8_e_0 n1 ap np tp n2 aq nq tq))∧List.length (Prod.snd (c8_e_0 n1 ap np tp n2 aq nq tq))≤1000000)∧0+List.length (S.grp (S.desV (Min.min nr (20)) fun j=>tr (j+ar)))≤List.length (S.grp (S.desV (Min.min nr (20)) fun j=>tr (j+ar)))∧List.length (S.grp (S.desV (Min.min nr (20)) fun j=>tr (j+ar)))≤1000000)
noncomputable abbrev c8_e_10 (n1:Bool) (ap np:Nat) (tp:NI) (n2:Bool) (aq nq:Nat) (tq:NI) (ar nr:Nat) (tr:NI):=Prod.fst (Prod.snd (S.mulI false (List.length (Prod.snd (c8_e_0 n1 ap np tp n2 aq nq tq))) (fun j=>S.at' (Prod.snd (c8_e_0 n1 ap np tp n2 aq nq tq)) j) (S.sgB false (S.desV (Min.min nr (20)) fun j=>tr (j+ar))) (List.length (S.grp (S.desV (Min.min nr (20)) fun j=>tr (j+ar)))) fun j=>S.at' (S.grp (S.desV (Min.min nr (20)) fun j=>tr (j+ar))) j)) != 0
noncomputable abbrev c8_e_11 (n1:Bool) (ap np:Nat) (tp:NI) (n2:Bool) (aq nq:Nat) (tq:NI):=Prod.snd (S.divI n1 np (fun j=>tp (j+ap)) false (List.length (Prod.snd (c8_e_0 n1 ap np tp n2 aq nq tq))) fun j=>S.at' (Prod.snd (c8_e_0 n1 ap np tp n2 aq nq tq)) j)
noncomputable abbrev c8_e_12 (n1:Bool) (ap np:Nat) (tp:NI) (n2:Bool) (aq nq:Nat) (tq:NI):=Prod.snd (S.divI n2 nq (fun j=>tq (j+aq)) false (List.length (Prod.snd (c8_e_0 n1 ap np tp n2 aq nq tq))) fun j=>S.at' (Prod.snd (c8_e_0 n1 ap np tp n2 aq nq tq)) j)
noncomputable abbrev c8_e_13 (n1:Bool) (ap np:Nat) (tp:NI) (n2:Bool) (aq nq:Nat) (tq:NI):=Prod.fst (c8_e_0 n1 ap np tp n2 aq nq tq)==(S.gcdS n1 np (fun j=>tp (j+ap)) n2 nq fun j=>tq (j+aq)).2.1
noncomputable abbrev c8_e_14 (ap np:Nat) (tp:NI) (aq nq:Nat) (tq:NI):=decide ((0+List.length (S.mkl np fun j=>tp (j+ap))≤List.length (S.mkl np fun j=>tp (j+ap))∧List.length (S.mkl np fun j=>tp (j+ap))≤1000000)∧0+List.length (S.mkl nq fun j=>tq (j+aq))≤List.length (S.mkl nq fun j=>tq (j+aq))∧List.length (S.mkl nq fun j=>tq (j+aq))≤1000000)
noncomputable abbrev c8_e_15 (n1:Bool) (ap np:Nat) (tp:NI) (ar nr:Nat) (tr:NI):=Prod.fst (Prod.snd (S.mulI n1 np (fun j=>tp (j+ap)) (S.sgB false (S.desV (Min.min nr (20)) fun j=>tr (j+ar))) (List.length (S.grp (S.desV (Min.min nr (20)) fun j=>tr (j+ar)))) fun j=>S.at' (S.grp (S.desV (Min.min nr (20)) fun j=>tr (j+ar))) j)) != 0
noncomputable abbrev c8_e_16 (n2:Bool) (aq nq:Nat) (tq:NI) (ar nr:Nat) (tr:NI):=Prod.fst (Prod.snd (S.mulI n2 nq (fun j=>tq (j+aq)) (S.sgB false (S.desV (Min.min nr (20)) fun j=>tr (j+ar))) (List.length (S.grp (S.desV (Min.min nr (20)) fun j=>tr (j+ar)))) fun j=>S.at' (S.grp (S.desV (Min.min nr (20)) fun j=>tr (j+ar))) j)) != 0
noncomputable abbrev c8_e_17 (ap np mp ar nr:Nat) (tr:NI):=decide ((ap+np≤mp∧np≤1000000)∧0+List.length (S.grp (S.desV (Min.min nr (20)) fun j=>tr (j+ar)))≤List.length (S.grp (S.desV (Min.min nr (20)) fun j=>tr (j+ar)))∧List.length (S.grp (S.desV (Min.min nr (20)) fun j=>tr (j+ar)))≤1000000)
noncomputable abbrev c8_e_18 (aq nq mq ar nr:Nat) (tr:NI):=decide ((aq+nq≤mq∧nq≤1000000)∧0+List.length (S.grp (S.desV (Min.min nr (20)) fun j=>tr (j+ar)))≤List.length (S.grp (S.desV (Min.min nr (20)) fun j=>tr (j+ar)))∧List.length (S.grp (S.desV (Min.min nr (20)) fun j=>tr (j+ar)))≤1000000)
noncomputable abbrev c8_e_19 (n1:Bool) (ap np mp:Nat) (tp:NI) (n2:Bool) (aq nq:Nat) (tq:NI):=decide ((ap+np≤mp∧np≤1000000)∧0+List.length (Prod.snd (c8_e_0 n1 ap np tp n2 aq nq tq))≤List.length (Prod.snd (c8_e_0 n1 ap np tp n2 aq nq tq))∧List.length (Prod.snd (c8_e_0 n1 ap np tp n2 aq nq tq))≤1000000)
noncomputable abbrev c8_e_20 (n1:Bool) (ap np:Nat) (tp:NI) (n2:Bool) (aq nq mq:Nat) (tq:NI):=decide ((aq+nq≤mq∧nq≤1000000)∧0+List.length (Prod.snd (c8_e_0 n1 ap np tp n2 aq nq tq))≤List.length (Prod.snd (c8_e_0 n1 ap np tp n2 aq nq tq))∧List.length (Prod.snd (c8_e_0 n1 ap np tp n2 aq nq tq))≤1000000)
abbrev St8:=Empty
abbrev Rt8:=Bool
noncomputable def V8 (n1:Bool) (ap np mp:Nat) (tp:NI) (n2:Bool) (aq nq mq:Nat) (tq:NI) (n3:Bool) (ar nr mr:Nat) (tr:NI) (r:Rt8):PV:=PV.bool r
noncomputable def N8 (n1:Bool) (ap np mp:Nat) (tp:NI) (n2:Bool) (aq nq mq:Nat) (tq:NI) (n3:Bool) (ar nr mr:Nat) (tr:NI) (r:Rt8):List Blk:= []
noncomputable def I8 (n1:Bool) (ap np mp:Nat) (tp:NI) (n2:Bool) (aq nq mq:Nat) (tq:NI) (n3:Bool) (ar nr mr:Nat) (tr:NI):St8→Hd:=fun s=>s.elim
noncomputable def q8 (n1:Bool) (ap np mp:Nat) (tp:NI) (n2:Bool) (aq nq mq:Nat) (tq:NI) (n3:Bool) (ar nr mr:Nat) (tr:NI):St8→Option (St8⊕Rt8):=fun s=>s.elim
noncomputable def p8 (n1:Bool) (ap np mp:Nat) (tp:NI) (n2:Bool) (aq nq mq:Nat) (tq:NI) (n3:Bool) (ar nr mr:Nat) (tr:NI):Option (St8⊕Rt8):=bif (lim .i64 ((0:Int)+(↑np:Int))) then (bif (lim .i64 ((0:Int)+(↑np:Int)+(↑nq:Int))) then (bif (decide ((0:Int)+(↑np:Int)+(↑nq:Int)≤40)) then (bif (decide (ap+np≤mp∧np≤1000000)) then (bif (decide (aq+nq≤mq∧nq≤1000000)) then (bif (c8_e_14 ap np tp aq nq tq) then (bif (decide ((ap+np≤mp∧np≤1000000)∧aq+nq≤mq∧nq≤1000000)) then (bif (Prod.fst (c8_e_0 n1 ap np tp n2 aq nq tq) != (S.gcdS n1 np (fun j=>tp (j+ap)) n2 nq fun j=>tq (j+aq)).2.1) then (bif (c8_e_13 n1 ap np tp n2 aq nq tq) then (bif (c8_e_6 n1 ap np tp n2 aq nq tq) then (bif (c8_e_8 n1 ap np tp n2 aq nq tq) then (some (.inr (true))) else (some (.inr (false)))) else (none)) else (some (.inr (false)))) else (bif (c8_e_6 n1 ap np tp n2 aq nq tq) then (bif (c8_e_8 n1 ap np tp n2 aq nq tq) then (bif (Prod.fst (c8_e_0 n1 ap np tp n2 aq nq tq) != 0) then (bif (c8_e_13 n1 ap np tp n2 aq nq tq) then (some (.inr (true))) else (some (.inr (false)))) else (bif (decide (ar+nr≤mr∧S.u32B (fun j=>tr (j+ar)) nr=true)) then (bif (c8_e_17 ap np mp ar nr tr) then (bif (c8_e_18 aq nq mq ar nr tr) then (bif (c8_e_7 n1 ap np tp n2 aq nq tq ar nr tr) then (bif (c8_e_9 n1 ap np tp n2 aq nq tq ar nr tr) then (bif (c8_e_15 n1 ap np tp ar nr tr) then (some (.inr (false))) else (bif (c8_e_16 n2 aq nq tq ar nr tr) then (some (.inr (false))) else (bif (Prod.fst (c8_e_2 n1 ap np tp n2 aq nq tq ar nr tr) != 0) then (some (.inr (false))) else (bif (c8_e_10 n1 ap np tp n2 aq nq tq ar nr tr) then (some (.inr (false))) else (bif (c8_e_3 n1 ap np tp n2 aq nq tq ar nr tr) then (bif (c8_e_4 n1 ap np tp n2 aq nq tq ar nr tr) then (bif ((↑(List.length (Prod.snd (c8_e_0 n1 ap np tp n2 aq nq tq))):Int)==0) then (bif ((↑np:Int)==0) then (bif ((↑nq:Int)==0) then (some (.inr (true))) else (some (.inr (false)))) else (some (.inr (false)))) else (bif (c8_e_19 n1 ap np mp tp n2 aq nq tq) then (bif (c8_e_20 n1 ap np tp n2 aq nq mq tq) then (bif (Prod.fst (c8_e_11 n1 ap np tp n2 aq nq tq)==0) then (bif (Prod.fst (c8_e_12 n1 ap np tp n2 aq nq tq)==0) then (bif ((↑(List.length (Prod.fst (Prod.snd (c8_e_11 n1 ap np tp n2 aq nq tq)))):Int)==0) then (bif ((↑(List.length (Prod.fst (Prod.snd (c8_e_12 n1 ap np tp n2 aq nq tq)))):Int)==0) then (some (.inr (true))) else (some (.inr (false)))) else (some (.inr (false)))) else (some (.inr (false)))) else (some (.inr (false)))) else (none)) else (none))) else (some (.inr (false)))) else (none)))))) else (none)) else (none)) else (none)) else (none)) else (none))) else (bif (c8_e_13 n1 ap np tp n2 aq nq tq) then (some (.inr (false))) else (some (.inr (false))))) else (none))) else (none)) else (none)) else (none)) else (none)) else (some (.inr (true)))) else (none)) else (none)
noncomputable abbrev g8_0 (test:TT) (Kst:KS) (Kret:KR) (n1:Bool) (ap np mp:Nat) (tp:NI) (n2:Bool) (aq nq mq:Nat) (tq:NI) (n3:Bool) (ar nr mr:Nat) (tr:NI):Prop:=(test (decide (ap+np≤mp∧np≤1000000)) (test (decide (aq+nq≤mq∧nq≤1000000)) (test (c8_e_14 ap np tp aq nq tq) (test (decide ((ap+np≤mp∧np≤1000000)∧aq+nq≤mq∧nq≤1000000)) (test (Prod.fst (c8_e_0 n1 ap np tp n2 aq nq tq) != (S.gcdS n1 np (fun j=>tp (j+ap)) n2 nq fun j=>tq (j+aq)).2.1) (test (c8_e_13 n1 ap np tp n2 aq nq tq) (test (c8_e_6 n1 ap np tp n2 aq nq tq) (test (c8_e_8 n1 ap np tp n2 aq nq tq) (Kret (PV.tf true) (c8_e_5 mp tp mq tq mr tr) (19)) (Kret (PV.tf false) (c8_e_5 mp tp mq tq mr tr) (19))) (False)) (Kret (PV.tf false) (c8_e_5 mp tp mq tq mr tr) (18))) (test (c8_e_6 n1 ap np tp n2 aq nq tq) (test (c8_e_8 n1 ap np tp n2 aq nq tq) (test (Prod.fst (c8_e_0 n1 ap np tp n2 aq nq tq) != 0) (test (c8_e_13 n1 ap np tp n2 aq nq tq) (test (c8_e_6 n1 ap np tp n2 aq nq tq) (test (c8_e_8 n1 ap np tp n2 aq nq tq) (Kret (PV.tf true) (c8_e_5 mp tp mq tq mr tr) (20)) (Kret (PV.tf false) (c8_e_5 mp tp mq tq mr tr) (20))) (False)) (Kret (PV.tf false) (c8_e_5 mp tp mq tq mr tr) (19))) (test (decide (ar+nr≤mr∧S.u32B (fun j=>tr (j+ar)) nr=true)) (test (c8_e_17 ap np mp ar nr tr) (test (c8_e_18 aq nq mq ar nr tr) (test (c8_e_7 n1 ap np tp n2 aq nq tq ar nr tr) (test (c8_e_9 n1 ap np tp n2 aq nq tq ar nr tr) (test (c8_e_15 n1 ap np tp ar nr tr) (Kret (PV.tf false) (c8_e_5 mp tp mq tq mr tr) (34)) (test (c8_e_16 n2 aq nq tq ar nr tr) (Kret (PV.tf false) (c8_e_5 mp tp mq tq mr tr) (34)) (test (Prod.fst (c8_e_2 n1 ap np tp n2 aq nq tq ar nr tr) != 0) (Kret (PV.tf false) (c8_e_5 mp tp mq tq mr tr) (34)) (test (c8_e_10 n1 ap np tp n2 aq nq tq ar nr tr) (Kret (PV.tf false) (c8_e_5 mp tp mq tq mr tr) (34)) (test (c8_e_3 n1 ap np tp n2 aq nq tq ar nr tr) (test (c8_e_4 n1 ap np tp n2 aq nq tq ar nr tr) (test ((↑(List.length (Prod.snd (c8_e_0 n1 ap np tp n2 aq nq tq))):Int)==0) (test ((↑np:Int)==0) (test ((↑nq:Int)==0) (Kret (PV.tf true) (c8_e_5 mp tp mq tq mr tr) (35)) (Kret (PV.tf false) (c8_e_5 mp tp mq tq mr tr) (35))) (Kret (PV.tf false) (c8_e_5 mp tp mq tq mr tr) (35))) (test (c8_e_19 n1 ap np mp tp n2 aq nq tq) (test (c8_e_20 n1 ap np tp n2 aq nq mq tq) (test (Prod.fst (c8_e_11 n1 ap np tp n2 aq nq tq)==0) (test (Prod.fst (c8_e_12 n1 ap np tp n2 aq nq tq)==0) (test ((↑(List.length (Prod.fst (Prod.snd (c8_e_11 n1 ap np tp n2 aq nq tq)))):Int)==0) (test ((↑(List.length (Prod.fst (Prod.snd (c8_e_12 n1 ap np tp n2 aq nq tq)))):Int)==0) (Kret (PV.tf true) (c8_e_5 mp tp mq tq mr tr) (45)) (Kret (PV.tf false) (c8_e_5 mp tp mq tq mr tr) (45))) (Kret (PV.tf false) (c8_e_5 mp tp mq tq mr tr) (45))) (Kret (PV.tf false) (c8_e_5 mp tp mq tq mr tr) (45))) (Kret (PV.tf false) (c8_e_5 mp tp mq tq mr tr) (45))) (False)) (False))) (Kret (PV.tf false) (c8_e_5 mp tp mq tq mr tr) (35))) (False)))))) (False)) (False)) (False)) (False)) (False))) (test (c8_e_13 n1 ap np tp n2 aq nq tq) (test (c8_e_6 n1 ap np tp n2 aq nq tq) (test (c8_e_8 n1 ap np tp n2 aq nq tq) (Kret (PV.tf true) (c8_e_5 mp tp mq tq mr tr) (20)) (Kret (PV.tf false) (c8_e_5 mp tp mq tq mr tr) (20))) (False)) (Kret (PV.tf false) (c8_e_5 mp tp mq tq mr tr) (19)))) (False))) (False)) (False)) (False)) (False))
noncomputable def Te8 (test:TT) (Kst:KS) (Kret:KR) (n1:Bool) (ap np mp:Nat) (tp:NI) (n2:Bool) (aq nq mq:Nat) (tq:NI) (n3:Bool) (ar nr mr:Nat) (tr:NI):Prop:=test (true) (test (true) (test (true) (test (true) (test (lim .i64 ((0:Int)+(↑np:Int))) (test (true) (test (true) (test (true) (test (lim .i64 ((0:Int)+(↑np:Int)+(↑nq:Int))) (test (true) (test (false) (test (false) (False) (False)) (test (decide ((0:Int)+(↑np:Int)+(↑nq:Int)≤40)) (g8_0 test Kst Kret n1 ap np mp tp n2 aq nq mq tq n3 ar nr mr tr) (test (true) (test (true) (Kret (PV.tf true) (c8_e_5 mp tp mq tq mr tr) (9)) (Kret (PV.tf false) (c8_e_5 mp tp mq tq mr tr) (9))) (False)))) (False)) (False)) (False)) (test (decide ((0:Int)+(↑np:Int)≤40)) (g8_0 test Kst Kret n1 ap np mp tp n2 aq nq mq tq n3 ar nr mr tr) (test (true) (test (true) (Kret (PV.tf true) (c8_e_5 mp tp mq tq mr tr) (9)) (Kret (PV.tf false) (c8_e_5 mp tp mq tq mr tr) (9))) (False)))) (False)) (False)) (False)) (test (true) (g8_0 test Kst Kret n1 ap np mp tp n2 aq nq mq tq n3 ar nr mr tr) (test (true) (test (true) (Kret (PV.tf true) (c8_e_5 mp tp mq tq mr tr) (9)) (Kret (PV.tf false) (c8_e_5 mp tp mq tq mr tr) (9))) (False)))) (test (true) (test (true) (Kret (PV.tf true) (c8_e_5 mp tp mq tq mr tr) (8)) (Kret (PV.tf false) (c8_e_5 mp tp mq tq mr tr) (8))) (False))) (False)
theorem te8 (test:TT) (Kst:KS) (Kret:KR) (n1:Bool) (ap np mp:Nat) (tp:NI) (n2:Bool) (aq nq mq:Nat) (tq:NI) (n3:Bool) (ar nr mr:Nat) (tr:NI):run test Tryd.env true (xS8 test) true 400 ⟨8,[.cd (mkFn Tryd.f8).body],argT 0 [.agg [.bool n1,.loose ⟨0,1,ap,0⟩ np],.agg [.bool n2,.loose ⟨1,1,aq,0⟩ nq],.agg [.bool n3,.loose ⟨2,1,ar,0⟩ nr]],[[],[(0,(false,.cols mp [.int .i64 tp])),(1,(false,.cols mq [.int .i64 tq])),(2,(false,.cols mr [.int .u32 tr]))]],3⟩ (proj 3 [] Kst Kret)=
  Te8 test Kst Kret n1 ap np mp tp n2 aq nq mq tq n3 ar nr mr tr:=by kernel_rfl
noncomputable abbrev J8 (n1:Bool) (ap np mp:Nat) (tp:NI) (n2:Bool) (aq nq mq:Nat) (tq:NI) (n3:Bool) (ar nr mr:Nat) (tr:NI):Rt8→Heap:=fun r=> [newL (3+1) ((N8 n1 ap np mp tp n2 aq nq mq tq n3 ar nr mr tr) r)++ [(0,(false,.cols mp [.int .i64 tp])),(1,(false,.cols mq [.int .i64 tq])),(2,(false,.cols mr [.int .u32 tr]))]]
attribute [local irreducible] Int.subNatNat in
theorem be8 (n1:Bool) (ap np mp:Nat) (tp:NI) (n2:Bool) (aq nq mq:Nat) (tq:NI) (n3:Bool) (ar nr mr:Nat) (tr:NI) (Kst:KS) (Kret:KR) (x:St8⊕Rt8) (hS:HS 3 400 ((I8 n1 ap np mp tp n2 aq nq mq tq n3 ar nr mr tr)) Kst x) (hR:HR 3 400 ((V8 n1 ap np mp tp n2 aq nq mq tq n3 ar nr mr tr)) (J8 n1 ap np mp tp n2 aq nq mq tq n3 ar nr mr tr) Kret x) (h:p8 n1 ap np mp tp n2 aq nq mq tq n3 ar nr mr tr=some x):Te8 cond Kst Kret n1 ap np mp tp n2 aq nq mq tq n3 ar nr mr tr:=by
  unfold Te8
  unfold p8 at h
  refine cond_yes rfl (cond_yes rfl (cond_yes rfl (cond_yes rfl (bif_split h (fun c0 h=>cond_yes rfl (cond_yes rfl (cond_yes rfl (bif_split h (fun c1 h=>cond_yes rfl (cond_no rfl (bif_split h (fun c2 h=>bif_split h (fun c3 h=>bif_split h (fun c4 h=>bif_split h (fun c5 h=>bif_split h (fun c6 h=>bif_split h (fun c7 h=>bif_split h (fun c8 h=>bif_split h (fun c9 h=>bif_split h (fun c10 h=> ?_) (fun c10 h=> ?_)) (fun c9 h=> ?_)) (fun c8 h=> ?_)) (fun c7 h=>bif_split h (fun c8 h=>bif_split h (fun c9 h=>bif_split h (fun c10 h=>bif_split h (fun c11 h=>cond_yes c8 (cond_yes c9 (ret_at hR _ h (fun n=>n) rfl rfl rfl (rn_bool_tf rfl) rfl (entl_bor (use_lo rfl) rfl rfl (entl_bor (use_lo rfl) rfl rfl (entl_bor (use_lo rfl) rfl rfl entl_nil)))))) (fun c11 h=> ?_)) (fun c10 h=>bif_split h (fun c11 h=>bif_split h (fun c12 h=>bif_split h (fun c13 h=>bif_split h (fun c14 h=>bif_split h (fun c15 h=>bif_split h (fun c16 h=> ?_) (fun c16 h=>bif_split h (fun c17 h=> ?_) (fun c17 h=>bif_split h (fun c18 h=> ?_) (fun c18 h=>bif_split h (fun c19 h=> ?_) (fun c19 h=>bif_split h (fun c20 h=>bif_split h (fun c21 h=>bif_split h (fun c22 h=>bif_split h (fun c23 h=>bif_split h (fun c24 h=> ?_) (fun c24 h=> ?_)) (fun c23 h=> ?_)) (fun c22 h=>bif_split h (fun c23 h=>bif_split h (fun c24 h=>bif_split h (fun c25 h=>bif_split h (fun c26 h=>bif_split h (fun c27 h=>bif_split h (fun c28 h=> ?_) (fun c28 h=> ?_)) (fun c27 h=> ?_)) (fun c26 h=> ?_)) (fun c25 h=> ?_)) (fun c24 h=> ?_)) (fun c23 h=> ?_))) (fun c21 h=> ?_)) (fun c20 h=> ?_)))))) (fun c15 h=> ?_)) (fun c14 h=> ?_)) (fun c13 h=> ?_)) (fun c12 h=> ?_)) (fun c11 h=> ?_))) (fun c9 h=>bif_split h (fun c10 h=>cond_yes c8 (cond_no c9 (ret_at hR _ h (fun n=>n) rfl rfl rfl (rn_bool_tf rfl) rfl (entl_bor (use_lo rfl) rfl rfl (entl_bor (use_lo rfl) rfl rfl (entl_bor (use_lo rfl) rfl rfl entl_nil)))))) (fun c10 h=> ?_))) (fun c8 h=> ?_))) (fun c6 h=> ?_)) (fun c5 h=> ?_)) (fun c4 h=> ?_)) (fun c3 h=> ?_)) (fun c2 h=>cond_yes rfl (cond_yes rfl (ret_at hR _ h (fun n=>n) rfl rfl rfl (rn_bool_tf rfl) rfl (entl_bor (use_lo rfl) rfl rfl (entl_bor (use_lo rfl) rfl rfl (entl_bor (use_lo rfl) rfl rfl entl_nil))))))))) (fun c1 h=> ?_))))) (fun c0 h=> ?_)))))
  all_goals first
    |exact ret_at hR _ h (fun n=>n) rfl rfl rfl (rn_bool_tf rfl) rfl (entl_bor (use_lo rfl) rfl rfl (entl_bor (use_lo rfl) rfl rfl (entl_bor (use_lo rfl) rfl rfl entl_nil)))
    |exact no_some h
theorem a8 (n1:Bool) (ap np mp:Nat) (tp:NI) (n2:Bool) (aq nq mq:Nat) (tq:NI) (n3:Bool) (ar nr mr:Nat) (tr:NI) {r:Rt8} (h:Goes ((q8 n1 ap np mp tp n2 aq nq mq tq n3 ar nr mr tr)) ((p8 n1 ap np mp tp n2 aq nq mq tq n3 ar nr mr tr)) r):CallR Tryd.prog 8 [.agg [.bool n1,.loose ⟨0,1,ap,0⟩ np],.agg [.bool n2,.loose ⟨1,1,aq,0⟩ nq],.agg [.bool n3,.loose ⟨2,1,ar,0⟩ nr]] [[(0,(false,.cols mp [.int .i64 tp])),(1,(false,.cols mq [.int .i64 tq])),(2,(false,.cols mr [.int .u32 tr]))]] 3 ((V8 n1 ap np mp tp n2 aq nq mq tq n3 ar nr mr tr) r) ((J8 n1 ap np mp tp n2 aq nq mq tq n3 ar nr mr tr) r) 400∧ ∃ F,Tryd.prog.funcs[8]? =some F∧F.body.isSome=true∧(F.name== "runtime.NumGoroutine")=false:=by
  refine dec_calls (f:=8) (lo:=3) (hi:=400) Tryd.envOk Tryd.mixed xS8_ok ((I8 n1 ap np mp tp n2 aq nq mq tq n3 ar nr mr tr)) ((V8 n1 ap np mp tp n2 aq nq mq tq n3 ar nr mr tr)) (J8 n1 ap np mp tp n2 aq nq mq tq n3 ar nr mr tr) (fn:=mkFn Tryd.f8) (ts:= []) (n:=400) rfl (by decide) (by simp) (names_of rfl) ?_ ?_ ?_ h
  · intro s; exact s.elim
  · intro Kst Kret x hS hR h
    exact Holds.eq (te8 cond Kst Kret n1 ap np mp tp n2 aq nq mq tq n3 ar nr mr tr) (be8 n1 ap np mp tp n2 aq nq mq tq n3 ar nr mr tr Kst Kret x hS hR h)
  · intro Kst Kret x hS hR s h; exact s.elim
noncomputable abbrev w8 {α:Type} (g:Bool→Nat→Nat→Nat→(Nat→Int)→Bool→Nat→Nat→Nat→(Nat→Int)→Bool→Nat→Nat→Nat→(Nat→Int)→α) (x:(Bool×(Nat×Nat×Nat×(Nat→Int)×Unit)×Unit)×(Bool×(Nat×Nat×Nat×(Nat→Int)×Unit)×Unit)×(Bool×(Nat×Nat×Nat×(Nat→Int)×Unit)×Unit)×Unit):α:=g x.1.1 x.1.2.1.1 x.1.2.1.2.1 x.1.2.1.2.2.1 x.1.2.1.2.2.2.1 x.2.1.1 x.2.1.2.1.1 x.2.1.2.1.2.1 x.2.1.2.1.2.2.1 x.2.1.2.1.2.2.2.1 x.2.2.1.1 x.2.2.1.2.1.1 x.2.2.1.2.1.2.1 x.2.2.1.2.1.2.2.1 x.2.2.1.2.1.2.2.2.1
noncomputable def k8:Con:=⟨8,[.agg [.plain (.bool),.list [.int .i64]],.agg [.plain (.bool),.list [.int .i64]],.agg [.plain (.bool),.list [.int .u32]]],w8 (fun n1 ap np mp tp n2 aq nq mq tq n3 ar nr mr tr=>decide ((ap+np≤mp∧np≤reachBytes)∧(aq+nq≤mq∧nq≤reachBytes)∧ar+nr≤mr∧S.u32B (fun j=>tr (j+ar)) nr=true)),w8 (fun n1 ap np mp tp n2 aq nq mq tq n3 ar nr mr tr=>(V8 n1 ap np mp tp n2 aq nq mq tq n3 ar nr mr tr) (true)),w8 (fun n1 ap np mp tp n2 aq nq mq tq n3 ar nr mr tr=>(N8 n1 ap np mp tp n2 aq nq mq tq n3 ar nr mr tr) (true)),fun _ _=> .dead⟩
theorem s8 (n1:Bool) (ap np mp:Nat) (tp:Nat→Int) (n2:Bool) (aq nq mq:Nat) (tq:Nat→Int) (n3:Bool) (ar nr mr:Nat) (tr:Nat→Int) (hp:(ap+np≤mp∧np≤reachBytes)∧(aq+nq≤mq∧nq≤reachBytes)∧ar+nr≤mr∧S.u32B (fun j=>tr (j+ar)) nr=true):Goes ((q8 n1 ap np mp tp n2 aq nq mq tq n3 ar nr mr tr)) ((p8 n1 ap np mp tp n2 aq nq mq tq n3 ar nr mr tr)) (true):=by
  obtain ⟨⟨hp1,hp2⟩,⟨hp3,hp4⟩,hp5,hp6⟩:=hp
  unfold reachBytes at hp2 hp4
  by_cases h0:(0:Int)+np+nq≤40
  rotate_left
  · unfold p8
    repeat' (first|with_reducible refine goes_if (fun h=> ?_) (fun h=> ?_)<;>(try simp only [SH] at h)|exact goes_none.mpr (by omega))
    all_goals first|(exfalso; omega)|exact goes_inr.mpr rfl
  by_cases g:S.okI n1 np (fun j=>tp (j+ap))=true∧S.okI n2 nq (fun j=>tq (j+aq))=true
  · obtain ⟨g1,g2⟩:=g
    obtain ⟨l1,k1⟩:=okI_G g1
    obtain ⟨l2,k2⟩:=okI_G g2
    have hr:S.gcdS n1 np (fun j=>tp (j+ap)) n2 nq (fun j=>tq (j+aq))=(false,0,S.grp (S.gcdV (S.val np (fun j=>tp (j+ap))) (S.val nq (fun j=>tq (j+aq))))):=by unfold S.gcdS; rw [if_pos ⟨g1,g2⟩]
    have c0:0≤(S.desV (min nr 20) (fun j=>tr (j+ar))):=desV_nn
    have cl:(S.desV (min nr 20) (fun j=>tr (j+ar)))<S.pw 20:=desV_lt (by omega)
    obtain ⟨a1,a2,a3⟩:=mul_C (c:=(S.desV (min nr 20) (fun j=>tr (j+ar)))) g1 (by omega) c0 cl
    obtain ⟨b1,b2,b3⟩:=mul_C (c:=(S.desV (min nr 20) (fun j=>tr (j+ar)))) g2 (by omega) c0 cl
    have v1:=val_nn (okG_D k1)
    have v2:=val_nn (okG_D k2)
    have w1:=val_lt (okG_D k1) (show np≤40 by omega)
    have w2:=val_lt (okG_D k2) (show nq≤40 by omega)
    have G0:0≤S.gcdV (S.val np (fun j=>tp (j+ap))) (S.val nq (fun j=>tq (j+aq))):=gcdV_nn
    have G1:=gcdV_le v1 v2 w1 w2
    obtain ⟨d1,d2⟩:=gcdV_dvd (a:=(S.val np (fun j=>tp (j+ap)))) (c:=(S.val nq (fun j=>tq (j+aq))))
    have hm:S.gcdS (decide (S.sv n1 (S.val np (fun j=>tp (j+ap)))*(S.desV (min nr 20) (fun j=>tr (j+ar)))<0)) (S.grp ((S.val np (fun j=>tp (j+ap)))*(S.desV (min nr 20) (fun j=>tr (j+ar))))).length (fun j=>S.at' (S.grp ((S.val np (fun j=>tp (j+ap)))*(S.desV (min nr 20) (fun j=>tr (j+ar))))) j) (decide (S.sv n2 (S.val nq (fun j=>tq (j+aq)))*(S.desV (min nr 20) (fun j=>tr (j+ar)))<0)) (S.grp ((S.val nq (fun j=>tq (j+aq)))*(S.desV (min nr 20) (fun j=>tr (j+ar))))).length (fun j=>S.at' (S.grp ((S.val nq (fun j=>tq (j+aq)))*(S.desV (min nr 20) (fun j=>tr (j+ar))))) j)=(false,0,S.grp (S.gcdV (S.val np (fun j=>tp (j+ap))) (S.val nq (fun j=>tq (j+aq)))*(S.desV (min nr 20) (fun j=>tr (j+ar))))):=by
      unfold S.gcdS
      rw [if_pos ⟨a2,b2⟩,val_grpL a3.1,val_grpL b3.1,gcdV_mul c0]
    have u1:=pw_mono (k:=40) (m:=80) (by decide)
    have u2:=pw_mono (k:=20) (m:=80) (by decide)
    have u3:=pw_mono (k:=60) (m:=80) (by decide)
    have u4:=(mul_lt (a:=40) (b:=20) ⟨G0,G1⟩ ⟨c0,cl⟩)
    have u5:=pw_mono (k:=40+20) (m:=80) (by decide)
    have hM:=mulI_P G0 c0 (by omega) (by omega) (by omega)
    have s1:=grp_le (v:=(S.val np (fun j=>tp (j+ap)))*(S.desV (min nr 20) (fun j=>tr (j+ar)))) (n:=80) (by omega)
    have s2:=grp_le (v:=(S.val nq (fun j=>tq (j+aq)))*(S.desV (min nr 20) (fun j=>tr (j+ar)))) (n:=80) (by omega)
    have s3:=grp_le (v:=S.gcdV (S.val np (fun j=>tp (j+ap))) (S.val nq (fun j=>tq (j+aq)))) (n:=80) (by omega)
    have s4:=grp_le (v:=S.gcdV (S.val np (fun j=>tp (j+ap))) (S.val nq (fun j=>tq (j+aq)))*(S.desV (min nr 20) (fun j=>tr (j+ar)))) (n:=80) (by omega)
    have s5:=grp_le (v:=(S.desV (min nr 20) (fun j=>tr (j+ar)))) (n:=80) (by omega)
    have hz:(S.grp (S.gcdV (S.val np (fun j=>tp (j+ap))) (S.val nq (fun j=>tq (j+aq))))).length=0→np=0∧nq=0:=by
      intro h
      have e:S.gcdV (S.val np (fun j=>tp (j+ap))) (S.val nq (fun j=>tq (j+aq)))=0:=by have:=len_zero.mp h; omega
      rw [e] at d1 d2
      have e1:=Int.zero_dvd.mp d1
      have e2:=Int.zero_dvd.mp d2
      constructor
      · refine Nat.eq_zero_of_not_pos fun h=> ?_
        have:=val_pos k1 h
        omega
      · refine Nat.eq_zero_of_not_pos fun h=> ?_
        have:=val_pos k2 h
        omega
    by_cases hG:(S.grp (S.gcdV (S.val np (fun j=>tp (j+ap))) (S.val nq (fun j=>tq (j+aq))))).length=0
    · obtain ⟨z1,z2⟩:=hz hG
      clear hz d1 d2 u1 u2 u3 u4 u5 w1 w2 v1 v2 a2 a3 b2 b3 G0 G1 c0 cl k1 k2
      unfold p8
      simp only [-eq_self,c8_e_0,c8_e_1,c8_e_2,c8_e_3,c8_e_4,c8_e_5,c8_e_6,c8_e_7,c8_e_8,c8_e_9,c8_e_10,c8_e_11,c8_e_12,c8_e_13,c8_e_14,c8_e_15,c8_e_16,c8_e_17,c8_e_18,c8_e_19,c8_e_20,mkl_len,gcdS_mk,hr,sgB_f,a1,b1,hm,hM]
      clear hr a1 b1 hm hM
      repeat' first
        |with_reducible exact goes_inr.mpr rfl
        |(refine goes_ok ?_ ?_; focus (first|with_reducible exact beq_self_eq_true _|(simp only [Bool.and_eq_true,decide_eq_true_eq,and_self,eq_self]; done)|with_reducible exact decide_eq_true trivial|with_reducible exact decide_eq_true rfl|(simp only [eq_self,decide_true,Bool.and_self,Bool.and_true,Bool.true_and]; done)|(apply decide_eq_true; omega)|(rw [lim64]; apply decide_eq_true; omega)|(apply decide_eq_true; simp only [mkl_len,mkl_zero,List.length_nil,true_and,and_true,and_self,Nat.zero_add,Nat.add_zero,Nat.le_refl]; done)|(apply decide_eq_true; simp only [mkl_len,mkl_zero,List.length_nil,true_and,and_true,and_self,Nat.zero_add,Nat.add_zero,Nat.le_refl]; omega)|decide|exact samI_self|exact bne_iff_ne.mpr hp6|exact decide_eq_true ⟨⟨by decide,by decide⟩,by decide,by decide⟩|exact decide_eq_true ⟨hp1,by omega⟩|exact decide_eq_true ⟨⟨by omega,by omega⟩,by omega,by omega⟩|exact decide_eq_true ⟨by omega,by omega⟩|exact decide_eq_true ⟨hp5,hp6⟩|(rw [hG]; rfl)|(rw [z1]; rfl)|(rw [z2]; rfl)))
        |(refine goes_no ?_ ?_; focus (first|with_reducible exact bne_self_eq_false _|(apply decide_eq_false; omega)|decide|exact bne_self_eq_false _))
    · have Gp:0<S.gcdV (S.val np (fun j=>tp (j+ap))) (S.val nq (fun j=>tq (j+aq))):=by
        refine Int.not_le.mp fun h=>hG (len_zero.mpr h)
      obtain ⟨x1,y1,e1⟩:=div_G g1 Gp (by omega) d1
      obtain ⟨x2,y2,e2⟩:=div_G g2 Gp (by omega) d2
      have hG':((((S.grp (S.gcdV (S.val np (fun j=>tp (j+ap))) (S.val nq (fun j=>tq (j+aq))))).length:Nat):Int)==0)=false:=by rw [beq_eq_false_iff_ne]; omega
      clear hz d1 d2 u1 u2 u3 u4 u5 w1 w2 v1 v2 a2 a3 b2 b3 G0 G1 c0 cl k1 k2 Gp
      unfold p8
      simp only [-eq_self,c8_e_0,c8_e_1,c8_e_2,c8_e_3,c8_e_4,c8_e_5,c8_e_6,c8_e_7,c8_e_8,c8_e_9,c8_e_10,c8_e_11,c8_e_12,c8_e_13,c8_e_14,c8_e_15,c8_e_16,c8_e_17,c8_e_18,c8_e_19,c8_e_20,mkl_len,gcdS_mk,hr,sgB_f,a1,b1,hm,hM,e1,e2]
      clear hr a1 b1 hm hM e1 e2
      repeat' first
        |with_reducible exact goes_inr.mpr rfl
        |(refine goes_ok ?_ ?_; focus (first|with_reducible exact beq_self_eq_true _|(simp only [Bool.and_eq_true,decide_eq_true_eq,and_self,eq_self]; done)|with_reducible exact decide_eq_true trivial|with_reducible exact decide_eq_true rfl|(simp only [eq_self,decide_true,Bool.and_self,Bool.and_true,Bool.true_and]; done)|(apply decide_eq_true; omega)|(rw [lim64]; apply decide_eq_true; omega)|(apply decide_eq_true; simp only [mkl_len,mkl_zero,List.length_nil,true_and,and_true,and_self,Nat.zero_add,Nat.add_zero,Nat.le_refl]; done)|(apply decide_eq_true; simp only [mkl_len,mkl_zero,List.length_nil,true_and,and_true,and_self,Nat.zero_add,Nat.add_zero,Nat.le_refl]; omega)|decide|exact samI_self|exact bne_iff_ne.mpr hp6|exact decide_eq_true ⟨⟨by decide,by decide⟩,by decide,by decide⟩|exact decide_eq_true ⟨hp1,by omega⟩|exact decide_eq_true ⟨⟨by omega,by omega⟩,by omega,by omega⟩|exact decide_eq_true ⟨by omega,by omega⟩|exact decide_eq_true ⟨hp5,hp6⟩))
        |(refine goes_no ?_ ?_; focus (first|with_reducible exact bne_self_eq_false _|(apply decide_eq_false; omega)|decide|exact bne_self_eq_false _|exact hG'))
  · have hr:S.gcdS n1 np (fun j=>tp (j+ap)) n2 nq (fun j=>tq (j+aq))=(false,1,[]):=by unfold S.gcdS; rw [if_neg g]
    have he:(1:Int)≠0:=by decide
    unfold p8
    simp only [-eq_self,c8_e_0,c8_e_1,c8_e_2,c8_e_3,c8_e_4,c8_e_5,c8_e_6,c8_e_7,c8_e_8,c8_e_9,c8_e_10,c8_e_11,c8_e_12,c8_e_13,c8_e_14,c8_e_15,c8_e_16,c8_e_17,c8_e_18,c8_e_19,c8_e_20,mkl_len,gcdS_mk,hr]
    repeat' first
      |with_reducible exact goes_inr.mpr rfl
      |(refine goes_ok ?_ ?_; focus (first|with_reducible exact beq_self_eq_true _|(simp only [Bool.and_eq_true,decide_eq_true_eq,and_self,eq_self]; done)|with_reducible exact decide_eq_true trivial|with_reducible exact decide_eq_true rfl|(simp only [eq_self,decide_true,Bool.and_self,Bool.and_true,Bool.true_and]; done)|(apply decide_eq_true; omega)|(rw [lim64]; apply decide_eq_true; omega)|(apply decide_eq_true; simp only [mkl_len,mkl_zero,List.length_nil,true_and,and_true,and_self,Nat.zero_add,Nat.add_zero,Nat.le_refl]; done)|(apply decide_eq_true; simp only [mkl_len,mkl_zero,List.length_nil,true_and,and_true,and_self,Nat.zero_add,Nat.add_zero,Nat.le_refl]; omega)|decide|exact samI_self|exact bne_iff_ne.mpr he|exact decide_eq_true ⟨⟨by decide,by decide⟩,by decide,by decide⟩|exact decide_eq_true ⟨hp1,by omega⟩|exact decide_eq_true ⟨⟨by omega,by omega⟩,by omega,by omega⟩|exact decide_eq_true ⟨by omega,by omega⟩))
      |(refine goes_no ?_ ?_; focus (first|with_reducible exact bne_self_eq_false _|(apply decide_eq_false; omega)|decide|exact bne_self_eq_false _))
theorem k8_ok:k8.ok Tryd.prog:=by
  intro x hx
  obtain ⟨⟨n1,⟨ap,np,mp,tp,_⟩,_⟩,⟨n2,⟨aq,nq,mq,tq,_⟩,_⟩,⟨n3,⟨ar,nr,mr,tr,_⟩,_⟩,_⟩:=x
  obtain ⟨h1,h2⟩:=a8 n1 ap np mp tp n2 aq nq mq tq n3 ar nr mr tr (s8 n1 ap np mp tp n2 aq nq mq tq n3 ar nr mr tr (of_dec hx rfl))
  exact ⟨⟨400,(by decide:3+1+0≤400),h1⟩,h2⟩
theorem pre8 {x:SsI k8.ss} (hx:ssFits k8.ss x) (hz:ssSmall reachBytes k8.ss x):k8.pre (ssj k8.ss x)=true:=by
  obtain ⟨⟨b0,⟨n,t,u'⟩,u1⟩,⟨b1,⟨m,t2,u2⟩,u3⟩,⟨b2,⟨m3,t3,u4⟩,u5⟩,u''⟩:=x
  obtain ⟨-,-,⟨-,⟨h3,ht3,-⟩,-⟩,-⟩:=hx
  obtain ⟨⟨-,hn,-⟩,⟨-,hm,-⟩,-⟩:=hz
  exact decide_eq_true ⟨⟨Nat.le_of_eq (Nat.zero_add _),hn⟩,⟨Nat.le_of_eq (Nat.zero_add _),hm⟩,Nat.le_of_eq (Nat.zero_add _),u32B_mk ht3⟩
end Go.Ev
