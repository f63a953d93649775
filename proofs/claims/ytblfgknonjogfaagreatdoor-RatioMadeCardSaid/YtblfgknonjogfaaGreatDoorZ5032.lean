/-
  The parts that the statement needs, 2 of 5.
-/
import Derived.Test.YtblfgknonjogfaaGreatDoorZ5031
namespace Go.Ev
open Go.Proofs
open Go.RowKit
set_option linter.unusedVariables false
set_option linter.unusedSimpArgs false
set_option maxRecDepth 100000
noncomputable def T19_0 (test:TT) (Kst:KS) (Kret:KR) (ng:Bool) (ap np mp:Nat) (tp:NI) (x0:Int):Prop:=test (decide (x0<(↑np:Int))) (test (decide ((0:Int)≤x0∧x0<(↑np:Int))) (test (decide (Int.toNat x0+ap<mp)) (test (decide (tp (Int.toNat x0+ap)<0)) (Kret (PV.tf false) ([[(0,false,Blk.cols mp [Col.int .i64 tp])]]) (2)) (test (decide ((0:Int)≤x0∧x0<(↑np:Int))) (test (decide (Int.toNat x0+ap<mp)) (test (decide (tp (Int.toNat x0+ap)≥1000000)) (Kret (PV.tf false) ([[(0,false,Blk.cols mp [Col.int .i64 tp])]]) (2)) (test (lim .i64 (x0+1)) (Kst (hd Tryz.f54 0) ([PV.ptr (PA.mk (1) (0) (0) (0)),PV.int .i64 (↑np:Int),PV.int .i64 (x0+1)]) ([[(0,false,Blk.cols mp [Col.int .i64 tp]),(1,true,Blk.cells [PV.bool ng,PV.loose (PA.mk (0) (1) ap (0)) np])]]) (2)) (False))) (False)) (False))) (False)) (False)) (Kret (PV.tf true) ([[(0,false,Blk.cols mp [Col.int .i64 tp])]]) (2))
theorem t19_0 (test:TT) (Kst:KS) (Kret:KR) (ng:Bool) (ap np mp:Nat) (tp:NI) (x0:Int):run test Tryz.env true noX true 400 ⟨54,hd Tryz.f54 0,zipT [1,3,4] [PV.ptr (PA.mk (1) (0) (0) (0)),PV.int .i64 (↑np:Int),
 PV.int .i64 x0],[[(1,(true,Blk.cells [PV.bool ng,PV.loose (PA.mk (0) (1) ap (0)) np]))],[(0,(false,.cols mp [.int .i64 tp]))]],2⟩ (proj 1 [1,3,4] Kst Kret)=
  T19_0 test Kst Kret ng ap np mp tp x0:=by kernel_rfl
noncomputable abbrev J19 (ng:Bool) (ap np mp:Nat) (tp:NI):Rt19→Heap:=fun r=> [newL (1+1) ((N19 ng ap np mp tp) r)++ [(0,(false,.cols mp [.int .i64 tp]))]]
attribute [local irreducible] Int.subNatNat in
theorem be19 (ng:Bool) (ap np mp:Nat) (tp:NI) (Kst:KS) (Kret:KR) (x:St19⊕Rt19) (hS:HS 1 400 ((I19 ng ap np mp tp)) Kst x) (hR:HR 1 400 ((V19 ng ap np mp tp)) (J19 ng ap np mp tp) Kret x) (h:p19 ng ap np mp tp=some x):Te19 cond Kst Kret ng ap np mp tp:=by
  unfold Te19
  unfold p19 at h
  refine bif_split h (fun c0 h=> ?_) (fun c0 h=>bif_split h (fun c1 h=>bif_split h (fun c2 h=> ?_) (fun c2 h=>bif_split h (fun c3 h=>bif_split h (fun c4 h=>bif_split h (fun c5 h=>bif_split h (fun c6 h=>bif_split h (fun c7 h=> ?_) (fun c7 h=> ?_)) (fun c6 h=> ?_)) (fun c5 h=> ?_)) (fun c4 h=> ?_)) (fun c3 h=> ?_))) (fun c1 h=>bif_split h (fun c2 h=>bif_split h (fun c3 h=>bif_split h (fun c4 h=>bif_split h (fun c5 h=>bif_split h (fun c6 h=> ?_) (fun c6 h=> ?_)) (fun c5 h=> ?_)) (fun c4 h=> ?_)) (fun c3 h=> ?_)) (fun c2 h=> ?_)))
  all_goals first
    |exact no_some h
    |exact ret_at hR _ h (fun n=>n) rfl rfl rfl (rn_bool_tf rfl) rfl (entl_bor (use_lo rfl) rfl rfl entl_nil)
    |exact stop_at hS _ h (fun n=>bif Nat.beq n 1 then 1 else n) rfl rfl rfl ⟨(rn_ptr (use_own rfl) rfl rfl),⟨(rn_int rfl),⟨(rn_int rfl),trivial⟩⟩⟩ rfl (entl_b (use_own rfl) rfl (by simp) (rb_cells ⟨(rn_bool rfl),(rn_loose (use_lo rfl) rfl rfl rfl),trivial⟩) (entl_bor (use_lo rfl) rfl rfl entl_nil))
attribute [local irreducible] Int.subNatNat in
theorem b19_0 (ng:Bool) (ap np mp:Nat) (tp:NI) (Kst:KS) (Kret:KR) (x:St19⊕Rt19) (hS:HS 1 400 ((I19 ng ap np mp tp)) Kst x) (hR:HR 1 400 ((V19 ng ap np mp tp)) (J19 ng ap np mp tp) Kret x) (x0:Int) (h:q19 ng ap np mp tp (.h0 x0)=some x):T19_0 cond Kst Kret ng ap np mp tp x0:=by
  unfold T19_0
  rw [q19] at h
  exact bif_split h (fun c0 h=>bif_split h (fun c1 h=>bif_split h (fun c2 h=>bif_split h (fun c3 h=>ret_at hR _ h (fun n=>n) rfl rfl rfl (rn_bool_tf rfl) rfl (entl_bor (use_lo rfl) rfl rfl entl_nil)) (fun c3 h=>cond_yes c1 (cond_yes c2 (bif_split h (fun c4 h=>ret_at hR _ h (fun n=>n) rfl rfl rfl (rn_bool_tf rfl) rfl (entl_bor (use_lo rfl) rfl rfl entl_nil)) (fun c4 h=>bif_split h (fun c5 h=>stop_at hS _ h (fun n=>bif Nat.beq n 1 then 1 else n) rfl rfl rfl ⟨(rn_ptr (use_own rfl) rfl rfl),⟨(rn_int rfl),⟨(rn_int rfl),trivial⟩⟩⟩ rfl (entl_b (use_own rfl) rfl (by simp) (rb_cells ⟨(rn_bool rfl),(rn_loose (use_lo rfl) rfl rfl rfl),trivial⟩) (entl_bor (use_lo rfl) rfl rfl entl_nil))) (fun c5 h=>no_some h)))))) (fun c2 h=>no_some h)) (fun c1 h=>no_some h)) (fun c0 h=>ret_at hR _ h (fun n=>n) rfl rfl rfl (rn_bool_tf rfl) rfl (entl_bor (use_lo rfl) rfl rfl entl_nil))
theorem a19 (ng:Bool) (ap np mp:Nat) (tp:NI) {r:Rt19} (h:Goes ((q19 ng ap np mp tp)) ((p19 ng ap np mp tp)) r):CallR Tryz.prog 54 [.agg [.bool ng,.loose ⟨0,1,ap,0⟩ np]] [[(0,(false,.cols mp [.int .i64 tp]))]] 1 ((V19 ng ap np mp tp) r) ((J19 ng ap np mp tp) r) 400∧ ∃ F,Tryz.prog.funcs[54]? =some F∧F.body.isSome=true∧(F.name== "runtime.NumGoroutine")=false:=by
  refine dec_calls (f:=54) (lo:=1) (hi:=400) Tryz.envOk Tryz.mixed noX_ok ((I19 ng ap np mp tp)) ((V19 ng ap np mp tp)) (J19 ng ap np mp tp) (fn:=mkFn Tryz.f54) (ts:= [1,3,4]) (n:=400) rfl (by decide) (by simp) (names_of rfl) ?_ ?_ ?_ h
  · intro s; cases s<;>exact ⟨hd_ok _ _,by simp [I19],names_of rfl,Nat.le_of_ble_eq_true rfl⟩
  · intro Kst Kret x hS hR h
    exact Holds.eq (te19 cond Kst Kret ng ap np mp tp) (be19 ng ap np mp tp Kst Kret x hS hR h)
  · intro Kst Kret x hS hR s h
    cases s with
    |h0 x0=>exact Holds.eq (t19_0 cond Kst Kret ng ap np mp tp x0) (b19_0 ng ap np mp tp Kst Kret x hS hR x0 h)
noncomputable abbrev w19 {α:Type} (g:Bool→Nat→Nat→Nat→(Nat→Int)→α) (x:(Bool×(Nat×Nat×Nat×(Nat→Int)×Unit)×Unit)×Unit):α:=g x.1.1 x.1.2.1.1 x.1.2.1.2.1 x.1.2.1.2.2.1 x.1.2.1.2.2.2.1
noncomputable def k19:Con:=⟨54,[.agg [.plain (.bool),.list [.int .i64]]],w19 (fun ng ap np mp tp=>decide (ap+np≤mp∧np≤1000000)),w19 (fun ng ap np mp tp=>(V19 ng ap np mp tp) (S.okI ng np (fun j=>tp (j+ap)))),w19 (fun ng ap np mp tp=>(N19 ng ap np mp tp) (S.okI ng np (fun j=>tp (j+ap)))),fun _ _=> .dead⟩
theorem s19' (ng:Bool) (ap np mp:Nat) (tp:Nat→Int) (hp:ap+np≤mp∧np≤1000000) (hn:np≤80) (hl:(np=0→ng=false)∧(0<np→tp (np-1+ap)≠0)): ∀ (k i:Nat),i+k=np→(∀ j,j<i→0≤tp (j+ap)∧tp (j+ap)<1000000)→Comes (q19 ng ap np mp tp) (.h0 (i:Int)) (S.okI ng np (fun j=>tp (j+ap))):=by
  obtain ⟨hp1,hp2⟩:=hp
  intro k
  induction k with
  | zero=>
    intro i hi hj
    obtain rfl:np=i:=by omega
    have hG:S.okG np (fun j=>tp (j+ap))=true↔(np=0∨tp (np-1+ap)≠0):=by
      rw [okG_iff]
      exact ⟨fun h=>h.2,fun h=>⟨hj,h⟩⟩
    have hI:=okI_iff (ng:=ng) (n:=np) (t:=(fun j=>tp (j+ap)))
    rw [hG] at hI
    have e1:((np:Int)-1).toNat=np-1:=by omega
    generalize S.okI ng np (fun j=>tp (j+ap))=R at*
    have hR:(np≤80∧(np=0∨tp (np-1+ap)≠0)∧(0<np∨ng=false))→true=R:=fun h=>(hI.mpr h).symm
    have hR': ¬ (np≤80∧(np=0∨tp (np-1+ap)≠0)∧(0<np∨ng=false))→false=R:=fun h=>by cases R; rfl; exact absurd (hI.mp rfl) h
    cases ng
    · apply Comes.of
      show Goes _ _ _
      (first|rw [q19]|unfold q19)
      repeat' (first|with_reducible refine goes_if (fun h=> ?_) (fun h=> ?_)<;>(try simp only [SH,e1] at h)|exact goes_none.mpr (by omega))
      all_goals first
        |(exfalso; omega)
        |(refine goes_inr.mpr (hR ⟨by omega,by omega,?_⟩); first|exact .inr rfl|(left; omega)|(left; rcases Nat.eq_zero_or_pos np with h|h<;>first|exact h|exact absurd (hl.1 h) (by decide)))
        |(refine goes_inr.mpr (hR' ?_); intro hx; first|(exact absurd hx.2.2 (by simp; omega))|omega|(have h3:=hx.2.1; omega))
        |(exfalso; simp at*; done)
    · apply Comes.of
      show Goes _ _ _
      (first|rw [q19]|unfold q19)
      repeat' (first|with_reducible refine goes_if (fun h=> ?_) (fun h=> ?_)<;>(try simp only [SH,e1] at h)|exact goes_none.mpr (by omega))
      all_goals first
        |(exfalso; omega)
        |(refine goes_inr.mpr (hR ⟨by omega,by omega,?_⟩); first|exact .inr rfl|(left; omega)|(left; rcases Nat.eq_zero_or_pos np with h|h<;>first|exact h|exact absurd (hl.1 h) (by decide)))
        |(refine goes_inr.mpr (hR' ?_); intro hx; first|(exact absurd hx.2.2 (by simp; omega))|omega|(have h3:=hx.2.1; omega))
        |(exfalso; simp at*; done)
  | succ k ih=>
    intro i hi hj
    by_cases hc:0≤tp (i+ap)∧tp (i+ap)<1000000
    · have ih:=ih (i+1) (by omega) (fun j hlt=>by
        rcases Nat.lt_or_eq_of_le (Nat.le_of_lt_succ hlt) with h2|h2
        · exact hj j h2
        · subst h2; exact hc)
      apply Comes.of
      show Goes _ _ _
      (first|rw [q19]|unfold q19)
      repeat' (first|with_reducible refine goes_if (fun h=> ?_) (fun h=> ?_)<;>(try simp only [SH] at h)|exact goes_none.mpr (by omega))
      all_goals first|(exfalso; omega)|exact ih
    · have hR:S.okI ng np (fun j=>tp (j+ap))=false:=by
        rw [Bool.eq_false_iff]
        intro h
        exact hc ((okG_iff.mp (okI_iff.mp h).2.1).1 i (by omega))
      rw [hR]
      apply Comes.of
      show Goes _ _ _
      (first|rw [q19]|unfold q19)
      repeat' (first|with_reducible refine goes_if (fun h=> ?_) (fun h=> ?_)<;>(try simp only [SH] at h)|exact goes_none.mpr (by omega))
      all_goals first|(exfalso; omega)|exact goes_inr.mpr rfl
theorem s19 (ng:Bool) (ap np mp:Nat) (tp:Nat→Int) (hp:ap+np≤mp∧np≤1000000):Goes ((q19 ng ap np mp tp)) ((p19 ng ap np mp tp)) (S.okI ng np (fun j=>tp (j+ap))):=by
  have hI:=okI_iff (ng:=ng) (n:=np) (t:=(fun j=>tp (j+ap)))
  rw [okG_iff] at hI
  by_cases hn:np≤80
  · skip
    skip
    have hm:=fun hl=>s19' ng ap np mp tp hp hn hl np 0 (by omega) (fun j hj=>absurd hj (Nat.not_lt_zero j))
    have hR': ¬ ((np=0∨tp (np-1+ap)≠0)∧(0<np∨ng=false))→false=S.okI ng np (fun j=>tp (j+ap)):=fun h=>by
      cases hx:S.okI ng np (fun j=>tp (j+ap))
      · rfl
      · exact absurd ⟨(hI.mp hx).2.1.2,(hI.mp hx).2.2⟩ h
    have e1:((np:Int)-1).toNat=np-1:=by omega
    generalize S.okI ng np (fun j=>tp (j+ap))=R at*
    obtain ⟨hp1,hp2⟩:=hp
    cases ng
    · skip
      show Goes _ _ _
      unfold p19
      repeat' (first|with_reducible refine goes_if (fun h=> ?_) (fun h=> ?_)<;>(try simp only [SH,e1] at h)|exact goes_none.mpr (by omega))
      all_goals first
        |(exfalso; omega)
        |exact hm
        |exact hm ⟨fun _=>rfl,fun h=>by omega⟩
        |(refine goes_inr.mpr (hR' ?_); intro hx; first|(exact absurd hx.2 (by simp; omega))|omega|(have h3:=hx.1; omega))
        |(exfalso; simp at*; done)
    · skip
      show Goes _ _ _
      unfold p19
      repeat' (first|with_reducible refine goes_if (fun h=> ?_) (fun h=> ?_)<;>(try simp only [SH,e1] at h)|exact goes_none.mpr (by omega))
      all_goals first
        |(exfalso; omega)
        |exact hm
        |exact hm ⟨fun h=>by omega,fun h=>by omega⟩
        |(refine goes_inr.mpr (hR' ?_); intro hx; first|(exact absurd hx.2 (by simp; omega))|omega|(have h3:=hx.1; omega))
        |(exfalso; simp at*; done)
  · have hR:S.okI ng np (fun j=>tp (j+ap))=false:=by
      rw [Bool.eq_false_iff]
      intro h
      exact hn (hI.mp h).1
    rw [hR]
    show Goes _ _ _
    unfold p19
    repeat' (first|with_reducible refine goes_if (fun h=> ?_) (fun h=> ?_)<;>(try simp only [SH] at h)|exact goes_none.mpr (by omega))
    all_goals first|(exfalso; omega)|exact goes_inr.mpr rfl
theorem k19_ok:k19.ok Tryz.prog:=by
  intro x hx
  obtain ⟨⟨ng,⟨ap,np,mp,tp,_⟩,_⟩,_⟩:=x
  obtain ⟨h1,h2⟩:=a19 ng ap np mp tp (s19 ng ap np mp tp (of_dec hx rfl))
  exact ⟨⟨400,(by decide:1+1+0≤400),h1⟩,h2⟩
namespace S
def cmpI (n1:Bool) (n:Nat) (t:Nat→Int) (n2:Bool) (m:Nat) (u:Nat→Int):Int:=if okI n1 n t=true∧okI n2 m u=true then cmpS (sv n1 (val n t)) (sv n2 (val m u)) else 0
end S
theorem big_of {neg:Bool} {v:Int} (h:0≤v):S.bigI (S.sv neg v)=(neg&&decide (0<v),S.grp v):=by
  unfold S.bigI S.sv
  cases neg
  · simp only [cond_false,Bool.false_and,Prod.mk.injEq,decide_eq_false_iff_not]
    exact ⟨by omega,by rw [Int.natAbs_of_nonneg h]⟩
  · simp only [cond_true,Bool.true_and,Prod.mk.injEq]
    refine ⟨?_,by rw [Int.natAbs_neg,Int.natAbs_of_nonneg h]⟩
    rw [decide_eq_decide]
    omega
theorem len_zero {v:Int}:((S.grp v).length=0)↔v≤0:=by
  constructor
  · intro h
    refine Int.not_lt.mp fun h2=> ?_
    have:=len_pos h2
    omega
  · intro h
    rw [grp_neg h]; rfl
theorem val_grpL {v:Int} (h:0≤v):(S.val (S.grp v).length fun j=>S.at' (S.grp v) j)=v:=by
  have:=val_at (L:=S.grp v)
  rw [val_grp h] at this
  exact this
theorem valF_lt {t:Nat→Int}: ∀ {k i:Nat},(∀ j,i≤j→j<i+k→0≤t j∧t j<1000000)→S.valF t i k<S.pw k
  |0,_,_=>by show (0:Int)<1; omega
  |k+1,i,h=>by
    have h0:=h i (Nat.le_refl _) (by omega)
    have h1:=valF_lt (t:=t) (k:=k) (i:=i+1) fun j h1 h2=>h j (by omega) (by omega)
    simp only [S.valF,S.pw]
    omega
theorem pw_pos: ∀ {k:Nat},0<S.pw k
  |0=>by show (0:Int)<1; omega
  |k+1=>by have:=pw_pos (k:=k); simp only [S.pw]; omega
theorem pw_mono {k m:Nat} (h:k≤m):S.pw k≤S.pw m:=by
  induction m with
  |zero=>rw [show k=0 by omega]; exact Int.le_refl _
  | succ m ih=>
    rcases Nat.lt_or_eq_of_le h with h2|h2
    · have:=ih (by omega)
      have:=pw_pos (k:=m)
      simp only [S.pw]
      omega
    · rw [h2]; exact Int.le_refl _
theorem val_lt {n m:Nat} {t:Nat→Int} (h:S.okD n t=true) (hm:n≤m):S.val n t<S.pw m:=Int.lt_of_lt_of_le (valF_lt fun j _ hj=>okD_iff.mp h j (by omega)) (pw_mono hm)
theorem grp_le: ∀ {n:Nat} {v:Int},v<S.pw n→(S.grp v).length≤n
  |0,v,h=>by
    have h:v<1:=h
    rw [grp_neg (by omega)]; exact Nat.le_refl _
  | n +1,v,h=>by
    have h:v<1000000*S.pw n:=h
    by_cases h0:0<v
    · rw [grp_pos h0]
      have:=grp_le (n:=n) (v:=v / 1000000) (by omega)
      simp only [List.length_cons]
      omega
    · rw [grp_neg (by omega)]; exact Nat.zero_le _
noncomputable def xD (test:Bool→Prop→Prop→Prop):Ext:=consX test [k69,k65,k69v,k65v,k60,k61,k44,k73,k55,k45,k58,k56,k59,k46,k18,k19]
theorem xD_ok:ExtOk Tryz.prog (xD cond):=consX_ok ⟨k69_ok,k65_ok,k69v_ok,k65v_ok,k60_ok,k61_ok,k44_ok,k73_ok,k55_ok,k45_ok,k58_ok,k56_ok,k59_ok,k46_ok,k18_ok,k19_ok,trivial⟩
theorem okI_G {ng:Bool} {n:Nat} {t:Nat→Int} (h:S.okI ng n t=true):n≤80∧S.okG n t=true:=⟨(okI_iff.mp h).1,(okI_iff.mp h).2.1⟩
theorem sv_neg {ng:Bool} {v:Int}:S.sv (!ng) v= -S.sv ng v:=by cases ng<;>simp [S.sv]
theorem sv_sg {ng:Bool} {v:Int} (h:0≤v):S.sv (S.sgB ng v) v=S.sv ng v:=by
  unfold S.sgB
  rcases Int.lt_or_eq_of_le h with h2|h2
  · rw [decide_eq_true h2,Bool.and_true]
  · rw [← h2]; cases ng<;>rfl
theorem valF_zero: ∀ {k i:Nat},S.valF (fun _=>0) i k=0
  |0,_=>rfl
  |k+1,i=>by simp only [S.valF]; rw [valF_zero]; rfl
theorem upd_dig {R:List Int} {n p:Nat} {v:Int} (hR:R.length=n) (hd: ∀ j,j<n→0≤S.at' R j∧S.at' R j<1000000) (hv:0≤v∧v<1000000): ∀ j,j<n→0≤S.at' (S.mkl n fun j=>bif Nat.beq j p then v else S.at' R j) j∧S.at' (S.mkl n fun j=>bif Nat.beq j p then v else S.at' R j) j<1000000:=fun j hj=>by
  rw [at_mkl hj]
  by_cases h:j=p
  · subst h; rw [Nat.beq_refl,cond_true]; exact hv
  · rw [nbeq_no h,cond_false]; exact hd j hj
theorem upd_at {R:List Int} {n p j:Nat} {v:Int} (hj:j<n):S.at' (S.mkl n fun j=>bif Nat.beq j p then v else S.at' R j) j=if j=p then v else S.at' R j:=by
  rw [at_mkl hj]
  by_cases h:j=p
  · subst h; rw [Nat.beq_refl,cond_true,if_pos rfl]
  · rw [nbeq_no h,cond_false,if_neg h]
theorem pw_add: ∀ {a b:Nat},S.pw (a+b)=S.pw a*S.pw b
  |a,0=>by show S.pw a=S.pw a*1; rw [Int.mul_one]
  |a,b+1=>by
    show 1000000*S.pw (a+b)=S.pw a*(1000000*S.pw b)
    rw [pw_add,Int.mul_left_comm]
theorem mul_lt {a b:Nat} {v w:Int} (hv:0≤v∧v<S.pw a) (hw:0≤w∧w<S.pw b):0≤v*w∧v*w<S.pw (a+b):=by
  refine ⟨Int.mul_nonneg hv.1 hw.1,?_⟩
  rw [pw_add]
  have h1:v*w≤v*S.pw b:=Int.mul_le_mul_of_nonneg_left (by omega) hv.1
  have h2:v*S.pw b<S.pw a*S.pw b:=Int.mul_lt_mul_of_pos_right hv.2 pw_pos
  omega
theorem md_sum {x:Int} (h:0≤x∧x<1000000000000):0≤Int.tmod x 1000000∧Int.tmod x 1000000<1000000∧0≤Int.tdiv x 1000000∧Int.tdiv x 1000000<1000000∧x=Int.tmod x 1000000+1000000*Int.tdiv x 1000000:=by
  rw [tmB h.1,tdB h.1]
  omega
theorem mul_dig {x y:Int} (hx:0≤x∧x<1000000) (hy:0≤y∧y<1000000):0≤x*y∧x*y≤999998000001:=by
  refine ⟨Int.mul_nonneg hx.1 hy.1,?_⟩
  have h1:x*y≤999999*y:=Int.mul_le_mul_of_nonneg_right (by omega) hy.1
  omega
inductive St52 where
  |h0 (x0:Int) (x1:List Int)
  |h1 (x0:Int) (x1:Int) (x2:Int) (x3:Int) (x4:Int) (x5:List Int)
abbrev Rt52:=List Int
noncomputable def V52 (ap np mp:Nat) (tp:NI) (aq nq mq:Nat) (tq:NI) (r:Rt52):PV:=PV.own (3) (1) (List.length r)
noncomputable def N52 (ap np mp:Nat) (tp:NI) (aq nq mq:Nat) (tq:NI) (r:Rt52):List Blk:= [Blk.cols (List.length r) [Col.int .i64 fun j=>S.at' r j]]
noncomputable def I52 (ap np mp:Nat) (tp:NI) (aq nq mq:Nat) (tq:NI):St52→Hd
  | .h0 x0 x1=>⟨hd Tryz.f112 0,[PV.loose (PA.mk (1) (1) aq (0)) nq,
 PV.own (2) (1) (List.length x1),PV.unk,PV.unk,PV.unk,
 PV.loose (PA.mk (0) (1) ap (0)) np,PV.int .i64 (↑np:Int),
 PV.int .i64 x0,PV.unk,PV.unk,PV.unk],[[(2,(true,Blk.cols (List.length x1) [Col.int .i64 fun j=>S.at' x1 j]))],[(0,(false,.cols mp [.int .i64 tp])),(1,(false,.cols mq [.int .i64 tq]))]],3⟩
  | .h1 x0 x1 x2 x3 x4 x5=>⟨hd Tryz.f112 1,[PV.loose (PA.mk (1) (1) aq (0)) nq,
 PV.own (2) (1) (List.length x5),PV.int .i64 x0,PV.int .i64 x1,
 PV.int .i64 x2,PV.loose (PA.mk (0) (1) ap (0)) np,
 PV.int .i64 (↑np:Int),PV.int .i64 x3,
 PV.loose (PA.mk (1) (1) aq (0)) nq,PV.int .i64 (↑nq:Int),
 PV.int .i64 x4],[[(2,(true,Blk.cols (List.length x5) [Col.int .i64 fun j=>S.at' x5 j]))],[(0,(false,.cols mp [.int .i64 tp])),(1,(false,.cols mq [.int .i64 tq]))]],3⟩
noncomputable def q52 (ap np mp:Nat) (tp:NI) (aq nq mq:Nat) (tq:NI):St52→Option (St52⊕Rt52)| .h0 x0 x1=>bif (decide (x0<(↑np:Int))) then (bif (decide ((0:Int)≤x0∧x0<(↑np:Int))) then (bif (decide (Int.toNat x0+ap<mp)) then (some (.inl (.h1 (x0) (tp (Int.toNat x0+ap)) ((0:Int)) (x0) ((0:Int)) (x1)))) else (none)) else (none)) else (bif (decide (List.length x1≤List.length x1)) then (bif (decide (List.length x1≤1000000)) then (some (.inr (S.trim (S.mkl (List.length x1) fun j=>S.at' x1 j)))) else (none)) else (none))| .h1 x0 x1 x2 x3 x4 x5=>bif (decide (x4<(↑nq:Int))) then (bif (decide ((0:Int)≤x4∧x4<(↑nq:Int))) then (bif (decide (Int.toNat x4+aq<mq)) then (bif (lim .i64 (x0+x4)) then (bif (decide ((0:Int)≤x0+x4∧x0+x4<(↑(List.length x5):Int))) then (bif (decide (Int.toNat (x0+x4)<List.length x5)) then (bif (lim .i64 (x1*tq (Int.toNat x4+aq))) then (bif (lim .i64 (S.at' x5 (Int.toNat (x0+x4))+x1*tq (Int.toNat x4+aq))) then (bif (lim .i64 (x2+(S.at' x5 (Int.toNat (x0+x4))+x1*tq (Int.toNat x4+aq)))) then (bif (lim .i64 (Int.tdiv (x2+(S.at' x5 (Int.toNat (x0+x4))+x1*tq (Int.toNat x4+aq))) (1000000:Int))) then (bif (lim .i64 (x4+1)) then (some (.inl (.h1 (x0) (x1) (Int.tdiv (x2+(S.at' x5 (Int.toNat (x0+x4))+x1*tq (Int.toNat x4+aq))) (1000000:Int)) (x3) (x4+1) (S.mkl (List.length x5) fun j=>bif Nat.beq j (Int.toNat (x0+x4)) then Int.tmod (x2+(S.at' x5 (Int.toNat (x0+x4))+x1*tq (Int.toNat x4+aq))) (1000000:Int) else S.at' x5 j)))) else (none)) else (none)) else (none)) else (none)) else (none)) else (none)) else (none)) else (none)) else (none)) else (none)) else (bif (lim .i64 (x0+(↑nq:Int))) then (bif (decide ((0:Int)≤x0+(↑nq:Int)∧x0+(↑nq:Int)<(↑(List.length x5):Int))) then (bif (decide (Int.toNat (x0+(↑nq:Int))<List.length x5)) then (bif (lim .i64 (x3+1)) then (some (.inl (.h0 (x3+1) (S.mkl (List.length x5) fun j=>bif Nat.beq j (Int.toNat (x0+(↑nq:Int))) then x2 else S.at' x5 j)))) else (none)) else (none)) else (none)) else (none))
noncomputable def p52 (ap np mp:Nat) (tp:NI) (aq nq mq:Nat) (tq:NI):Option (St52⊕Rt52):=bif ((↑np:Int)==0) then (some (.inr ([]))) else (bif ((↑nq:Int)==0) then (some (.inr ([]))) else (bif (lim .i64 ((↑np:Int)+(↑nq:Int))) then (bif (decide ((0:Int)≤(↑np:Int)+(↑nq:Int)∧(↑np:Int)+(↑nq:Int)≤(↑np:Int)+(↑nq:Int)∧(↑np:Int)+(↑nq:Int)≤1000000)) then (some (.inl (.h0 ((0:Int)) (S.mkl (Int.toNat ((↑np:Int)+(↑nq:Int))) fun j=>0)))) else (none)) else (none)))
noncomputable def Te52 (test:TT) (Kst:KS) (Kret:KR) (ap np mp:Nat) (tp:NI) (aq nq mq:Nat) (tq:NI):Prop:=test ((↑np:Int)==0) (Kret (PV.nils) ([[(1,false,Blk.cols mq [Col.int .i64 tq]),(0,false,Blk.cols mp [Col.int .i64 tp])]]) (2)) (test ((↑nq:Int)==0) (Kret (PV.nils) ([[(1,false,Blk.cols mq [Col.int .i64 tq]),(0,false,Blk.cols mp [Col.int .i64 tp])]]) (2)) (test (lim .i64 ((↑np:Int)+(↑nq:Int))) (test (decide ((0:Int)≤(↑np:Int)+(↑nq:Int)∧(↑np:Int)+(↑nq:Int)≤(↑np:Int)+(↑nq:Int)∧(↑np:Int)+(↑nq:Int)≤1000000)) (Kst (hd Tryz.f112 0) ([PV.loose (PA.mk (1) (1) aq (0)) nq,PV.own (2) (1) (Int.toNat ((↑np:Int)+(↑nq:Int))),PV.unk,PV.unk,PV.unk,PV.loose (PA.mk (0) (1) ap (0)) np,PV.int .i64 (↑np:Int),PV.int .i64 (0:Int),PV.unk,PV.unk,PV.unk]) ([[(1,false,Blk.cols mq [Col.int .i64 tq]),(0,false,Blk.cols mp [Col.int .i64 tp]),(2,true,Blk.cols (Int.toNat ((↑np:Int)+(↑nq:Int))) [Col.int .i64 fun (x:Nat)=>0])]]) (3)) (False)) (False)))
theorem te52 (test:TT) (Kst:KS) (Kret:KR) (ap np mp:Nat) (tp:NI) (aq nq mq:Nat) (tq:NI):run test Tryz.env true (xD test) true 400 ⟨112,[.cd (mkFn Tryz.f112).body],argT 0 [.loose ⟨0,1,ap,0⟩ np,.loose ⟨1,1,aq,0⟩ nq],[[],[(0,(false,.cols mp [.int .i64 tp])),(1,(false,.cols mq [.int .i64 tq]))]],2⟩ (proj 2 [1,5,6,7,8,25,26,27,32,33,34] Kst Kret)=
  Te52 test Kst Kret ap np mp tp aq nq mq tq:=by kernel_rfl
noncomputable def T52_0 (test:TT) (Kst:KS) (Kret:KR) (ap np mp:Nat) (tp:NI) (aq nq mq:Nat) (tq:NI) (x0:Int) (x1:List Int):Prop:=test (decide (x0<(↑np:Int))) (test (decide ((0:Int)≤x0∧x0<(↑np:Int))) (test (decide (Int.toNat x0+ap<mp)) (Kst (hd Tryz.f112 1) ([PV.loose (PA.mk (1) (1) aq (0)) nq,PV.own (2) (1) (List.length x1),PV.int .i64 x0,PV.int .i64 (tp (Int.toNat x0+ap)),PV.int .i64 (0:Int),PV.loose (PA.mk (0) (1) ap (0)) np,PV.int .i64 (↑np:Int),PV.int .i64 x0,PV.loose (PA.mk (1) (1) aq (0)) nq,PV.int .i64 (↑nq:Int),PV.int .i64 (0:Int)]) ([[(1,false,Blk.cols mq [Col.int .i64 tq]),(0,false,Blk.cols mp [Col.int .i64 tp]),(2,true,Blk.cols (List.length x1) [Col.int .i64 fun j=>S.at' x1 j])]]) (3)) (False)) (False)) (test (decide (List.length x1≤List.length x1)) (test (decide (List.length x1≤1000000)) (Kret (PV.own (2) (1) (List.length (S.trim (S.mkl (List.length x1) fun j=>S.at' x1 j)))) ([[(1,false,Blk.cols mq [Col.int .i64 tq]),(0,false,Blk.cols mp [Col.int .i64 tp]),(2,true,Blk.cols (List.length (S.trim (S.mkl (List.length x1) fun j=>S.at' x1 j))) [Col.int .i64 fun j=>S.at' (S.trim (S.mkl (List.length x1) fun j=>S.at' x1 j)) j])]]) (4)) (False)) (False))
theorem t52_0 (test:TT) (Kst:KS) (Kret:KR) (ap np mp:Nat) (tp:NI) (aq nq mq:Nat) (tq:NI) (x0:Int) (x1:List Int):run test Tryz.env true (xD test) true 400 ⟨112,hd Tryz.f112 0,zipT [1,5,6,7,8,25,26,27,32,33,34] [PV.loose (PA.mk (1) (1) aq (0)) nq,
 PV.own (2) (1) (List.length x1),PV.unk,PV.unk,PV.unk,
 PV.loose (PA.mk (0) (1) ap (0)) np,PV.int .i64 (↑np:Int),
 PV.int .i64 x0,PV.unk,PV.unk,PV.unk],[[(2,(true,Blk.cols (List.length x1) [Col.int .i64 fun j=>S.at' x1 j]))],[(0,(false,.cols mp [.int .i64 tp])),(1,(false,.cols mq [.int .i64 tq]))]],3⟩ (proj 2 [1,5,6,7,8,25,26,27,32,33,34] Kst Kret)=
  T52_0 test Kst Kret ap np mp tp aq nq mq tq x0 x1:=by kernel_rfl
noncomputable def T52_1 (test:TT) (Kst:KS) (Kret:KR) (ap np mp:Nat) (tp:NI) (aq nq mq:Nat) (tq:NI) (x0 x1 x2 x3 x4:Int) (x5:List Int):Prop:=test (decide (x4<(↑nq:Int))) (test (decide ((0:Int)≤x4∧x4<(↑nq:Int))) (test (decide (Int.toNat x4+aq<mq)) (test (lim .i64 (x0+x4)) (test (decide ((0:Int)≤x0+x4∧x0+x4<(↑(List.length x5):Int))) (test (decide (Int.toNat (x0+x4)<List.length x5)) (test (lim .i64 (x1*tq (Int.toNat x4+aq))) (test (lim .i64 (S.at' x5 (Int.toNat (x0+x4))+x1*tq (Int.toNat x4+aq))) (test (lim .i64 (x2+(S.at' x5 (Int.toNat (x0+x4))+x1*tq (Int.toNat x4+aq)))) (test (lim .i64 (x0+x4)) (test (false) (False) (test (decide ((0:Int)≤x0+x4∧x0+x4<(↑(List.length x5):Int))) (test (decide (Int.toNat (x0+x4)<List.length x5)) (test (false) (False) (test (lim .i64 (Int.tdiv (x2+(S.at' x5 (Int.toNat (x0+x4))+x1*tq (Int.toNat x4+aq))) (1000000:Int))) (test (lim .i64 (x4+1)) (Kst (hd Tryz.f112 1) ([PV.loose (PA.mk (1) (1) aq (0)) nq,PV.own (2) (1) (List.length x5),PV.int .i64 x0,PV.int .i64 x1,PV.int .i64 (Int.tdiv (x2+(S.at' x5 (Int.toNat (x0+x4))+x1*tq (Int.toNat x4+aq))) (1000000:Int)),PV.loose (PA.mk (0) (1) ap (0)) np,PV.int .i64 (↑np:Int),PV.int .i64 x3,PV.loose (PA.mk (1) (1) aq (0)) nq,PV.int .i64 (↑nq:Int),PV.int .i64 (x4+1)]) ([[(1,false,Blk.cols mq [Col.int .i64 tq]),(0,false,Blk.cols mp [Col.int .i64 tp]),(2,true,Blk.cols (List.length x5) [Col.int .i64 fun j=>bif Nat.beq j (Int.toNat (x0+x4)) then Int.tmod (x2+(S.at' x5 (Int.toNat (x0+x4))+x1*tq (Int.toNat x4+aq))) (1000000:Int) else S.at' x5 j])]]) (3)) (False)) (False))) (False)) (False))) (False)) (False)) (False)) (False)) (False)) (False)) (False)) (False)) (False)) (test (lim .i64 (x0+(↑nq:Int))) (test (decide ((0:Int)≤x0+(↑nq:Int)∧x0+(↑nq:Int)<(↑(List.length x5):Int))) (test (decide (Int.toNat (x0+(↑nq:Int))<List.length x5)) (test (lim .i64 (x3+1)) (Kst (hd Tryz.f112 0) ([PV.loose (PA.mk (1) (1) aq (0)) nq,PV.own (2) (1) (List.length x5),PV.int .i64 x0,PV.int .i64 x1,PV.int .i64 x2,PV.loose (PA.mk (0) (1) ap (0)) np,PV.int .i64 (↑np:Int),PV.int .i64 (x3+1),PV.loose (PA.mk (1) (1) aq (0)) nq,PV.int .i64 (↑nq:Int),PV.int .i64 x4]) ([[(1,false,Blk.cols mq [Col.int .i64 tq]),(0,false,Blk.cols mp [Col.int .i64 tp]),(2,true,Blk.cols (List.length x5) [Col.int .i64 fun j=>bif Nat.beq j (Int.toNat (x0+(↑nq:Int))) then x2 else S.at' x5 j])]]) (3)) (False)) (False)) (False)) (False))
theorem t52_1 (test:TT) (Kst:KS) (Kret:KR) (ap np mp:Nat) (tp:NI) (aq nq mq:Nat) (tq:NI) (x0 x1 x2 x3 x4:Int) (x5:List Int):run test Tryz.env true (xD test) true 400 ⟨112,hd Tryz.f112 1,zipT [1,5,6,7,8,25,26,27,32,33,34] [PV.loose (PA.mk (1) (1) aq (0)) nq,
 PV.own (2) (1) (List.length x5),PV.int .i64 x0,PV.int .i64 x1,
 PV.int .i64 x2,PV.loose (PA.mk (0) (1) ap (0)) np,
 PV.int .i64 (↑np:Int),PV.int .i64 x3,
 PV.loose (PA.mk (1) (1) aq (0)) nq,PV.int .i64 (↑nq:Int),
 PV.int .i64 x4],[[(2,(true,Blk.cols (List.length x5) [Col.int .i64 fun j=>S.at' x5 j]))],[(0,(false,.cols mp [.int .i64 tp])),(1,(false,.cols mq [.int .i64 tq]))]],3⟩ (proj 2 [1,5,6,7,8,25,26,27,32,33,34] Kst Kret)=
  T52_1 test Kst Kret ap np mp tp aq nq mq tq x0 x1 x2 x3 x4 x5:=by kernel_rfl
noncomputable abbrev J52 (ap np mp:Nat) (tp:NI) (aq nq mq:Nat) (tq:NI):Rt52→Heap:=fun r=> [newL (2+1) ((N52 ap np mp tp aq nq mq tq) r)++ [(0,(false,.cols mp [.int .i64 tp])),(1,(false,.cols mq [.int .i64 tq]))]]
attribute [local irreducible] Int.subNatNat in
theorem be52 (ap np mp:Nat) (tp:NI) (aq nq mq:Nat) (tq:NI) (Kst:KS) (Kret:KR) (x:St52⊕Rt52) (hS:HS 2 400 ((I52 ap np mp tp aq nq mq tq)) Kst x) (hR:HR 2 400 ((V52 ap np mp tp aq nq mq tq)) (J52 ap np mp tp aq nq mq tq) Kret x) (h:p52 ap np mp tp aq nq mq tq=some x):Te52 cond Kst Kret ap np mp tp aq nq mq tq:=by
  unfold Te52
  unfold p52 at h
  exact bif_split h (fun c0 h=>ret_at hR _ h (fun n=>bif Nat.beq n 3 then 399 else n) rfl rfl rfl (rn_own_nils rfl) rfl (entl_fresh (use_own rfl) (fresh_ok rfl) (entl_bor (use_lo rfl) rfl rfl (entl_bor (use_lo rfl) rfl rfl entl_nil)))) (fun c0 h=>bif_split h (fun c1 h=>ret_at hR _ h (fun n=>bif Nat.beq n 3 then 399 else n) rfl rfl rfl (rn_own_nils rfl) rfl (entl_fresh (use_own rfl) (fresh_ok rfl) (entl_bor (use_lo rfl) rfl rfl (entl_bor (use_lo rfl) rfl rfl entl_nil)))) (fun c1 h=>bif_split h (fun c2 h=>bif_split h (fun c3 h=>stop_at hS _ h (fun n=>bif Nat.beq n 2 then 2 else n) rfl rfl rfl ⟨(rn_loose (use_lo rfl) rfl rfl rfl),⟨(rn_own (use_own rfl) rfl mkl_len),⟨(rn_unk _),⟨(rn_unk _),⟨(rn_unk _),⟨(rn_loose (use_lo rfl) rfl rfl rfl),⟨(rn_int rfl),⟨(rn_int rfl),⟨(rn_unk _),⟨(rn_unk _),⟨(rn_unk _),trivial⟩⟩⟩⟩⟩⟩⟩⟩⟩⟩⟩ rfl (entl_new (use_own rfl) rfl (Nat.le_of_eq mkl_len) (rcs_int (fun _ hj=>col_mkl (fun (t:Int)=>t) hj) rcs_nil) (entl_bor (use_lo rfl) rfl rfl (entl_bor (use_lo rfl) rfl rfl entl_nil)))) (fun c3 h=>no_some h)) (fun c2 h=>no_some h)))
attribute [local irreducible] Int.subNatNat in
theorem b52_0 (ap np mp:Nat) (tp:NI) (aq nq mq:Nat) (tq:NI) (Kst:KS) (Kret:KR) (x:St52⊕Rt52) (hS:HS 2 400 ((I52 ap np mp tp aq nq mq tq)) Kst x) (hR:HR 2 400 ((V52 ap np mp tp aq nq mq tq)) (J52 ap np mp tp aq nq mq tq) Kret x) (x0:Int) (x1:List Int) (h:q52 ap np mp tp aq nq mq tq (.h0 x0 x1)=some x):T52_0 cond Kst Kret ap np mp tp aq nq mq tq x0 x1:=by
  unfold T52_0
  rw [q52] at h
  exact bif_split h (fun c0 h=>bif_split h (fun c1 h=>bif_split h (fun c2 h=>stop_at hS _ h (fun n=>bif Nat.beq n 2 then 2 else n) rfl rfl rfl ⟨(rn_loose (use_lo rfl) rfl rfl rfl),⟨(rn_own (use_own rfl) rfl rfl),⟨(rn_int rfl),⟨(rn_int rfl),⟨(rn_int rfl),⟨(rn_loose (use_lo rfl) rfl rfl rfl),⟨(rn_int rfl),⟨(rn_int rfl),⟨(rn_loose (use_lo rfl) rfl rfl rfl),⟨(rn_int rfl),⟨(rn_int rfl),trivial⟩⟩⟩⟩⟩⟩⟩⟩⟩⟩⟩ rfl (entl_new (use_own rfl) rfl (Nat.le_of_eq rfl) (rcs_int (fun _ _=>rfl) rcs_nil) (entl_bor (use_lo rfl) rfl rfl (entl_bor (use_lo rfl) rfl rfl entl_nil)))) (fun c2 h=>no_some h)) (fun c1 h=>no_some h)) (fun c0 h=>bif_split h (fun c1 h=>bif_split h (fun c2 h=>ret_at hR _ h (fun n=>bif Nat.beq n 3 then 2 else n) rfl rfl rfl (rn_own (use_own rfl) rfl rfl) rfl (entl_new (use_own rfl) rfl (Nat.le_of_eq rfl) (rcs_int (fun _ _=>rfl) rcs_nil) (entl_bor (use_lo rfl) rfl rfl (entl_bor (use_lo rfl) rfl rfl entl_nil)))) (fun c2 h=>no_some h)) (fun c1 h=>no_some h))
attribute [local irreducible] Int.subNatNat in
theorem b52_1 (ap np mp:Nat) (tp:NI) (aq nq mq:Nat) (tq:NI) (Kst:KS) (Kret:KR) (x:St52⊕Rt52) (hS:HS 2 400 ((I52 ap np mp tp aq nq mq tq)) Kst x) (hR:HR 2 400 ((V52 ap np mp tp aq nq mq tq)) (J52 ap np mp tp aq nq mq tq) Kret x) (x0 x1 x2 x3 x4:Int) (x5:List Int) (h:q52 ap np mp tp aq nq mq tq (.h1 x0 x1 x2 x3 x4 x5)=some x):T52_1 cond Kst Kret ap np mp tp aq nq mq tq x0 x1 x2 x3 x4 x5:=by
  unfold T52_1
  rw [q52] at h
  exact bif_split h (fun c0 h=>bif_split h (fun c1 h=>bif_split h (fun c2 h=>bif_split h (fun c3 h=>bif_split h (fun c4 h=>bif_split h (fun c5 h=>bif_split h (fun c6 h=>bif_split h (fun c7 h=>bif_split h (fun c8 h=>cond_yes c3 (cond_no rfl (cond_yes c4 (cond_yes c5 (cond_no rfl (bif_split h (fun c9 h=>bif_split h (fun c10 h=>stop_at hS _ h (fun n=>bif Nat.beq n 2 then 2 else n) rfl rfl rfl ⟨(rn_loose (use_lo rfl) rfl rfl rfl),⟨(rn_own (use_own rfl) rfl mkl_len),⟨(rn_int rfl),⟨(rn_int rfl),⟨(rn_int rfl),⟨(rn_loose (use_lo rfl) rfl rfl rfl),⟨(rn_int rfl),⟨(rn_int rfl),⟨(rn_loose (use_lo rfl) rfl rfl rfl),⟨(rn_int rfl),⟨(rn_int rfl),trivial⟩⟩⟩⟩⟩⟩⟩⟩⟩⟩⟩ rfl (entl_new (use_own rfl) rfl (Nat.le_of_eq mkl_len) (rcs_int (fun _ hj=>col_mkl (fun (t:Int)=>t) hj) rcs_nil) (entl_bor (use_lo rfl) rfl rfl (entl_bor (use_lo rfl) rfl rfl entl_nil)))) (fun c10 h=>no_some h)) (fun c9 h=>no_some h))))))) (fun c8 h=>no_some h)) (fun c7 h=>no_some h)) (fun c6 h=>no_some h)) (fun c5 h=>no_some h)) (fun c4 h=>no_some h)) (fun c3 h=>no_some h)) (fun c2 h=>no_some h)) (fun c1 h=>no_some h)) (fun c0 h=>bif_split h (fun c1 h=>bif_split h (fun c2 h=>bif_split h (fun c3 h=>bif_split h (fun c4 h=>stop_at hS _ h (fun n=>bif Nat.beq n 2 then 2 else n) rfl rfl rfl ⟨(rn_loose (use_lo rfl) rfl rfl rfl),⟨(rn_own (use_own rfl) rfl mkl_len),⟨(rn_unk _),⟨(rn_unk _),⟨(rn_unk _),⟨(rn_loose (use_lo rfl) rfl rfl rfl),⟨(rn_int rfl),⟨(rn_int rfl),⟨(rn_unk _),⟨(rn_unk _),⟨(rn_unk _),trivial⟩⟩⟩⟩⟩⟩⟩⟩⟩⟩⟩ rfl (entl_new (use_own rfl) rfl (Nat.le_of_eq mkl_len) (rcs_int (fun _ hj=>col_mkl (fun (t:Int)=>t) hj) rcs_nil) (entl_bor (use_lo rfl) rfl rfl (entl_bor (use_lo rfl) rfl rfl entl_nil)))) (fun c4 h=>no_some h)) (fun c3 h=>no_some h)) (fun c2 h=>no_some h)) (fun c1 h=>no_some h))
theorem a52 (ap np mp:Nat) (tp:NI) (aq nq mq:Nat) (tq:NI) {r:Rt52} (h:Goes ((q52 ap np mp tp aq nq mq tq)) ((p52 ap np mp tp aq nq mq tq)) r):CallR Tryz.prog 112 [.loose ⟨0,1,ap,0⟩ np,.loose ⟨1,1,aq,0⟩ nq] [[(0,(false,.cols mp [.int .i64 tp])),(1,(false,.cols mq [.int .i64 tq]))]] 2 ((V52 ap np mp tp aq nq mq tq) r) ((J52 ap np mp tp aq nq mq tq) r) 400∧ ∃ F,Tryz.prog.funcs[112]? =some F∧F.body.isSome=true∧(F.name== "runtime.NumGoroutine")=false:=by
  refine dec_calls (f:=112) (lo:=2) (hi:=400) Tryz.envOk Tryz.mixed xD_ok ((I52 ap np mp tp aq nq mq tq)) ((V52 ap np mp tp aq nq mq tq)) (J52 ap np mp tp aq nq mq tq) (fn:=mkFn Tryz.f112) (ts:= [1,5,6,7,8,25,26,27,32,33,34]) (n:=400) rfl (by decide) (by simp) (names_of rfl) ?_ ?_ ?_ h
  · intro s; cases s<;>exact ⟨hd_ok _ _,by simp [I52],names_of rfl,Nat.le_of_ble_eq_true rfl⟩
  · intro Kst Kret x hS hR h
    exact Holds.eq (te52 cond Kst Kret ap np mp tp aq nq mq tq) (be52 ap np mp tp aq nq mq tq Kst Kret x hS hR h)
  · intro Kst Kret x hS hR s h
    cases s with
    |h0 x0 x1=>exact Holds.eq (t52_0 cond Kst Kret ap np mp tp aq nq mq tq x0 x1) (b52_0 ap np mp tp aq nq mq tq Kst Kret x hS hR x0 x1 h)
    |h1 x0 x1 x2 x3 x4 x5=>exact Holds.eq (t52_1 cond Kst Kret ap np mp tp aq nq mq tq x0 x1 x2 x3 x4 x5) (b52_1 ap np mp tp aq nq mq tq Kst Kret x hS hR x0 x1 x2 x3 x4 x5 h)
noncomputable abbrev w52 {α:Type} (g:Nat→Nat→Nat→(Nat→Int)→Nat→Nat→Nat→(Nat→Int)→α) (x:(Nat×Nat×Nat×(Nat→Int)×Unit)×(Nat×Nat×Nat×(Nat→Int)×Unit)×Unit):α:=g x.1.1 x.1.2.1 x.1.2.2.1 x.1.2.2.2.1 x.2.1.1 x.2.1.2.1 x.2.1.2.2.1 x.2.1.2.2.2.1
noncomputable def k52:Con:=⟨112,[.one (.list [.int .i64]),.one (.list [.int .i64])],w52 (fun ap np mp tp aq nq mq tq=>decide ((ap+np≤mp∧aq+nq≤mq)∧(np≤1000∧nq≤1000)∧S.okG np (fun j=>tp (j+ap))=true∧S.okG nq (fun j=>tq (j+aq))=true)),w52 (fun ap np mp tp aq nq mq tq=>(V52 ap np mp tp aq nq mq tq) (S.grp ((S.val np (fun j=>tp (j+ap)))*(S.val nq (fun j=>tq (j+aq)))))),w52 (fun ap np mp tp aq nq mq tq=>(N52 ap np mp tp aq nq mq tq) (S.grp ((S.val np (fun j=>tp (j+ap)))*(S.val nq (fun j=>tq (j+aq)))))),fun _ _=> .dead⟩
theorem s52i (ap np mp:Nat) (tp:Nat→Int) (aq nq mq:Nat) (tq:Nat→Int) (hp:(ap+np≤mp∧aq+nq≤mq)∧(np≤1000∧nq≤1000)∧S.okG np (fun j=>tp (j+ap))=true∧S.okG nq (fun j=>tq (j+aq))=true) (i:Nat) (hi:i<np): ∀ (k a:Nat) (c:Int) (R:List Int),a+k=nq→R.length=np+nq→(∀ j,j<np+nq→0≤S.at' R j∧S.at' R j<1000000)→(∀ j,i+nq≤j→j<np+nq→S.at' R j=0)→(0≤c∧c<1000000)→
    ∃ R':List Int,R'.length=np+nq∧(∀ j,j<np+nq→0≤S.at' R' j∧S.at' R' j<1000000)∧(∀ j,i+1+nq≤j→j<np+nq→S.at' R' j=0)∧(∀ j,j<i+a→S.at' R' j=S.at' R j)∧S.valF (S.at' R') (i+a) (np+nq-(i+a))=S.valF (S.at' R) (i+a) (np+nq-(i+a))+c+tp (i+ap)*S.valF (fun j=>tq (j+aq)) a k∧
      ∀ res:List Int,(Comes (q52 ap np mp tp aq nq mq tq) (.h0 ((i:Int)+1) R') res→Comes (q52 ap np mp tp aq nq mq tq) (.h1 (i:Int) (tp (i+ap)) c (i:Int) (a:Int) R) res):=by
  obtain ⟨⟨hp1,hp2⟩,⟨hp3,hp4⟩,g1,g2⟩:=hp
  have d1:=(okG_iff.mp g1).1 i hi
  have d2:=(okG_iff.mp g2).1
  (try dsimp only at d1)
  intro k
  induction k with
  | zero=>
    intro a c R ha hR hd hz hc
    obtain rfl:a=nq:=by omega
    have z0:=hz (i+a) (Nat.le_refl _) (by omega)
    refine ⟨S.mkl (np+a) (fun j=>bif Nat.beq j (i+a) then c else S.at' R j),mkl_len,upd_dig hR hd hc,fun j h1 h2=> ?_,fun j h1=> ?_,?_,fun res hC=> ?_⟩
    · rw [upd_at h2,if_neg (by omega)]; exact hz j (by omega) h2
    · rw [upd_at (by omega),if_neg (by omega)]
    · rw [show np+a-(i+a)=(np+a-(i+a+1))+1 by omega]
      simp only [S.valF]
      rw [upd_at (by omega),if_pos rfl,z0,valF_congr (u:=S.at' R) fun j h1 h2=>by rw [upd_at (by omega),if_neg (by omega)]]
      omega
    · rw [← hR] at hC
      have e1:((i:Int)+a).toNat=i+a:=by omega
      apply Comes.of
      show Goes _ _ _
      (first|rw [q52]|unfold q52)
      repeat' (first|with_reducible refine goes_if (fun h=> ?_) (fun h=> ?_)<;>(try simp only [SH,e1] at h)|exact goes_none.mpr (by omega))
      all_goals first|(exfalso; omega)|(rw [e1]; exact hC)
  | succ k ih=>
    intro a c R ha hR hd hz hc
    have hq:=d2 a (by omega)
    (try dsimp only at hq)
    have hm:=mul_dig d1 hq
    have hr:=hd (i+a) (by omega)
    have ms:=md_sum (x:=c+(S.at' R (i+a)+tp (i+ap)*tq (a+aq))) (by omega)
    generalize hD:Int.tmod (c+(S.at' R (i+a)+tp (i+ap)*tq (a+aq))) 1000000=dg at ms
    generalize hC:Int.tdiv (c+(S.at' R (i+a)+tp (i+ap)*tq (a+aq))) 1000000=cy at ms
    obtain ⟨R',r1,r2,r3,r4,r5,r6⟩:=ih (a+1) cy (S.mkl (np+nq) fun j=>bif Nat.beq j (i+a) then dg else S.at' R j) (by omega) mkl_len (upd_dig hR hd (by omega)) (fun j h1 h2=>by rw [upd_at h2,if_neg (by omega)]; exact hz j h1 h2) (by omega)
    refine ⟨R',r1,r2,r3,fun j h1=> ?_,?_,fun res hX=> ?_⟩
    · rw [r4 j (by omega),upd_at (by omega),if_neg (by omega)]
    · rw [show np+nq-(i+a)=(np+nq-(i+(a+1)))+1 by omega]
      have e1:=r4 (i+a) (by omega)
      rw [upd_at (by omega),if_pos rfl] at e1
      have r5':S.valF (S.at' (S.mkl (np+nq) fun j=>bif Nat.beq j (i+a) then dg else S.at' R j)) (i+(a+1)) (np+nq-(i+(a+1)))=S.valF (S.at' R) (i+(a+1)) (np+nq-(i+(a+1))):=valF_congr fun j h1 h2=>by rw [upd_at (by omega),if_neg (by omega)]
      rw [r5'] at r5
      simp only [S.valF]
      have ed: ∀ x:Int,tp (i+ap)*(tq (a+aq)+1000000*x)=tp (i+ap)*tq (a+aq)+1000000*(tp (i+ap)*x):=fun x=>by rw [Int.mul_add,Int.mul_left_comm]
      rw [show i+a+1=i+(a+1) by omega,r5,e1,ed]
      generalize tp (i+ap)*S.valF _ _ _=w1 at*
      generalize S.valF _ _ _=w2 at*
      (try dsimp only)
      omega
    · have r6:=r6 res hX
      rw [← hR] at r6
      have e1:((i:Int)+a).toNat=i+a:=by omega
      clear ih r5 hX
      apply Comes.of
      show Goes _ _ _
      rw [q52]
      simp only [e1,Int.toNat_natCast,hD,hC]
      repeat' (first|with_reducible refine goes_if (fun h=> ?_) (fun h=> ?_)<;>(try simp only [SH] at h)|exact goes_none.mpr (by omega))
      all_goals first|(exfalso; omega)|exact r6
theorem s52' (ap np mp:Nat) (tp:Nat→Int) (aq nq mq:Nat) (tq:Nat→Int) (hp:(ap+np≤mp∧aq+nq≤mq)∧(np≤1000∧nq≤1000)∧S.okG np (fun j=>tp (j+ap))=true∧S.okG nq (fun j=>tq (j+aq))=true): ∀ (k i:Nat) (R:List Int),i+k=np→R.length=np+nq→(∀ j,j<np+nq→0≤S.at' R j∧S.at' R j<1000000)→(∀ j,i+nq≤j→j<np+nq→S.at' R j=0)→
    ∃ R':List Int,R'.length=np+nq∧(∀ j,j<np+nq→0≤S.at' R' j∧S.at' R' j<1000000)∧(∀ j,j<i→S.at' R' j=S.at' R j)∧S.valF (S.at' R') (i) (np+nq-(i))=S.valF (S.at' R) (i) (np+nq-(i))+S.valF (fun j=>tp (j+ap)) i k*(S.val nq (fun j=>tq (j+aq)))∧Comes (q52 ap np mp tp aq nq mq tq) (.h0 (i:Int) R) (S.trim R'):=by
  have hp':=hp
  obtain ⟨⟨hp1,hp2⟩,⟨hp3,hp4⟩,g1,g2⟩:=hp
  intro k
  induction k with
  |zero=>
    intro i R hi hR hd hz
    refine ⟨R,hR,hd,fun j _=>rfl,by simp only [S.valF]; rw [Int.zero_mul,Int.add_zero],?_⟩
    rw [← trim_at]
    apply Comes.of
    show Goes _ _ _
    (first|rw [q52]|unfold q52)
    repeat' (first|with_reducible refine goes_if (fun h=> ?_) (fun h=> ?_)<;>(try simp only [SH] at h)|exact goes_none.mpr (by omega))
    all_goals first|(exfalso; omega)|exact goes_inr.mpr rfl
  | succ k ih=>
    intro i R hi hR hd hz
    obtain ⟨R1,a1,a2,a3,a4,a5,a6⟩:=s52i ap np mp tp aq nq mq tq hp' i (by omega) nq 0 0 R (by omega) hR hd hz (by omega)
    obtain ⟨R',b1,b2,b3,b4,b5⟩:=ih (i+1) R1 (by omega) a1 a2 (fun j h1 h2=>a3 j (by omega) h2)
    have vq:S.valF (fun j=>tq (j+aq)) 0 nq=(S.val nq (fun j=>tq (j+aq))):=rfl
    rw [vq,Nat.add_zero,Int.add_zero] at a5
    refine ⟨R',b1,b2,fun j hj=>by rw [b3 j (by omega),a4 j (by omega)],?_,?_⟩
    · have e1:=b3 i (by omega)
      rw [show np+nq-i=(np+nq-(i+1))+1 by omega] at a5 ⊢
      simp only [S.valF] at a5 ⊢
      rw [e1,b4,Int.add_mul,Int.mul_assoc]
      (try dsimp only)
      generalize tp (i+ap)*(S.val nq (fun j=>tq (j+aq)))=w1 at*
      generalize S.valF (fun j=>tp (j+ap)) (i+1) k*(S.val nq (fun j=>tq (j+aq)))=w2 at*
      generalize S.valF _ _ _=w3 at*
      generalize S.valF _ _ _=w4 at*
      omega
    · have a6:=a6 _ b5
      apply Comes.of
      show Goes _ _ _
      (first|rw [q52]|unfold q52)
      repeat' (first|with_reducible refine goes_if (fun h=> ?_) (fun h=> ?_)<;>(try simp only [SH] at h)|exact goes_none.mpr (by omega))
      all_goals first|(exfalso; omega)|exact a6
theorem s52 (ap np mp:Nat) (tp:Nat→Int) (aq nq mq:Nat) (tq:Nat→Int) (hp:(ap+np≤mp∧aq+nq≤mq)∧(np≤1000∧nq≤1000)∧S.okG np (fun j=>tp (j+ap))=true∧S.okG nq (fun j=>tq (j+aq))=true):Goes ((q52 ap np mp tp aq nq mq tq)) ((p52 ap np mp tp aq nq mq tq)) (S.grp ((S.val np (fun j=>tp (j+ap)))*(S.val nq (fun j=>tq (j+aq))))):=by
  have hp':=hp
  obtain ⟨⟨hp1,hp2⟩,⟨hp3,hp4⟩,g1,g2⟩:=hp
  by_cases h1:np=0
  · subst h1
    have e':S.val 0 (fun j=>tp (j+ap))=0:=rfl
    rw [e',Int.zero_mul,grp_zero]
    show Goes _ _ _
    unfold p52
    repeat' (first|with_reducible refine goes_if (fun h=> ?_) (fun h=> ?_)<;>(try simp only [SH] at h)|exact goes_none.mpr (by omega))
    all_goals first|(exfalso; omega)|(exfalso; simp at*; done)|exact goes_inr.mpr rfl
  · by_cases h2:nq=0
    · subst h2
      have e':S.val 0 (fun j=>tq (j+aq))=0:=rfl
      rw [e',Int.mul_zero,grp_zero]
      show Goes _ _ _
      unfold p52
      repeat' (first|with_reducible refine goes_if (fun h=> ?_) (fun h=> ?_)<;>(try simp only [SH] at h)|exact goes_none.mpr (by omega))
      all_goals first|(exfalso; omega)|(exfalso; simp at*; done)|exact goes_inr.mpr rfl
    · have z: ∀ j,j<np+nq→S.at' (S.mkl (np+nq) fun _=>(0:Int)) j=0:=fun j hj=>at_mkl hj
      obtain ⟨R',r1,r2,r3,r4,r5⟩:=s52' ap np mp tp aq nq mq tq hp' np 0 (S.mkl (np+nq) fun _=>0) (by omega) mkl_len (fun j hj=>by rw [z j hj]; omega) (fun j _ hj=>z j hj)
      have z2:S.valF (S.at' (S.mkl (np+nq) fun _=>(0:Int))) 0 (np+nq-0)=0:=by rw [valF_congr (u:=fun _=>0) fun j _ hj=>z j (by omega)]; exact valF_zero
      have vp:S.valF (fun j=>tp (j+ap)) 0 np=(S.val np (fun j=>tp (j+ap))):=rfl
      rw [z2,vp,Int.zero_add,Nat.sub_zero] at r4
      have e:S.trim R'=S.grp ((S.val np (fun j=>tp (j+ap)))*(S.val nq (fun j=>tq (j+aq)))):=by
        rw [trim_grp fun x hx=>by obtain ⟨j,hj,rfl⟩:=List.getElem_of_mem hx; have:=r2 j (by omega); rw [at_lt hj] at this; exact this]
        rw [← val_at,r1]
        exact congrArg S.grp r4
      rw [e] at r5
      have en:((np:Int)+nq).toNat=np+nq:=by omega
      show Goes _ _ _
      unfold p52
      repeat' (first|with_reducible refine goes_if (fun h=> ?_) (fun h=> ?_)<;>(try simp only [SH,en] at h)|exact goes_none.mpr (by omega))
      all_goals first|(exfalso; omega)|(exfalso; simp at*; omega)|(rw [en]; exact r5)
theorem k52_ok:k52.ok Tryz.prog:=by
  intro x hx
  obtain ⟨⟨ap,np,mp,tp,_⟩,⟨aq,nq,mq,tq,_⟩,_⟩:=x
  obtain ⟨h1,h2⟩:=a52 ap np mp tp aq nq mq tq (s52 ap np mp tp aq nq mq tq (of_dec hx rfl))
  exact ⟨⟨400,(by decide:2+1+1≤400),h1⟩,h2⟩
inductive St53 where
  |h0 (x0:Int) (x1:List Int)
  |h1 (x0:Int) (x1:Int) (x2:Int) (x3:List Int)
abbrev Rt53:=List Int
noncomputable def V53 (ap np mp:Nat) (tp:NI) (aq nq mq:Nat) (tq:NI) (r:Rt53):PV:=PV.own (3) (1) (List.length r)
noncomputable def N53 (ap np mp:Nat) (tp:NI) (aq nq mq:Nat) (tq:NI) (r:Rt53):List Blk:= [Blk.cols (List.length r) [Col.int .i64 fun j=>S.at' r j]]
noncomputable def I53 (ap np mp:Nat) (tp:NI) (aq nq mq:Nat) (tq:NI):St53→Hd
  | .h0 x0 x1=>⟨hd Tryz.f109 0,[PV.loose (PA.mk (0) (1) ap (0)) np,
 PV.loose (PA.mk (1) (1) aq (0)) nq,
 PV.own (2) (1) (List.length x1),PV.int .i64 x0,PV.unk,PV.unk],[[(2,(true,Blk.cols (List.length x1) [Col.int .i64 fun j=>S.at' x1 j]))],[(0,(false,.cols mp [.int .i64 tp])),(1,(false,.cols mq [.int .i64 tq]))]],3⟩
  | .h1 x0 x1 x2 x3=>⟨hd Tryz.f109 1,[PV.loose (PA.mk (0) (1) ap (0)) np,
 PV.loose (PA.mk (1) (1) aq (0)) nq,
 PV.own (2) (1) (List.length x3),PV.int .i64 x0,PV.int .i64 x1,
 PV.int .i64 x2],[[(2,(true,Blk.cols (List.length x3) [Col.int .i64 fun j=>S.at' x3 j]))],[(0,(false,.cols mp [.int .i64 tp])),(1,(false,.cols mq [.int .i64 tq]))]],3⟩
noncomputable def q53 (ap np mp:Nat) (tp:NI) (aq nq mq:Nat) (tq:NI):St53→Option (St53⊕Rt53)| .h0 x0 x1=>bif (decide (x0<(↑np:Int))) then (some (.inl (.h1 (x0) ((0:Int)) ((0:Int)) (x1)))) else (bif (decide (List.length x1≤List.length x1)) then (bif (decide (List.length x1≤1000000)) then (some (.inr (S.trim (S.mkl (List.length x1) fun j=>S.at' x1 j)))) else (none)) else (none))| .h1 x0 x1 x2 x3=>bif (decide (x2<(↑nq:Int))) then (bif (lim .i64 (x0+x2)) then (bif (decide ((0:Int)≤x0+x2∧x0+x2<(↑(List.length x3):Int))) then (bif (decide (Int.toNat (x0+x2)<List.length x3)) then (bif (decide ((0:Int)≤x0∧x0<(↑np:Int))) then (bif (decide (Int.toNat x0+ap<mp)) then (bif (decide ((0:Int)≤x2∧x2<(↑nq:Int))) then (bif (decide (Int.toNat x2+aq<mq)) then (bif (lim .i64 (tp (Int.toNat x0+ap)*tq (Int.toNat x2+aq))) then (bif (lim .i64 (S.at' x3 (Int.toNat (x0+x2))+tp (Int.toNat x0+ap)*tq (Int.toNat x2+aq))) then (bif (lim .i64 (S.at' x3 (Int.toNat (x0+x2))+tp (Int.toNat x0+ap)*tq (Int.toNat x2+aq)+x1)) then (bif (lim .i64 (Int.tdiv (S.at' x3 (Int.toNat (x0+x2))+tp (Int.toNat x0+ap)*tq (Int.toNat x2+aq)+x1) (1000000:Int))) then (bif (lim .i64 (x2+1)) then (some (.inl (.h1 (x0) (Int.tdiv (S.at' x3 (Int.toNat (x0+x2))+tp (Int.toNat x0+ap)*tq (Int.toNat x2+aq)+x1) (1000000:Int)) (x2+1) (S.mkl (List.length x3) fun j=>bif Nat.beq j (Int.toNat (x0+x2)) then Int.tmod (S.at' x3 (Int.toNat (x0+x2))+tp (Int.toNat x0+ap)*tq (Int.toNat x2+aq)+x1) (1000000:Int) else S.at' x3 j)))) else (none)) else (none)) else (none)) else (none)) else (none)) else (none)) else (none)) else (none)) else (none)) else (none)) else (none)) else (none)) else (bif (decide (x1>0)) then (bif (lim .i64 (x0+x2)) then (bif (decide ((0:Int)≤x0+x2∧x0+x2<(↑(List.length x3):Int))) then (bif (decide (Int.toNat (x0+x2)<List.length x3)) then (bif (decide ((0:Int)≤x0∧x0<(↑np:Int))) then (bif (decide (Int.toNat x0+ap<mp)) then (bif (lim .i64 (tp (Int.toNat x0+ap)*0)) then (bif (lim .i64 (S.at' x3 (Int.toNat (x0+x2))+tp (Int.toNat x0+ap)*0)) then (bif (lim .i64 (S.at' x3 (Int.toNat (x0+x2))+tp (Int.toNat x0+ap)*0+x1)) then (bif (lim .i64 (Int.tdiv (S.at' x3 (Int.toNat (x0+x2))+tp (Int.toNat x0+ap)*0+x1) (1000000:Int))) then (bif (lim .i64 (x2+1)) then (some (.inl (.h1 (x0) (Int.tdiv (S.at' x3 (Int.toNat (x0+x2))+tp (Int.toNat x0+ap)*0+x1) (1000000:Int)) (x2+1) (S.mkl (List.length x3) fun j=>bif Nat.beq j (Int.toNat (x0+x2)) then Int.tmod (S.at' x3 (Int.toNat (x0+x2))+tp (Int.toNat x0+ap)*0+x1) (1000000:Int) else S.at' x3 j)))) else (none)) else (none)) else (none)) else (none)) else (none)) else (none)) else (none)) else (none)) else (none)) else (none)) else (bif (lim .i64 (x0+1)) then (some (.inl (.h0 (x0+1) (x3)))) else (none)))
noncomputable def p53 (ap np mp:Nat) (tp:NI) (aq nq mq:Nat) (tq:NI):Option (St53⊕Rt53):=bif (lim .i64 ((↑np:Int)+(↑nq:Int))) then (bif (lim .i64 ((↑np:Int)+(↑nq:Int)+1)) then (bif (decide ((0:Int)≤(↑np:Int)+(↑nq:Int)+1∧(↑np:Int)+(↑nq:Int)+1≤(↑np:Int)+(↑nq:Int)+1∧(↑np:Int)+(↑nq:Int)+1≤1000000)) then (some (.inl (.h0 ((0:Int)) (S.mkl (Int.toNat ((↑np:Int)+(↑nq:Int)+1)) fun j=>0)))) else (none)) else (none)) else (none)
noncomputable def Te53 (test:TT) (Kst:KS) (Kret:KR) (ap np mp:Nat) (tp:NI) (aq nq mq:Nat) (tq:NI):Prop:=test (lim .i64 ((↑np:Int)+(↑nq:Int))) (test (lim .i64 ((↑np:Int)+(↑nq:Int)+1)) (test (decide ((0:Int)≤(↑np:Int)+(↑nq:Int)+1∧(↑np:Int)+(↑nq:Int)+1≤(↑np:Int)+(↑nq:Int)+1∧(↑np:Int)+(↑nq:Int)+1≤1000000)) (Kst (hd Tryz.f109 0) ([PV.loose (PA.mk (0) (1) ap (0)) np,PV.loose (PA.mk (1) (1) aq (0)) nq,PV.own (2) (1) (Int.toNat ((↑np:Int)+(↑nq:Int)+1)),PV.int .i64 (0:Int),PV.unk,PV.unk]) ([[(1,false,Blk.cols mq [Col.int .i64 tq]),(0,false,Blk.cols mp [Col.int .i64 tp]),(2,true,Blk.cols (Int.toNat ((↑np:Int)+(↑nq:Int)+1)) [Col.int .i64 fun (x:Nat)=>0])]]) (3)) (False)) (False)) (False)
theorem te53 (test:TT) (Kst:KS) (Kret:KR) (ap np mp:Nat) (tp:NI) (aq nq mq:Nat) (tq:NI):run test Tryz.env true (xD test) true 400 ⟨109,[.cd (mkFn Tryz.f109).body],argT 0 [.loose ⟨0,1,ap,0⟩ np,.loose ⟨1,1,aq,0⟩ nq],[[],[(0,(false,.cols mp [.int .i64 tp])),(1,(false,.cols mq [.int .i64 tq]))]],2⟩ (proj 2 [0,1,5,6,7,8] Kst Kret)=
  Te53 test Kst Kret ap np mp tp aq nq mq tq:=by kernel_rfl
noncomputable def T53_0 (test:TT) (Kst:KS) (Kret:KR) (ap np mp:Nat) (tp:NI) (aq nq mq:Nat) (tq:NI) (x0:Int) (x1:List Int):Prop:=test (decide (x0<(↑np:Int))) (Kst (hd Tryz.f109 1) ([PV.loose (PA.mk (0) (1) ap (0)) np,PV.loose (PA.mk (1) (1) aq (0)) nq,PV.own (2) (1) (List.length x1),PV.int .i64 x0,PV.int .i64 (0:Int),PV.int .i64 (0:Int)]) ([[(1,false,Blk.cols mq [Col.int .i64 tq]),(0,false,Blk.cols mp [Col.int .i64 tp]),(2,true,Blk.cols (List.length x1) [Col.int .i64 fun j=>S.at' x1 j])]]) (3)) (test (decide (List.length x1≤List.length x1)) (test (decide (List.length x1≤1000000)) (Kret (PV.own (2) (1) (List.length (S.trim (S.mkl (List.length x1) fun j=>S.at' x1 j)))) ([[(1,false,Blk.cols mq [Col.int .i64 tq]),(0,false,Blk.cols mp [Col.int .i64 tp]),(2,true,Blk.cols (List.length (S.trim (S.mkl (List.length x1) fun j=>S.at' x1 j))) [Col.int .i64 fun j=>S.at' (S.trim (S.mkl (List.length x1) fun j=>S.at' x1 j)) j])]]) (4)) (False)) (False))
theorem t53_0 (test:TT) (Kst:KS) (Kret:KR) (ap np mp:Nat) (tp:NI) (aq nq mq:Nat) (tq:NI) (x0:Int) (x1:List Int):run test Tryz.env true (xD test) true 400 ⟨109,hd Tryz.f109 0,zipT [0,1,5,6,7,8] [PV.loose (PA.mk (0) (1) ap (0)) np,
 PV.loose (PA.mk (1) (1) aq (0)) nq,
 PV.own (2) (1) (List.length x1),PV.int .i64 x0,PV.unk,PV.unk],[[(2,(true,Blk.cols (List.length x1) [Col.int .i64 fun j=>S.at' x1 j]))],[(0,(false,.cols mp [.int .i64 tp])),(1,(false,.cols mq [.int .i64 tq]))]],3⟩ (proj 2 [0,1,5,6,7,8] Kst Kret)=
  T53_0 test Kst Kret ap np mp tp aq nq mq tq x0 x1:=by kernel_rfl
noncomputable abbrev u53_1_0 (ap:Nat) (tp:NI) (aq:Nat) (tq:NI) (x0 x1 x2:Int) (x3:List Int):=S.at' x3 (Int.toNat (x0+x2))+tp (Int.toNat x0+ap)*tq (Int.toNat x2+aq)+x1
noncomputable abbrev u53_1_1 (ap:Nat) (tp:NI) (x0:Int) (x1:Int) (x2:Int) (x3:List Int):=S.at' x3 (Int.toNat (x0+x2))+tp (Int.toNat x0+ap)*0+x1
noncomputable abbrev u53_1_2 (x0:Int) (x2:Int) (x3:List Int):=decide ((0:Int)≤x0+x2∧x0+x2<(↑(List.length x3):Int))
noncomputable def T53_1 (test:TT) (Kst:KS) (Kret:KR) (ap np mp:Nat) (tp:NI) (aq nq mq:Nat) (tq:NI) (x0:Int) (x1:Int) (x2:Int) (x3:List Int):Prop:=test (decide (x2<(↑nq:Int))) (test (lim .i64 (x0+x2)) (test (u53_1_2 x0 x2 x3) (test (decide (Int.toNat (x0+x2)<List.length x3)) (test (decide ((0:Int)≤x0∧x0<(↑np:Int))) (test (decide (Int.toNat x0+ap<mp)) (test (decide (x2<(↑nq:Int))) (test (decide ((0:Int)≤x2∧x2<(↑nq:Int))) (test (decide (Int.toNat x2+aq<mq)) (test (lim .i64 (tp (Int.toNat x0+ap)*tq (Int.toNat x2+aq))) (test (lim .i64 (S.at' x3 (Int.toNat (x0+x2))+tp (Int.toNat x0+ap)*tq (Int.toNat x2+aq))) (test (lim .i64 (u53_1_0 ap tp aq tq x0 x1 x2 x3)) (test (lim .i64 (x0+x2)) (test (false) (False) (test (u53_1_2 x0 x2 x3) (test (decide (Int.toNat (x0+x2)<List.length x3)) (test (false) (False) (test (lim .i64 (Int.tdiv (u53_1_0 ap tp aq tq x0 x1 x2 x3) (1000000:Int))) (test (lim .i64 (x2+1)) (Kst (hd Tryz.f109 1) ([PV.loose (PA.mk (0) (1) ap (0)) np,PV.loose (PA.mk (1) (1) aq (0)) nq,PV.own (2) (1) (List.length x3),PV.int .i64 x0,PV.int .i64 (Int.tdiv (u53_1_0 ap tp aq tq x0 x1 x2 x3) (1000000:Int)),PV.int .i64 (x2+1)]) ([[(1,false,Blk.cols mq [Col.int .i64 tq]),(0,false,Blk.cols mp [Col.int .i64 tp]),(2,true,Blk.cols (List.length x3) [Col.int .i64 fun j=>bif Nat.beq j (Int.toNat (x0+x2)) then Int.tmod (u53_1_0 ap tp aq tq x0 x1 x2 x3) (1000000:Int) else S.at' x3 j])]]) (3)) (False)) (False))) (False)) (False))) (False)) (False)) (False)) (False)) (False)) (False)) (test (lim .i64 (tp (Int.toNat x0+ap)*0)) (test (lim .i64 (S.at' x3 (Int.toNat (x0+x2))+tp (Int.toNat x0+ap)*0)) (test (lim .i64 (u53_1_1 ap tp x0 x1 x2 x3)) (test (lim .i64 (x0+x2)) (test (false) (False) (test (u53_1_2 x0 x2 x3) (test (decide (Int.toNat (x0+x2)<List.length x3)) (test (false) (False) (test (lim .i64 (Int.tdiv (u53_1_1 ap tp x0 x1 x2 x3) (1000000:Int))) (test (lim .i64 (x2+1)) (Kst (hd Tryz.f109 1) ([PV.loose (PA.mk (0) (1) ap (0)) np,PV.loose (PA.mk (1) (1) aq (0)) nq,PV.own (2) (1) (List.length x3),PV.int .i64 x0,PV.int .i64 (Int.tdiv (u53_1_1 ap tp x0 x1 x2 x3) (1000000:Int)),PV.int .i64 (x2+1)]) ([[(1,false,Blk.cols mq [Col.int .i64 tq]),(0,false,Blk.cols mp [Col.int .i64 tp]),(2,true,Blk.cols (List.length x3) [Col.int .i64 fun j=>bif Nat.beq j (Int.toNat (x0+x2)) then Int.tmod (u53_1_1 ap tp x0 x1 x2 x3) (1000000:Int) else S.at' x3 j])]]) (3)) (False)) (False))) (False)) (False))) (False)) (False)) (False)) (False))) (False)) (False)) (False)) (False)) (False)) (test (decide (x1>0)) (test (lim .i64 (x0+x2)) (test (u53_1_2 x0 x2 x3) (test (decide (Int.toNat (x0+x2)<List.length x3)) (test (decide ((0:Int)≤x0∧x0<(↑np:Int))) (test (decide (Int.toNat x0+ap<mp)) (test (decide (x2<(↑nq:Int))) (test (decide ((0:Int)≤x2∧x2<(↑nq:Int))) (test (decide (Int.toNat x2+aq<mq)) (test (lim .i64 (tp (Int.toNat x0+ap)*tq (Int.toNat x2+aq))) (test (lim .i64 (S.at' x3 (Int.toNat (x0+x2))+tp (Int.toNat x0+ap)*tq (Int.toNat x2+aq))) (test (lim .i64 (u53_1_0 ap tp aq tq x0 x1 x2 x3)) (test (lim .i64 (x0+x2)) (test (false) (False) (test (u53_1_2 x0 x2 x3) (test (decide (Int.toNat (x0+x2)<List.length x3)) (test (false) (False) (test (lim .i64 (Int.tdiv (u53_1_0 ap tp aq tq x0 x1 x2 x3) (1000000:Int))) (test (lim .i64 (x2+1)) (Kst (hd Tryz.f109 1) ([PV.loose (PA.mk (0) (1) ap (0)) np,PV.loose (PA.mk (1) (1) aq (0)) nq,PV.own (2) (1) (List.length x3),PV.int .i64 x0,PV.int .i64 (Int.tdiv (u53_1_0 ap tp aq tq x0 x1 x2 x3) (1000000:Int)),PV.int .i64 (x2+1)]) ([[(1,false,Blk.cols mq [Col.int .i64 tq]),(0,false,Blk.cols mp [Col.int .i64 tp]),(2,true,Blk.cols (List.length x3) [Col.int .i64 fun j=>bif Nat.beq j (Int.toNat (x0+x2)) then Int.tmod (u53_1_0 ap tp aq tq x0 x1 x2 x3) (1000000:Int) else S.at' x3 j])]]) (3)) (False)) (False))) (False)) (False))) (False)) (False)) (False)) (False)) (False)) (False)) (test (lim .i64 (tp (Int.toNat x0+ap)*0)) (test (lim .i64 (S.at' x3 (Int.toNat (x0+x2))+tp (Int.toNat x0+ap)*0)) (test (lim .i64 (u53_1_1 ap tp x0 x1 x2 x3)) (test (lim .i64 (x0+x2)) (test (false) (False) (test (u53_1_2 x0 x2 x3) (test (decide (Int.toNat (x0+x2)<List.length x3)) (test (false) (False) (test (lim .i64 (Int.tdiv (u53_1_1 ap tp x0 x1 x2 x3) (1000000:Int))) (test (lim .i64 (x2+1)) (Kst (hd Tryz.f109 1) ([PV.loose (PA.mk (0) (1) ap (0)) np,PV.loose (PA.mk (1) (1) aq (0)) nq,PV.own (2) (1) (List.length x3),PV.int .i64 x0,PV.int .i64 (Int.tdiv (u53_1_1 ap tp x0 x1 x2 x3) (1000000:Int)),PV.int .i64 (x2+1)]) ([[(1,false,Blk.cols mq [Col.int .i64 tq]),(0,false,Blk.cols mp [Col.int .i64 tp]),(2,true,Blk.cols (List.length x3) [Col.int .i64 fun j=>bif Nat.beq j (Int.toNat (x0+x2)) then Int.tmod (u53_1_1 ap tp x0 x1 x2 x3) (1000000:Int) else S.at' x3 j])]]) (3)) (False)) (False))) (False)) (False))) (False)) (False)) (False)) (False))) (False)) (False)) (False)) (False)) (False)) (test (lim .i64 (x0+1)) (Kst (hd Tryz.f109 0) ([PV.loose (PA.mk (0) (1) ap (0)) np,PV.loose (PA.mk (1) (1) aq (0)) nq,PV.own (2) (1) (List.length x3),PV.int .i64 (x0+1),PV.int .i64 x1,PV.int .i64 x2]) ([[(1,false,Blk.cols mq [Col.int .i64 tq]),(0,false,Blk.cols mp [Col.int .i64 tp]),(2,true,Blk.cols (List.length x3) [Col.int .i64 fun j=>S.at' x3 j])]]) (3)) (False)))
theorem t53_1 (test:TT) (Kst:KS) (Kret:KR) (ap np mp:Nat) (tp:NI) (aq nq mq:Nat) (tq:NI) (x0 x1 x2:Int) (x3:List Int):run test Tryz.env true (xD test) true 400 ⟨109,hd Tryz.f109 1,zipT [0,1,5,6,7,8] [PV.loose (PA.mk (0) (1) ap (0)) np,
 PV.loose (PA.mk (1) (1) aq (0)) nq,
 PV.own (2) (1) (List.length x3),PV.int .i64 x0,PV.int .i64 x1,
 PV.int .i64 x2],[[(2,(true,Blk.cols (List.length x3) [Col.int .i64 fun j=>S.at' x3 j]))],[(0,(false,.cols mp [.int .i64 tp])),(1,(false,.cols mq [.int .i64 tq]))]],3⟩ (proj 2 [0,1,5,6,7,8] Kst Kret)=
  T53_1 test Kst Kret ap np mp tp aq nq mq tq x0 x1 x2 x3:=by kernel_rfl
noncomputable abbrev J53 (ap np mp:Nat) (tp:NI) (aq nq mq:Nat) (tq:NI):Rt53→Heap:=fun r=> [newL (2+1) ((N53 ap np mp tp aq nq mq tq) r)++ [(0,(false,.cols mp [.int .i64 tp])),(1,(false,.cols mq [.int .i64 tq]))]]
attribute [local irreducible] Int.subNatNat in
theorem be53 (ap np mp:Nat) (tp:NI) (aq nq mq:Nat) (tq:NI) (Kst:KS) (Kret:KR) (x:St53⊕Rt53) (hS:HS 2 400 ((I53 ap np mp tp aq nq mq tq)) Kst x) (hR:HR 2 400 ((V53 ap np mp tp aq nq mq tq)) (J53 ap np mp tp aq nq mq tq) Kret x) (h:p53 ap np mp tp aq nq mq tq=some x):Te53 cond Kst Kret ap np mp tp aq nq mq tq:=by
  unfold Te53
  unfold p53 at h
  exact bif_split h (fun c0 h=>bif_split h (fun c1 h=>bif_split h (fun c2 h=>stop_at hS _ h (fun n=>bif Nat.beq n 2 then 2 else n) rfl rfl rfl ⟨(rn_loose (use_lo rfl) rfl rfl rfl),⟨(rn_loose (use_lo rfl) rfl rfl rfl),⟨(rn_own (use_own rfl) rfl mkl_len),⟨(rn_int rfl),⟨(rn_unk _),⟨(rn_unk _),trivial⟩⟩⟩⟩⟩⟩ rfl (entl_new (use_own rfl) rfl (Nat.le_of_eq mkl_len) (rcs_int (fun _ hj=>col_mkl (fun (t:Int)=>t) hj) rcs_nil) (entl_bor (use_lo rfl) rfl rfl (entl_bor (use_lo rfl) rfl rfl entl_nil)))) (fun c2 h=>no_some h)) (fun c1 h=>no_some h)) (fun c0 h=>no_some h)
attribute [local irreducible] Int.subNatNat in
theorem b53_0 (ap np mp:Nat) (tp:NI) (aq nq mq:Nat) (tq:NI) (Kst:KS) (Kret:KR) (x:St53⊕Rt53) (hS:HS 2 400 ((I53 ap np mp tp aq nq mq tq)) Kst x) (hR:HR 2 400 ((V53 ap np mp tp aq nq mq tq)) (J53 ap np mp tp aq nq mq tq) Kret x) (x0:Int) (x1:List Int) (h:q53 ap np mp tp aq nq mq tq (.h0 x0 x1)=some x):T53_0 cond Kst Kret ap np mp tp aq nq mq tq x0 x1:=by
  unfold T53_0
  rw [q53] at h
  exact bif_split h (fun c0 h=>stop_at hS _ h (fun n=>bif Nat.beq n 2 then 2 else n) rfl rfl rfl ⟨(rn_loose (use_lo rfl) rfl rfl rfl),⟨(rn_loose (use_lo rfl) rfl rfl rfl),⟨(rn_own (use_own rfl) rfl rfl),⟨(rn_int rfl),⟨(rn_int rfl),⟨(rn_int rfl),trivial⟩⟩⟩⟩⟩⟩ rfl (entl_new (use_own rfl) rfl (Nat.le_of_eq rfl) (rcs_int (fun _ _=>rfl) rcs_nil) (entl_bor (use_lo rfl) rfl rfl (entl_bor (use_lo rfl) rfl rfl entl_nil)))) (fun c0 h=>bif_split h (fun c1 h=>bif_split h (fun c2 h=>ret_at hR _ h (fun n=>bif Nat.beq n 3 then 2 else n) rfl rfl rfl (rn_own (use_own rfl) rfl rfl) rfl (entl_new (use_own rfl) rfl (Nat.le_of_eq rfl) (rcs_int (fun _ _=>rfl) rcs_nil) (entl_bor (use_lo rfl) rfl rfl (entl_bor (use_lo rfl) rfl rfl entl_nil)))) (fun c2 h=>no_some h)) (fun c1 h=>no_some h))
attribute [local irreducible] Int.subNatNat in
theorem b53_1 (ap np mp:Nat) (tp:NI) (aq nq mq:Nat) (tq:NI) (Kst:KS) (Kret:KR) (x:St53⊕Rt53) (hS:HS 2 400 ((I53 ap np mp tp aq nq mq tq)) Kst x) (hR:HR 2 400 ((V53 ap np mp tp aq nq mq tq)) (J53 ap np mp tp aq nq mq tq) Kret x) (x0 x1 x2:Int) (x3:List Int) (h:q53 ap np mp tp aq nq mq tq (.h1 x0 x1 x2 x3)=some x):T53_1 cond Kst Kret ap np mp tp aq nq mq tq x0 x1 x2 x3:=by
  unfold T53_1
  rw [q53] at h
  refine bif_split h (fun c0 h=>bif_split h (fun c1 h=>bif_split h (fun c2 h=>bif_split h (fun c3 h=>bif_split h (fun c4 h=>bif_split h (fun c5 h=>cond_yes c0 (bif_split h (fun c6 h=>bif_split h (fun c7 h=>bif_split h (fun c8 h=>bif_split h (fun c9 h=>bif_split h (fun c10 h=>cond_yes c1 (cond_no rfl (cond_yes c2 (cond_yes c3 (cond_no rfl (bif_split h (fun c11 h=>bif_split h (fun c12 h=> ?_) (fun c12 h=> ?_)) (fun c11 h=> ?_))))))) (fun c10 h=> ?_)) (fun c9 h=> ?_)) (fun c8 h=> ?_)) (fun c7 h=> ?_)) (fun c6 h=> ?_))) (fun c5 h=> ?_)) (fun c4 h=> ?_)) (fun c3 h=> ?_)) (fun c2 h=> ?_)) (fun c1 h=> ?_)) (fun c0 h=>bif_split h (fun c1 h=>bif_split h (fun c2 h=>bif_split h (fun c3 h=>bif_split h (fun c4 h=>bif_split h (fun c5 h=>bif_split h (fun c6 h=>cond_no c0 (bif_split h (fun c7 h=>bif_split h (fun c8 h=>bif_split h (fun c9 h=>cond_yes c2 (cond_no rfl (cond_yes c3 (cond_yes c4 (cond_no rfl (bif_split h (fun c10 h=>bif_split h (fun c11 h=> ?_) (fun c11 h=> ?_)) (fun c10 h=> ?_))))))) (fun c9 h=> ?_)) (fun c8 h=> ?_)) (fun c7 h=> ?_))) (fun c6 h=> ?_)) (fun c5 h=> ?_)) (fun c4 h=> ?_)) (fun c3 h=> ?_)) (fun c2 h=> ?_)) (fun c1 h=>bif_split h (fun c2 h=>stop_at hS _ h (fun n=>bif Nat.beq n 2 then 2 else n) rfl rfl rfl ⟨(rn_loose (use_lo rfl) rfl rfl rfl),⟨(rn_loose (use_lo rfl) rfl rfl rfl),⟨(rn_own (use_own rfl) rfl rfl),⟨(rn_int rfl),⟨(rn_unk _),⟨(rn_unk _),trivial⟩⟩⟩⟩⟩⟩ rfl (entl_new (use_own rfl) rfl (Nat.le_of_eq rfl) (rcs_int (fun _ _=>rfl) rcs_nil) (entl_bor (use_lo rfl) rfl rfl (entl_bor (use_lo rfl) rfl rfl entl_nil)))) (fun c2 h=> ?_)))
  all_goals first
    |exact no_some h
    |exact stop_at hS _ h (fun n=>bif Nat.beq n 2 then 2 else n) rfl rfl rfl ⟨(rn_loose (use_lo rfl) rfl rfl rfl),⟨(rn_loose (use_lo rfl) rfl rfl rfl),⟨(rn_own (use_own rfl) rfl mkl_len),⟨(rn_int rfl),⟨(rn_int rfl),⟨(rn_int rfl),trivial⟩⟩⟩⟩⟩⟩ rfl (entl_new (use_own rfl) rfl (Nat.le_of_eq mkl_len) (rcs_int (fun _ hj=>col_mkl (fun (t:Int)=>t) hj) rcs_nil) (entl_bor (use_lo rfl) rfl rfl (entl_bor (use_lo rfl) rfl rfl entl_nil)))
theorem a53 (ap np mp:Nat) (tp:NI) (aq nq mq:Nat) (tq:NI) {r:Rt53} (h:Goes ((q53 ap np mp tp aq nq mq tq)) ((p53 ap np mp tp aq nq mq tq)) r):CallR Tryz.prog 109 [.loose ⟨0,1,ap,0⟩ np,.loose ⟨1,1,aq,0⟩ nq] [[(0,(false,.cols mp [.int .i64 tp])),(1,(false,.cols mq [.int .i64 tq]))]] 2 ((V53 ap np mp tp aq nq mq tq) r) ((J53 ap np mp tp aq nq mq tq) r) 400∧ ∃ F,Tryz.prog.funcs[109]? =some F∧F.body.isSome=true∧(F.name== "runtime.NumGoroutine")=false:=by
  refine dec_calls (f:=109) (lo:=2) (hi:=400) Tryz.envOk Tryz.mixed xD_ok ((I53 ap np mp tp aq nq mq tq)) ((V53 ap np mp tp aq nq mq tq)) (J53 ap np mp tp aq nq mq tq) (fn:=mkFn Tryz.f109) (ts:= [0,1,5,6,7,8]) (n:=400) rfl (by decide) (by simp) (names_of rfl) ?_ ?_ ?_ h
  · intro s; cases s<;>exact ⟨hd_ok _ _,by simp [I53],names_of rfl,Nat.le_of_ble_eq_true rfl⟩
  · intro Kst Kret x hS hR h
    exact Holds.eq (te53 cond Kst Kret ap np mp tp aq nq mq tq) (be53 ap np mp tp aq nq mq tq Kst Kret x hS hR h)
  · intro Kst Kret x hS hR s h
    cases s with
    |h0 x0 x1=>exact Holds.eq (t53_0 cond Kst Kret ap np mp tp aq nq mq tq x0 x1) (b53_0 ap np mp tp aq nq mq tq Kst Kret x hS hR x0 x1 h)
    |h1 x0 x1 x2 x3=>exact Holds.eq (t53_1 cond Kst Kret ap np mp tp aq nq mq tq x0 x1 x2 x3) (b53_1 ap np mp tp aq nq mq tq Kst Kret x hS hR x0 x1 x2 x3 h)
noncomputable abbrev w53 {α:Type} (g:Nat→Nat→Nat→(Nat→Int)→Nat→Nat→Nat→(Nat→Int)→α) (x:(Nat×Nat×Nat×(Nat→Int)×Unit)×(Nat×Nat×Nat×(Nat→Int)×Unit)×Unit):α:=g x.1.1 x.1.2.1 x.1.2.2.1 x.1.2.2.2.1 x.2.1.1 x.2.1.2.1 x.2.1.2.2.1 x.2.1.2.2.2.1
noncomputable def k53:Con:=⟨109,[.one (.list [.int .i64]),.one (.list [.int .i64])],w53 (fun ap np mp tp aq nq mq tq=>decide ((ap+np≤mp∧aq+nq≤mq)∧(np≤1000∧nq≤1000)∧S.okD np (fun j=>tp (j+ap))=true∧S.okD nq (fun j=>tq (j+aq))=true)),w53 (fun ap np mp tp aq nq mq tq=>(V53 ap np mp tp aq nq mq tq) (S.grp ((S.val np (fun j=>tp (j+ap)))*(S.val nq (fun j=>tq (j+aq)))))),w53 (fun ap np mp tp aq nq mq tq=>(N53 ap np mp tp aq nq mq tq) (S.grp ((S.val np (fun j=>tp (j+ap)))*(S.val nq (fun j=>tq (j+aq)))))),fun _ _=> .dead⟩
theorem s53i (ap np mp:Nat) (tp:Nat→Int) (aq nq mq:Nat) (tq:Nat→Int) (hp:(ap+np≤mp∧aq+nq≤mq)∧(np≤1000∧nq≤1000)∧S.okD np (fun j=>tp (j+ap))=true∧S.okD nq (fun j=>tq (j+aq))=true) (i:Nat) (hi:i<np): ∀ (k a:Nat) (c:Int) (R:List Int),a+k=nq→R.length=np+nq+1→(∀ j,j<np+nq+1→0≤S.at' R j∧S.at' R j<1000000)→(∀ j,i+nq≤j→j<np+nq+1→S.at' R j=0)→(0≤c∧c<1000000)→
    ∃ R':List Int,R'.length=np+nq+1∧(∀ j,j<np+nq+1→0≤S.at' R' j∧S.at' R' j<1000000)∧(∀ j,i+1+nq≤j→j<np+nq+1→S.at' R' j=0)∧(∀ j,j<i+a→S.at' R' j=S.at' R j)∧S.valF (S.at' R') (i+a) (np+nq+1-(i+a))=S.valF (S.at' R) (i+a) (np+nq+1-(i+a))+c+tp (i+ap)*S.valF (fun j=>tq (j+aq)) a k∧
      ∀ res:List Int,(Comes (q53 ap np mp tp aq nq mq tq) (.h0 ((i:Int)+1) R') res→Comes (q53 ap np mp tp aq nq mq tq) (.h1 (i:Int) c (a:Int) R) res):=by
  obtain ⟨⟨hp1,hp2⟩,⟨hp3,hp4⟩,g1,g2⟩:=hp
  have d1:=okD_iff.mp g1 i hi
  have d2:=okD_iff.mp g2
  (try dsimp only at d1)
  intro k
  induction k with
  | zero =>
    intro a c R ha hR hd hz hc
    obtain rfl:a=nq:=by omega
    have z0:=hz (i+a) (Nat.le_refl _) (by omega)
    have e1:((i:Int)+a).toNat=i+a:=by omega
    by_cases h0:c=0
    · subst h0
      refine ⟨R,hR,hd,fun j h1 h2=>hz j (by omega) h2,fun j _=>rfl,by simp only [S.valF]; rw [Int.mul_zero]; omega,fun res hC=> ?_⟩
      apply Comes.of
      show Goes _ _ _
      (first|rw [q53]|unfold q53)
      repeat' (first|with_reducible refine goes_if (fun h=> ?_) (fun h=> ?_)<;>(try simp only [SH,e1] at h)|exact goes_none.mpr (by omega))
      all_goals first|(exfalso; omega)|exact hC
    · refine ⟨S.mkl (np+a+1) (fun j=>bif Nat.beq j (i+a) then c else S.at' R j),mkl_len,upd_dig hR hd hc,fun j h1 h2=> ?_,fun j h1=> ?_,?_,fun res hC=> ?_⟩
      · rw [upd_at h2,if_neg (by omega)]; exact hz j (by omega) h2
      · rw [upd_at (by omega),if_neg (by omega)]
      · rw [show np+a+1-(i+a)=(np+a+1-(i+a+1))+1 by omega]
        simp only [S.valF]
        rw [upd_at (by omega),if_pos rfl,z0,valF_congr (u:=S.at' R) fun j h1 h2=>by rw [upd_at (by omega),if_neg (by omega)]]
        omega
      · have e2:S.at' R (i+a)+tp (i+ap)*0+c=c:=by rw [z0,Int.mul_zero]; omega
        have e3:Int.tmod c 1000000=c:=by rw [tmB hc.1]; omega
        have e4:Int.tdiv c 1000000=0:=by rw [tdB hc.1]; omega
        have e5:tp (i+ap)*0=0:=Int.mul_zero _
        have hE:Comes (q53 ap np mp tp aq a mq tq) (.h1 (i:Int) 0 ((a:Int)+1) (S.mkl R.length fun j=>bif Nat.beq j (i+a) then c else S.at' R j)) res:=by
          rw [← hR] at hC
          apply Comes.of
          show Goes _ _ _
          (first|rw [q53]|unfold q53)
          repeat' (first|with_reducible refine goes_if (fun h=> ?_) (fun h=> ?_)<;>(try simp only [SH,e1] at h)|exact goes_none.mpr (by omega))
          all_goals first|(exfalso; omega)|exact hC
        apply Comes.of
        show Goes _ _ _
        rw [q53]
        simp only [e1,e2,e3,e4,Int.toNat_natCast]
        simp only [z0,e5]
        repeat' (first|with_reducible refine goes_if (fun h=> ?_) (fun h=> ?_)<;>(try simp only [SH] at h)|exact goes_none.mpr (by omega))
        all_goals first|(exfalso; omega)|(simp only [z0] at hE; exact hE)|exact hE
  | succ k ih=>
    intro a c R ha hR hd hz hc
    have hq:=d2 a (by omega)
    (try dsimp only at hq)
    have hm:=mul_dig d1 hq
    have hr:=hd (i+a) (by omega)
    have ms:=md_sum (x:=S.at' R (i+a)+tp (i+ap)*tq (a+aq)+c) (by omega)
    generalize hD:Int.tmod (S.at' R (i+a)+tp (i+ap)*tq (a+aq)+c) 1000000=dg at ms
    generalize hC:Int.tdiv (S.at' R (i+a)+tp (i+ap)*tq (a+aq)+c) 1000000=cy at ms
    obtain ⟨R',r1,r2,r3,r4,r5,r6⟩:=ih (a+1) cy (S.mkl (np+nq+1) fun j=>bif Nat.beq j (i+a) then dg else S.at' R j) (by omega) mkl_len (upd_dig hR hd (by omega)) (fun j h1 h2=>by rw [upd_at h2,if_neg (by omega)]; exact hz j h1 h2) (by omega)
    refine ⟨R',r1,r2,r3,fun j h1=> ?_,?_,fun res hX=> ?_⟩
    · rw [r4 j (by omega),upd_at (by omega),if_neg (by omega)]
    · rw [show np+nq+1-(i+a)=(np+nq+1-(i+(a+1)))+1 by omega]
      have e1:=r4 (i+a) (by omega)
      rw [upd_at (by omega),if_pos rfl] at e1
      have r5':S.valF (S.at' (S.mkl (np+nq+1) fun j=>bif Nat.beq j (i+a) then dg else S.at' R j)) (i+(a+1)) (np+nq+1-(i+(a+1)))=S.valF (S.at' R) (i+(a+1)) (np+nq+1-(i+(a+1))):=valF_congr fun j h1 h2=>by rw [upd_at (by omega),if_neg (by omega)]
      rw [r5'] at r5
      simp only [S.valF]
      have ed: ∀ x:Int,tp (i+ap)*(tq (a+aq)+1000000*x)=tp (i+ap)*tq (a+aq)+1000000*(tp (i+ap)*x):=fun x=>by rw [Int.mul_add,Int.mul_left_comm]
      rw [show i+a+1=i+(a+1) by omega,r5,e1,ed]
      generalize tp (i+ap)*S.valF _ _ _=w1 at*
      generalize S.valF _ _ _=w2 at*
      (try dsimp only)
      omega
    · have r6:=r6 res hX
      rw [← hR] at r6
      have e1:((i:Int)+a).toNat=i+a:=by omega
      clear ih r5 hX
      apply Comes.of
      show Goes _ _ _
      rw [q53]
      simp only [e1,Int.toNat_natCast,hD,hC]
      repeat' (first|with_reducible refine goes_if (fun h=> ?_) (fun h=> ?_)<;>(try simp only [SH] at h)|exact goes_none.mpr (by omega))
      all_goals first|(exfalso; omega)|exact r6
theorem s53' (ap np mp:Nat) (tp:Nat→Int) (aq nq mq:Nat) (tq:Nat→Int) (hp:(ap+np≤mp∧aq+nq≤mq)∧(np≤1000∧nq≤1000)∧S.okD np (fun j=>tp (j+ap))=true∧S.okD nq (fun j=>tq (j+aq))=true): ∀ (k i:Nat) (R:List Int),i+k=np→R.length=np+nq+1→(∀ j,j<np+nq+1→0≤S.at' R j∧S.at' R j<1000000)→(∀ j,i+nq≤j→j<np+nq+1→S.at' R j=0)→
    ∃ R':List Int,R'.length=np+nq+1∧(∀ j,j<np+nq+1→0≤S.at' R' j∧S.at' R' j<1000000)∧(∀ j,j<i→S.at' R' j=S.at' R j)∧S.valF (S.at' R') (i) (np+nq+1-(i))=S.valF (S.at' R) (i) (np+nq+1-(i))+S.valF (fun j=>tp (j+ap)) i k*(S.val nq (fun j=>tq (j+aq)))∧Comes (q53 ap np mp tp aq nq mq tq) (.h0 (i:Int) R) (S.trim R'):=by
  have hp':=hp
  obtain ⟨⟨hp1,hp2⟩,⟨hp3,hp4⟩,g1,g2⟩:=hp
  intro k
  induction k with
  |zero=>
    intro i R hi hR hd hz
    refine ⟨R,hR,hd,fun j _=>rfl,by simp only [S.valF]; rw [Int.zero_mul,Int.add_zero],?_⟩
    rw [← trim_at]
    apply Comes.of
    show Goes _ _ _
    (first|rw [q53]|unfold q53)
    repeat' (first|with_reducible refine goes_if (fun h=> ?_) (fun h=> ?_)<;>(try simp only [SH] at h)|exact goes_none.mpr (by omega))
    all_goals first|(exfalso; omega)|exact goes_inr.mpr rfl
  | succ k ih=>
    intro i R hi hR hd hz
    obtain ⟨R1,a1,a2,a3,a4,a5,a6⟩:=s53i ap np mp tp aq nq mq tq hp' i (by omega) nq 0 0 R (by omega) hR hd hz (by omega)
    obtain ⟨R',b1,b2,b3,b4,b5⟩:=ih (i+1) R1 (by omega) a1 a2 (fun j h1 h2=>a3 j (by omega) h2)
    have vq:S.valF (fun j=>tq (j+aq)) 0 nq=(S.val nq (fun j=>tq (j+aq))):=rfl
    rw [vq,Nat.add_zero,Int.add_zero] at a5
    refine ⟨R',b1,b2,fun j hj=>by rw [b3 j (by omega),a4 j (by omega)],?_,?_⟩
    · have e1:=b3 i (by omega)
      rw [show np+nq+1-i=(np+nq+1-(i+1))+1 by omega] at a5 ⊢
      simp only [S.valF] at a5 ⊢
      rw [e1,b4,Int.add_mul,Int.mul_assoc]
      (try dsimp only)
      generalize tp (i+ap)*(S.val nq (fun j=>tq (j+aq)))=w1 at*
      generalize S.valF (fun j=>tp (j+ap)) (i+1) k*(S.val nq (fun j=>tq (j+aq)))=w2 at*
      generalize S.valF _ _ _=w3 at*
      generalize S.valF _ _ _=w4 at*
      omega
    · have a6:=a6 _ b5
      apply Comes.of
      show Goes _ _ _
      (first|rw [q53]|unfold q53)
      repeat' (first|with_reducible refine goes_if (fun h=> ?_) (fun h=> ?_)<;>(try simp only [SH] at h)|exact goes_none.mpr (by omega))
      all_goals first|(exfalso; omega)|exact a6
theorem s53 (ap np mp:Nat) (tp:Nat→Int) (aq nq mq:Nat) (tq:Nat→Int) (hp:(ap+np≤mp∧aq+nq≤mq)∧(np≤1000∧nq≤1000)∧S.okD np (fun j=>tp (j+ap))=true∧S.okD nq (fun j=>tq (j+aq))=true):Goes ((q53 ap np mp tp aq nq mq tq)) ((p53 ap np mp tp aq nq mq tq)) (S.grp ((S.val np (fun j=>tp (j+ap)))*(S.val nq (fun j=>tq (j+aq))))):=by
  have hp':=hp
  obtain ⟨⟨hp1,hp2⟩,⟨hp3,hp4⟩,g1,g2⟩:=hp
  have z: ∀ j,j<np+nq+1→S.at' (S.mkl (np+nq+1) fun _=>(0:Int)) j=0:=fun j hj=>at_mkl hj
  obtain ⟨R',r1,r2,r3,r4,r5⟩:=s53' ap np mp tp aq nq mq tq hp' np 0 (S.mkl (np+nq+1) fun _=>0) (by omega) mkl_len (fun j hj=>by rw [z j hj]; omega) (fun j _ hj=>z j hj)
  have z2:S.valF (S.at' (S.mkl (np+nq+1) fun _=>(0:Int))) 0 (np+nq+1-0)=0:=by rw [valF_congr (u:=fun _=>0) fun j _ hj=>z j (by omega)]; exact valF_zero
  have vp:S.valF (fun j=>tp (j+ap)) 0 np=(S.val np (fun j=>tp (j+ap))):=rfl
  rw [z2,vp,Int.zero_add,Nat.sub_zero] at r4
  have e:S.trim R'=S.grp ((S.val np (fun j=>tp (j+ap)))*(S.val nq (fun j=>tq (j+aq)))):=by
    rw [trim_grp fun x hx=>by obtain ⟨j,hj,rfl⟩:=List.getElem_of_mem hx; have:=r2 j (by omega); rw [at_lt hj] at this; exact this]
    rw [← val_at,r1]
    exact congrArg S.grp r4
  rw [e] at r5
  have en:((np:Int)+nq+1).toNat=np+nq+1:=by omega
  show Goes _ _ _
  unfold p53
  repeat' (first|with_reducible refine goes_if (fun h=> ?_) (fun h=> ?_)<;>(try simp only [SH,en] at h)|exact goes_none.mpr (by omega))
  all_goals first|(exfalso; omega)|(rw [en]; exact r5)
theorem k53_ok:k53.ok Tryz.prog:=by
  intro x hx
  obtain ⟨⟨ap,np,mp,tp,_⟩,⟨aq,nq,mq,tq,_⟩,_⟩:=x
  obtain ⟨h1,h2⟩:=a53 ap np mp tp aq nq mq tq (s53 ap np mp tp aq nq mq tq (of_dec hx rfl))
  exact ⟨⟨400,(by decide:2+1+1≤400),h1⟩,h2⟩
namespace S
def samI (n1:Bool) (n:Nat) (t:Nat→Int) (n2:Bool) (m:Nat) (u:Nat→Int):Bool:=decide (n1=n2∧mkl n t=mkl m u)
end S
section
variable {n1 n2:Bool} {n m:Nat} {t u:Nat→Int}
theorem samI_self {L:List Int} {c:Bool}:S.samI c L.length (fun j=>S.at' L j) c L.length (fun j=>S.at' L j)=true:=decide_eq_true ⟨rfl,rfl⟩
end
theorem okI_I {v:Int} (hv:(v.natAbs:Int)<S.pw 80):S.okI (decide (v<0)) (S.grp (v.natAbs:Int)).length (fun j=>S.at' (S.grp (v.natAbs:Int)) j)=true∧S.sv (decide (v<0)) (S.val (S.grp (v.natAbs:Int)).length fun j=>S.at' (S.grp (v.natAbs:Int)) j)=v:=by
  have hl:=grp_le hv
  constructor
  · rw [okI_iff]
    refine ⟨hl,grp_ok,?_⟩
    by_cases h:v<0
    · left; exact len_pos (by omega)
    · right; exact decide_eq_false h
  · rw [val_grpL (by omega)]
    unfold S.sv
    by_cases h:v<0
    · rw [decide_eq_true h,cond_true]; omega
    · rw [decide_eq_false h,cond_false]; omega
theorem sv_abs {ng:Bool} {V:Int}:(S.sv ng V).natAbs=V.natAbs:=by
  cases ng<;>simp [S.sv]
theorem valF_add {t:Nat→Int}: ∀ {a b i:Nat},S.valF t i (a+b)=S.valF t i a+S.pw a*S.valF t (i+a) b
  |0,b,i=>by
    simp only [S.valF,S.pw]
    rw [Nat.zero_add,Nat.add_zero]; omega
  |a+1,b,i=>by
    rw [show a+1+b=(a+b)+1 by omega]
    simp only [S.valF,S.pw]
    rw [valF_add,show i+(a+1)=i+1+a by omega,Int.mul_assoc]
    omega
theorem valF_snoc {t:Nat→Int} {i k:Nat}:S.valF t i (k+1)=S.valF t i k+S.pw k*t (i+k):=by
  rw [valF_add]
  simp only [S.valF]
  rw [Int.mul_zero,Int.add_zero]
theorem valF_shift {t:Nat→Int} {a:Nat}: ∀ {k i:Nat},S.valF (fun j=>t (j+a)) i k=S.valF t (i+a) k
  |0,_=>rfl
  |k+1,i=>by
    simp only [S.valF]
    rw [valF_shift,show i+1+a=i+a+1 by omega]
theorem valF_zeros {t:Nat→Int} {k i:Nat} (h: ∀ j,i≤j→j<i+k→t j=0):S.valF t i k=0:=by
  rw [valF_congr (u:=fun _=>0) h]; exact valF_zero
theorem valF_zero_dig {t:Nat→Int}: ∀ {k i:Nat},(∀ j,i≤j→j<i+k→0≤t j∧t j<1000000)→S.valF t i k≤0→ ∀ j,i≤j→j<i+k→t j=0
  |0,i,_,_,j,h1,h2=>by omega
  |k+1,i,h,h0,j,h1,h2=>by
    have hi:=h i (Nat.le_refl _) (by omega)
    have hn:=valF_nn (t:=t) (k:=k) (i:=i+1) fun j h1 h2=>(h j (by omega) (by omega)).1
    simp only [S.valF] at h0
    by_cases hj:j=i
    · subst hj; omega
    · exact valF_zero_dig (k:=k) (i:=i+1) (fun j h1 h2=>h j (by omega) (by omega)) (by omega) j (by omega) (by omega)
theorem valF_high {t:Nat→Int} {m k i:Nat} (h: ∀ j,i≤j→j<i+(m+k)→0≤t j∧t j<1000000) (hv:S.valF t i (m+k)<S.pw m): ∀ j,i+m≤j→j<i+(m+k)→t j=0:=by
  rw [valF_add] at hv
  have n1:=valF_nn (t:=t) (k:=m) (i:=i) fun j h1 h2=>(h j h1 (by omega)).1
  have hp:=pw_pos (k:=m)
  have h0:S.valF t (i+m) k≤0:=by
    refine Int.not_lt.mp fun h1=> ?_
    have:S.pw m*1≤S.pw m*S.valF t (i+m) k:=Int.mul_le_mul_of_nonneg_left (by omega) (by omega)
    omega
  intro j h1 h2
  exact valF_zero_dig (k:=k) (i:=i+m) (fun j h1 h2=>h j (by omega) (by omega)) h0 j h1 (by omega)
theorem div_uniq {U V q:Int} (hV:0<V) (h1:q*V≤U) (h2:U<(q+1)*V):U / V=q:=by
  have a:=(Int.le_ediv_iff_mul_le hV).mpr h1
  have c:=(Int.ediv_lt_iff_lt_mul hV).mpr h2
  omega
theorem mod_uniq {U V q:Int} (hV:0<V) (h1:q*V≤U) (h2:U<(q+1)*V):U % V=U-q*V:=by
  rw [Int.emod_def,div_uniq hV h1 h2,Int.mul_comm]
theorem knuth_no {U V P d v t:Int} (hP:0<P) (hV:v*P≤V) (hU:U<(t+1)*P) (hd:0≤d) (h:t<d*v):U<d*V:=by
  have h1:d*(v*P)≤d*V:=Int.mul_le_mul_of_nonneg_left hV hd
  have h2:(t+1)*P≤d*v*P:=Int.mul_le_mul_of_nonneg_right (by omega) (by omega)
  rw [Int.mul_assoc] at h2
  omega
theorem knuth_ok {U V P d v t:Int} (hP:0<P) (hV:V<(v+1)*P) (hV0:0≤V) (hU:t*P≤U) (hU0:0≤U) (h:d*v≤t) (hd:0≤d) (hdv:d≤v+1):(d-1)*V≤U:=by
  by_cases h0:d=0
  · subst h0
    rw [show (0:Int)-1= -1 from rfl,Int.neg_one_mul]; omega
  · have h1:(d-1)*V≤(d-1)*((v+1)*P):=Int.mul_le_mul_of_nonneg_left (by omega) (by omega)
    have h2:(d-1)*(v+1)≤t:=by
      rw [Int.sub_mul,Int.mul_add]
      omega
    have h3:(d-1)*(v+1)*P≤t*P:=Int.mul_le_mul_of_nonneg_right h2 (by omega)
    rw [Int.mul_assoc] at h3
    omega
theorem div_step {X V x:Int} (hV:0<V) (hx:0≤x∧x<1000000) (hX:0≤X):(x+1000000*X) / V=(x+1000000*(X % V)) / V+1000000*(X / V)∧(x+1000000*X) % V=(x+1000000*(X % V)) % V∧0≤(x+1000000*(X % V)) / V∧(x+1000000*(X % V)) / V<1000000:=by
  have e:x+1000000*X=x+1000000*(X % V)+V*(1000000*(X / V)):=by
    have:=Int.emod_add_mul_ediv X V
    rw [Int.mul_left_comm]
    omega
  have r0:=Int.emod_nonneg X (show V≠0 by omega)
  have r1:=Int.emod_lt_of_pos X hV
  refine ⟨?_,?_,Int.ediv_nonneg (by omega) (by omega),(Int.ediv_lt_iff_lt_mul hV).mpr (by omega)⟩
  · rw [e,Int.add_mul_ediv_left _ _ (by omega)]
  · rw [e,Int.add_mul_emod_self_left]
theorem floor_neg {x:Int} (h:Int.tmod x 1000000<0):Int.tmod x 1000000+1000000=x % 1000000∧Int.tdiv x 1000000-1=x / 1000000:=by
  have h1:=Int.tmod_def x 1000000
  by_cases hx:0≤x
  · rw [Int.tmod_eq_emod_of_nonneg hx] at h; omega
  · have e:Int.tdiv x 1000000= -((-x) / 1000000):=by
      rw [← Int.tdiv_eq_ediv_of_nonneg (by omega:0≤ -x),Int.neg_tdiv,Int.neg_neg]
    omega
theorem floor_nn {x:Int} (h: ¬ Int.tmod x 1000000<0):Int.tmod x 1000000=x % 1000000∧Int.tdiv x 1000000=x / 1000000:=by
  have h1:=Int.tmod_def x 1000000
  by_cases hx:0≤x
  · rw [Int.tmod_eq_emod_of_nonneg hx,Int.tdiv_eq_ediv_of_nonneg hx]; exact ⟨rfl,rfl⟩
  · have e:Int.tdiv x 1000000= -((-x) / 1000000):=by
      rw [← Int.tdiv_eq_ediv_of_nonneg (by omega:0≤ -x),Int.neg_tdiv,Int.neg_neg]
    omega
theorem trim_val {R:List Int} {n:Nat} (hR:R.length=n) (hd: ∀ j,j<n→0≤S.at' R j∧S.at' R j<1000000):S.trim R=S.grp (S.valF (S.at' R) 0 n):=by
  subst hR
  rw [trim_grp fun x hx=>by obtain ⟨j,hj,rfl⟩:=List.getElem_of_mem hx; have:=hd j hj; rw [at_lt hj] at this; exact this]
  rw [← val_at]
  rfl
inductive St71 where
  |h0 (x0:Int) (x1:Int) (x2:List Int)
abbrev Rt71:=Int×List Int
noncomputable def V71 (ap np mp:Nat) (tp:NI) (v:Int) (r:Rt71):PV:=PV.tup [PV.own (2) (1) (List.length r.2),PV.int .i64 r.1]
noncomputable def N71 (ap np mp:Nat) (tp:NI) (v:Int) (r:Rt71):List Blk:= [Blk.cols (List.length r.2) [Col.int .i64 fun j=>S.at' r.2 j]]
noncomputable def I71 (ap np mp:Nat) (tp:NI) (v:Int):St71→Hd
  | .h0 x0 x1 x2=>⟨hd Tryz.f139 0,[PV.loose (PA.mk (0) (1) ap (0)) np,PV.int .i64 v,
 PV.own (1) (1) (List.length x2),PV.int .i64 x0,PV.int .i64 x1],[[(1,(true,Blk.cols (List.length x2) [Col.int .i64 fun j=>S.at' x2 j]))],[(0,(false,.cols mp [.int .i64 tp]))]],2⟩
noncomputable def q71 (ap np mp:Nat) (tp:NI) (v:Int):St71→Option (St71⊕Rt71)| .h0 x0 x1 x2=>bif (decide (x1≥0)) then (bif (lim .i64 (x0*1000000)) then (bif (decide ((0:Int)≤x1∧x1<(↑np:Int))) then (bif (decide (Int.toNat x1+ap<mp)) then (bif (lim .i64 (x0*1000000+tp (Int.toNat x1+ap))) then (bif (decide (v=0)) then (none) else (bif (lim .i64 (Int.tdiv (x0*1000000+tp (Int.toNat x1+ap)) v)) then (bif (decide ((0:Int)≤x1∧x1<(↑(List.length x2):Int))) then (bif (decide (Int.toNat x1<List.length x2)) then (bif (lim .i64 (x1-1)) then (some (.inl (.h0 (Int.tmod (x0*1000000+tp (Int.toNat x1+ap)) v) (x1-1) (S.mkl (List.length x2) fun j=>bif Nat.beq j (Int.toNat x1) then Int.tdiv (x0*1000000+tp (Int.toNat x1+ap)) v else S.at' x2 j)))) else (none)) else (none)) else (none)) else (none))) else (none)) else (none)) else (none)) else (none)) else (bif (decide (List.length x2≤List.length x2)) then (bif (decide (List.length x2≤1000000)) then (some (.inr (x0,S.trim (S.mkl (List.length x2) fun j=>S.at' x2 j)))) else (none)) else (none))
noncomputable def p71 (ap np mp:Nat) (tp:NI) (v:Int):Option (St71⊕Rt71):=bif (decide ((0:Int)≤(↑np:Int)∧(↑np:Int)≤(↑np:Int)∧(↑np:Int)≤1000000)) then (bif (lim .i64 ((↑np:Int)-1)) then (some (.inl (.h0 ((0:Int)) ((↑np:Int)-1) (S.mkl np fun j=>0)))) else (none)) else (none)
noncomputable def Te71 (test:TT) (Kst:KS) (Kret:KR) (ap np mp:Nat) (tp:NI) (v:Int):Prop:=test (decide ((0:Int)≤(↑np:Int)∧(↑np:Int)≤(↑np:Int)∧(↑np:Int)≤1000000)) (test (lim .i64 ((↑np:Int)-1)) (Kst (hd Tryz.f139 0) ([PV.loose (PA.mk (0) (1) ap (0)) np,PV.int .i64 v,PV.own (1) (1) np,PV.int .i64 (0:Int),PV.int .i64 ((↑np:Int)-1)]) ([[(0,false,Blk.cols mp [Col.int .i64 tp]),(1,true,Blk.cols np [Col.int .i64 fun (x:Nat)=>0])]]) (2)) (False)) (False)
theorem te71 (test:TT) (Kst:KS) (Kret:KR) (ap np mp:Nat) (tp:NI) (v:Int):run test Tryz.env true (xB0 test) true 400 ⟨139,[.cd (mkFn Tryz.f139).body],argT 0 [.loose ⟨0,1,ap,0⟩ np,.int .i64 v],[[],[(0,(false,.cols mp [.int .i64 tp]))]],1⟩ (proj 1 [0,1,6,7,8] Kst Kret)=
  Te71 test Kst Kret ap np mp tp v:=by kernel_rfl
noncomputable def T71_0 (test:TT) (Kst:KS) (Kret:KR) (ap np mp:Nat) (tp:NI) (v x0 x1:Int) (x2:List Int):Prop:=test (decide (x1≥0)) (test (lim .i64 (x0*1000000)) (test (decide ((0:Int)≤x1∧x1<(↑np:Int))) (test (decide (Int.toNat x1+ap<mp)) (test (lim .i64 (x0*1000000+tp (Int.toNat x1+ap))) (test (decide (v=0)) (False) (test (lim .i64 (Int.tdiv (x0*1000000+tp (Int.toNat x1+ap)) v)) (test (decide ((0:Int)≤x1∧x1<(↑(List.length x2):Int))) (test (decide (Int.toNat x1<List.length x2)) (test (decide (v=0)) (False) (test (lim .i64 (x1-1)) (Kst (hd Tryz.f139 0) ([PV.loose (PA.mk (0) (1) ap (0)) np,PV.int .i64 v,PV.own (1) (1) (List.length x2),PV.int .i64 (Int.tmod (x0*1000000+tp (Int.toNat x1+ap)) v),PV.int .i64 (x1-1)]) ([[(0,false,Blk.cols mp [Col.int .i64 tp]),(1,true,Blk.cols (List.length x2) [Col.int .i64 fun j=>bif Nat.beq j (Int.toNat x1) then Int.tdiv (x0*1000000+tp (Int.toNat x1+ap)) v else S.at' x2 j])]]) (2)) (False))) (False)) (False)) (False))) (False)) (False)) (False)) (False)) (test (decide (List.length x2≤List.length x2)) (test (decide (List.length x2≤1000000)) (Kret (PV.tup [PV.own (1) (1) (List.length (S.trim (S.mkl (List.length x2) fun j=>S.at' x2 j))),PV.int .i64 x0]) ([[(0,false,Blk.cols mp [Col.int .i64 tp]),(1,true,Blk.cols (List.length (S.trim (S.mkl (List.length x2) fun j=>S.at' x2 j))) [Col.int .i64 fun j=>S.at' (S.trim (S.mkl (List.length x2) fun j=>S.at' x2 j)) j])]]) (3)) (False)) (False))
theorem t71_0 (test:TT) (Kst:KS) (Kret:KR) (ap np mp:Nat) (tp:NI) (v x0 x1:Int) (x2:List Int):run test Tryz.env true (xB0 test) true 400 ⟨139,hd Tryz.f139 0,zipT [0,1,6,7,8] [PV.loose (PA.mk (0) (1) ap (0)) np,PV.int .i64 v,
 PV.own (1) (1) (List.length x2),PV.int .i64 x0,PV.int .i64 x1],[[(1,(true,Blk.cols (List.length x2) [Col.int .i64 fun j=>S.at' x2 j]))],[(0,(false,.cols mp [.int .i64 tp]))]],2⟩ (proj 1 [0,1,6,7,8] Kst Kret)=
  T71_0 test Kst Kret ap np mp tp v x0 x1 x2:=by kernel_rfl
noncomputable abbrev J71 (ap np mp:Nat) (tp:NI) (v:Int):Rt71→Heap:=fun r=> [newL (1+1) ((N71 ap np mp tp v) r)++ [(0,(false,.cols mp [.int .i64 tp]))]]
attribute [local irreducible] Int.subNatNat in
theorem be71 (ap np mp:Nat) (tp:NI) (v:Int) (Kst:KS) (Kret:KR) (x:St71⊕Rt71) (hS:HS 1 400 ((I71 ap np mp tp v)) Kst x) (hR:HR 1 400 ((V71 ap np mp tp v)) (J71 ap np mp tp v) Kret x) (h:p71 ap np mp tp v=some x):Te71 cond Kst Kret ap np mp tp v:=by
  unfold Te71
  unfold p71 at h
  exact bif_split h (fun c0 h=>bif_split h (fun c1 h=>stop_at hS _ h (fun n=>bif Nat.beq n 1 then 1 else n) rfl rfl rfl ⟨(rn_loose (use_lo rfl) rfl rfl rfl),⟨(rn_int rfl),⟨(rn_own (use_own rfl) rfl mkl_len),⟨(rn_int rfl),⟨(rn_int rfl),trivial⟩⟩⟩⟩⟩ rfl (entl_new (use_own rfl) rfl (Nat.le_of_eq mkl_len) (rcs_int (fun _ hj=>col_mkl (fun (t:Int)=>t) hj) rcs_nil) (entl_bor (use_lo rfl) rfl rfl entl_nil))) (fun c1 h=>no_some h)) (fun c0 h=>no_some h)
attribute [local irreducible] Int.subNatNat in
theorem b71_0 (ap np mp:Nat) (tp:NI) (v:Int) (Kst:KS) (Kret:KR) (x:St71⊕Rt71) (hS:HS 1 400 ((I71 ap np mp tp v)) Kst x) (hR:HR 1 400 ((V71 ap np mp tp v)) (J71 ap np mp tp v) Kret x) (x0 x1:Int) (x2:List Int) (h:q71 ap np mp tp v (.h0 x0 x1 x2)=some x):T71_0 cond Kst Kret ap np mp tp v x0 x1 x2:=by
  unfold T71_0
  rw [q71] at h
  exact bif_split h (fun c0 h=>bif_split h (fun c1 h=>bif_split h (fun c2 h=>bif_split h (fun c3 h=>bif_split h (fun c4 h=>bif_split h (fun c5 h=>no_some h) (fun c5 h=>bif_split h (fun c6 h=>bif_split h (fun c7 h=>bif_split h (fun c8 h=>cond_no c5 (bif_split h (fun c9 h=>stop_at hS _ h (fun n=>bif Nat.beq n 1 then 1 else n) rfl rfl rfl ⟨(rn_loose (use_lo rfl) rfl rfl rfl),⟨(rn_int rfl),⟨(rn_own (use_own rfl) rfl mkl_len),⟨(rn_int rfl),⟨(rn_int rfl),trivial⟩⟩⟩⟩⟩ rfl (entl_new (use_own rfl) rfl (Nat.le_of_eq mkl_len) (rcs_int (fun _ hj=>col_mkl (fun (t:Int)=>t) hj) rcs_nil) (entl_bor (use_lo rfl) rfl rfl entl_nil))) (fun c9 h=>no_some h))) (fun c8 h=>no_some h)) (fun c7 h=>no_some h)) (fun c6 h=>no_some h))) (fun c4 h=>no_some h)) (fun c3 h=>no_some h)) (fun c2 h=>no_some h)) (fun c1 h=>no_some h)) (fun c0 h=>bif_split h (fun c1 h=>bif_split h (fun c2 h=>ret_at hR _ h (fun n=>bif Nat.beq n 2 then 1 else n) rfl rfl rfl (rn_tup ⟨(rn_own (use_own rfl) rfl rfl),(rn_int rfl),trivial⟩) rfl (entl_new (use_own rfl) rfl (Nat.le_of_eq rfl) (rcs_int (fun _ _=>rfl) rcs_nil) (entl_bor (use_lo rfl) rfl rfl entl_nil))) (fun c2 h=>no_some h)) (fun c1 h=>no_some h))
theorem a71 (ap np mp:Nat) (tp:NI) (v:Int) {r:Rt71} (h:Goes ((q71 ap np mp tp v)) ((p71 ap np mp tp v)) r):CallR Tryz.prog 139 [.loose ⟨0,1,ap,0⟩ np,.int .i64 v] [[(0,(false,.cols mp [.int .i64 tp]))]] 1 ((V71 ap np mp tp v) r) ((J71 ap np mp tp v) r) 400∧ ∃ F,Tryz.prog.funcs[139]? =some F∧F.body.isSome=true∧(F.name== "runtime.NumGoroutine")=false:=by
  refine dec_calls (f:=139) (lo:=1) (hi:=400) Tryz.envOk Tryz.mixed xB0_ok ((I71 ap np mp tp v)) ((V71 ap np mp tp v)) (J71 ap np mp tp v) (fn:=mkFn Tryz.f139) (ts:= [0,1,6,7,8]) (n:=400) rfl (by decide) (by simp) (names_of rfl) ?_ ?_ ?_ h
  · intro s; cases s<;>exact ⟨hd_ok _ _,by simp [I71],names_of rfl,Nat.le_of_ble_eq_true rfl⟩
  · intro Kst Kret x hS hR h
    exact Holds.eq (te71 cond Kst Kret ap np mp tp v) (be71 ap np mp tp v Kst Kret x hS hR h)
  · intro Kst Kret x hS hR s h
    cases s with
    |h0 x0 x1 x2=>exact Holds.eq (t71_0 cond Kst Kret ap np mp tp v x0 x1 x2) (b71_0 ap np mp tp v Kst Kret x hS hR x0 x1 x2 h)
noncomputable abbrev w71 {α:Type} (g:Nat→Nat→Nat→(Nat→Int)→Int→α) (x:(Nat×Nat×Nat×(Nat→Int)×Unit)×Int×Unit):α:=g x.1.1 x.1.2.1 x.1.2.2.1 x.1.2.2.2.1 x.2.1
noncomputable def k71:Con:=⟨139,[.one (.list [.int .i64]),.one (.plain (.int .i64))],w71 (fun ap np mp tp v=>decide (ap+np≤mp∧np≤1000∧S.okD np (fun j=>tp (j+ap))=true∧0<v∧v≤1000000)),w71 (fun ap np mp tp v=>(V71 ap np mp tp v) ((S.val np (fun j=>tp (j+ap))) % v,S.grp ((S.val np (fun j=>tp (j+ap))) / v))),w71 (fun ap np mp tp v=>(N71 ap np mp tp v) ((S.val np (fun j=>tp (j+ap))) % v,S.grp ((S.val np (fun j=>tp (j+ap))) / v))),fun _ _=> .dead⟩
theorem s71' (ap np mp:Nat) (tp:Nat→Int) (v:Int) (hp:ap+np≤mp∧np≤1000∧S.okD np (fun j=>tp (j+ap))=true∧0<v∧v≤1000000): ∀ (i:Nat) (r:Int) (Q:List Int),i≤np→Q.length=np→(∀ j,j<np→0≤S.at' Q j∧S.at' Q j<1000000)→r=S.valF (fun j=>tp (j+ap)) i (np-i) % v→S.valF (S.at' Q) i (np-i)=S.valF (fun j=>tp (j+ap)) i (np-i) / v→Comes (q71 ap np mp tp v) (.h0 r ((i:Int)-1) Q) ((S.val np (fun j=>tp (j+ap))) % v,S.grp ((S.val np (fun j=>tp (j+ap))) / v)):=by
  obtain ⟨hp1,hp2,hp3,hp4,hp5⟩:=hp
  have d1:=okD_iff.mp hp3
  intro i
  induction i with
  |zero=>
    intro r Q hi hQ hd hr hv
    have e:S.trim Q=S.grp ((S.val np (fun j=>tp (j+ap))) / v):=by rw [trim_val hQ hd]; exact congrArg S.grp hv
    rw [Nat.sub_zero] at hr
    have hr:r=(S.val np (fun j=>tp (j+ap))) % v:=hr
    rw [← e,← hr,← trim_at]
    apply Comes.of
    show Goes _ _ _
    (first|rw [q71]|unfold q71)
    repeat' (first|with_reducible refine goes_if (fun h=> ?_) (fun h=> ?_)<;>(try simp only [SH] at h)|exact goes_none.mpr (by omega))
    all_goals first|(exfalso; omega)|exact goes_inr.mpr rfl
  | succ i ih=>
    intro r Q hi hQ hd hr hv
    have hx:=d1 i (by omega)
    have st:=div_step (V:=v) (X:=S.valF (fun j=>tp (j+ap)) (i+1) (np-(i+1))) (x:=tp (i+ap)) (by omega) hx (suf_nn d1)
    have s1:=suf_step (t:=(fun j=>tp (j+ap))) (n:=np) (i:=i) (by omega)
    (try dsimp only at s1)
    rw [← s1,← hr] at st
    have r0:0≤r:=by rw [hr]; exact Int.emod_nonneg _ (by omega)
    have r1:r<v:=by rw [hr]; exact Int.emod_lt_of_pos _ (by omega)
    (try dsimp only at hx)
    have n0:0≤r*1000000+tp (i+ap):=by omega
    rw [show tp (i+ap)+1000000*r=r*1000000+tp (i+ap) by omega,← Int.tdiv_eq_ediv_of_nonneg n0,← Int.tmod_eq_emod_of_nonneg n0] at st
    obtain ⟨st1,st2,st3,st4⟩:=st
    generalize hD:Int.tdiv (r*1000000+tp (i+ap)) v=dg at*
    generalize hC:Int.tmod (r*1000000+tp (i+ap)) v=rs at*
    have ih:=ih rs (S.mkl np fun j=>bif Nat.beq j i then dg else S.at' Q j) (by omega) mkl_len (upd_dig hQ hd ⟨st3,st4⟩) st2.symm (by
      rw [st1,show np-i=(np-(i+1))+1 by omega]
      simp only [S.valF]
      rw [upd_at (by omega),if_pos rfl,← hv,valF_congr (u:=S.at' Q) fun j h1 h2=>by rw [upd_at (by omega),if_neg (by omega)]])
    have e1:(((i+1:Nat):Int)-1)=i:=by omega
    rw [e1]
    clear hv hr st1 st2 s1
    apply Comes.of
    show Goes _ _ _
    rw [q71]
    simp only [Int.toNat_natCast,hD,hC,hQ]
    repeat' (first|with_reducible refine goes_if (fun h=> ?_) (fun h=> ?_)<;>(try simp only [SH] at h)|exact goes_none.mpr (by omega))
    all_goals first|(exfalso; omega)|exact ih
theorem s71 (ap np mp:Nat) (tp:Nat→Int) (v:Int) (hp:ap+np≤mp∧np≤1000∧S.okD np (fun j=>tp (j+ap))=true∧0<v∧v≤1000000):Goes ((q71 ap np mp tp v)) ((p71 ap np mp tp v)) (((S.val np (fun j=>tp (j+ap))) % v,S.grp ((S.val np (fun j=>tp (j+ap))) / v))):=by
  have hm:=s71' ap np mp tp v hp np 0 (S.mkl np fun _=>0) (Nat.le_refl _) mkl_len (fun j hj=>by rw [at_mkl hj]; omega) (by rw [Nat.sub_self]; exact (Int.zero_emod v).symm) (by rw [Nat.sub_self]; exact (Int.zero_ediv v).symm)
  obtain ⟨hp1,hp2,hp3,hp4,hp5⟩:=hp
  show Goes _ _ _
  unfold p71
  repeat' (first|with_reducible refine goes_if (fun h=> ?_) (fun h=> ?_)<;>(try simp only [SH] at h)|exact goes_none.mpr (by omega))
  all_goals first|(exfalso; omega)|exact hm
theorem k71_ok:k71.ok Tryz.prog:=by
  intro x hx
  obtain ⟨⟨ap,np,mp,tp,_⟩,v,_⟩:=x
  obtain ⟨h1,h2⟩:=a71 ap np mp tp v (s71 ap np mp tp v (of_dec hx rfl))
  exact ⟨⟨400,(by decide:1+1+1≤400),h1⟩,h2⟩
abbrev St74:=Empty
abbrev Rt74:=Int
noncomputable def V74 (ap np mp:Nat) (tp:NI) (r:Rt74):PV:=PV.int .i64 r
noncomputable def N74 (ap np mp:Nat) (tp:NI) (r:Rt74):List Blk:= []
noncomputable def I74 (ap np mp:Nat) (tp:NI):St74→Hd:=fun s=>s.elim
noncomputable def q74 (ap np mp:Nat) (tp:NI):St74→Option (St74⊕Rt74):=fun s=>s.elim
noncomputable def p74 (ap np mp:Nat) (tp:NI):Option (St74⊕Rt74):=bif (decide ((2:Int)<(↑np:Int))) then (bif (decide ((0:Int)≤2∧(2:Int)<(↑np:Int))) then (bif (decide (2+ap<mp)) then (bif (lim .i64 (tp (2+ap)*1000000)) then (bif (decide ((1:Int)<(↑np:Int))) then (bif (decide ((0:Int)≤1∧(1:Int)<(↑np:Int))) then (bif (decide (1+ap<mp)) then (bif (lim .i64 (tp (2+ap)*1000000+tp (1+ap))) then (bif (lim .i64 ((tp (2+ap)*1000000+tp (1+ap))*1000000)) then (bif (decide ((0:Int)<(↑np:Int))) then (bif (decide ((0:Int)≤0∧(0:Int)<(↑np:Int))) then (bif (decide (0+ap<mp)) then (bif (lim .i64 ((tp (2+ap)*1000000+tp (1+ap))*1000000+tp (0+ap))) then (some (.inr ((tp (2+ap)*1000000+tp (1+ap))*1000000+tp (0+ap)))) else (none)) else (none)) else (none)) else (bif (lim .i64 ((tp (2+ap)*1000000+tp (1+ap))*1000000+0)) then (some (.inr ((tp (2+ap)*1000000+tp (1+ap))*1000000+0))) else (none))) else (none)) else (none)) else (none)) else (none)) else (bif (lim .i64 (tp (2+ap)*1000000+0)) then (bif (lim .i64 ((tp (2+ap)*1000000+0)*1000000)) then (bif (decide ((0:Int)<(↑np:Int))) then (bif (decide ((0:Int)≤0∧(0:Int)<(↑np:Int))) then (bif (decide (0+ap<mp)) then (bif (lim .i64 ((tp (2+ap)*1000000+0)*1000000+tp (0+ap))) then (some (.inr ((tp (2+ap)*1000000+0)*1000000+tp (0+ap)))) else (none)) else (none)) else (none)) else (bif (lim .i64 ((tp (2+ap)*1000000+0)*1000000+0)) then (some (.inr ((tp (2+ap)*1000000+0)*1000000+0))) else (none))) else (none)) else (none))) else (none)) else (none)) else (none)) else (bif (decide ((1:Int)<(↑np:Int))) then (bif (decide ((0:Int)≤1∧(1:Int)<(↑np:Int))) then (bif (decide (1+ap<mp)) then (bif (lim .i64 ((0:Int)+tp (1+ap))) then (bif (lim .i64 (((0:Int)+tp (1+ap))*1000000)) then (bif (decide ((0:Int)<(↑np:Int))) then (bif (decide ((0:Int)≤0∧(0:Int)<(↑np:Int))) then (bif (decide (0+ap<mp)) then (bif (lim .i64 (((0:Int)+tp (1+ap))*1000000+tp (0+ap))) then (some (.inr (((0:Int)+tp (1+ap))*1000000+tp (0+ap)))) else (none)) else (none)) else (none)) else (bif (lim .i64 (((0:Int)+tp (1+ap))*1000000+0)) then (some (.inr (((0:Int)+tp (1+ap))*1000000+0))) else (none))) else (none)) else (none)) else (none)) else (none)) else (bif (decide ((0:Int)<(↑np:Int))) then (bif (decide ((0:Int)≤0∧(0:Int)<(↑np:Int))) then (bif (decide (0+ap<mp)) then (bif (lim .i64 ((0:Int)+tp (0+ap))) then (some (.inr ((0:Int)+tp (0+ap)))) else (none)) else (none)) else (none)) else (some (.inr ((0:Int))))))
noncomputable abbrev u74_e_0 (mp:Nat) (tp:NI):= [[(0,false,Blk.cols mp [Col.int .i64 tp])]]
noncomputable def Te74 (test:TT) (Kst:KS) (Kret:KR) (ap np mp:Nat) (tp:NI):Prop:=test (decide ((2:Int)<(↑np:Int))) (test (decide ((0:Int)≤2∧(2:Int)<(↑np:Int))) (test (decide (2+ap<mp)) (test (lim .i64 (tp (2+ap)*1000000)) (test (decide ((1:Int)<(↑np:Int))) (test (decide ((0:Int)≤1∧(1:Int)<(↑np:Int))) (test (decide (1+ap<mp)) (test (lim .i64 (tp (2+ap)*1000000+tp (1+ap))) (test (lim .i64 ((tp (2+ap)*1000000+tp (1+ap))*1000000)) (test (decide ((0:Int)<(↑np:Int))) (test (decide ((0:Int)≤0∧(0:Int)<(↑np:Int))) (test (decide (0+ap<mp)) (test (lim .i64 ((tp (2+ap)*1000000+tp (1+ap))*1000000+tp (0+ap))) (Kret (PV.int .i64 ((tp (2+ap)*1000000+tp (1+ap))*1000000+tp (0+ap))) (u74_e_0 mp tp) (1)) (False)) (False)) (False)) (test (lim .i64 ((tp (2+ap)*1000000+tp (1+ap))*1000000+0)) (Kret (PV.int .i64 ((tp (2+ap)*1000000+tp (1+ap))*1000000+0)) (u74_e_0 mp tp) (1)) (False))) (False)) (False)) (False)) (False)) (test (lim .i64 (tp (2+ap)*1000000+0)) (test (lim .i64 ((tp (2+ap)*1000000+0)*1000000)) (test (decide ((0:Int)<(↑np:Int))) (test (decide ((0:Int)≤0∧(0:Int)<(↑np:Int))) (test (decide (0+ap<mp)) (test (lim .i64 ((tp (2+ap)*1000000+0)*1000000+tp (0+ap))) (Kret (PV.int .i64 ((tp (2+ap)*1000000+0)*1000000+tp (0+ap))) (u74_e_0 mp tp) (1)) (False)) (False)) (False)) (test (lim .i64 ((tp (2+ap)*1000000+0)*1000000+0)) (Kret (PV.int .i64 ((tp (2+ap)*1000000+0)*1000000+0)) (u74_e_0 mp tp) (1)) (False))) (False)) (False))) (False)) (False)) (False)) (test (true) (test (decide ((1:Int)<(↑np:Int))) (test (decide ((0:Int)≤1∧(1:Int)<(↑np:Int))) (test (decide (1+ap<mp)) (test (lim .i64 ((0:Int)+tp (1+ap))) (test (lim .i64 (((0:Int)+tp (1+ap))*1000000)) (test (decide ((0:Int)<(↑np:Int))) (test (decide ((0:Int)≤0∧(0:Int)<(↑np:Int))) (test (decide (0+ap<mp)) (test (lim .i64 (((0:Int)+tp (1+ap))*1000000+tp (0+ap))) (Kret (PV.int .i64 (((0:Int)+tp (1+ap))*1000000+tp (0+ap))) (u74_e_0 mp tp) (1)) (False)) (False)) (False)) (test (lim .i64 (((0:Int)+tp (1+ap))*1000000+0)) (Kret (PV.int .i64 (((0:Int)+tp (1+ap))*1000000+0)) (u74_e_0 mp tp) (1)) (False))) (False)) (False)) (False)) (False)) (test (true) (test (true) (test (decide ((0:Int)<(↑np:Int))) (test (decide ((0:Int)≤0∧(0:Int)<(↑np:Int))) (test (decide (0+ap<mp)) (test (lim .i64 ((0:Int)+tp (0+ap))) (Kret (PV.int .i64 ((0:Int)+tp (0+ap))) (u74_e_0 mp tp) (1)) (False)) (False)) (False)) (test (true) (Kret (PV.int .i64 (0:Int)) (u74_e_0 mp tp) (1)) (False))) (False)) (False))) (False))
theorem te74 (test:TT) (Kst:KS) (Kret:KR) (ap np mp:Nat) (tp:NI):run test Tryz.env true (xB0 test) true 400 ⟨132,[.cd (mkFn Tryz.f132).body],argT 0 [.loose ⟨0,1,ap,0⟩ np],[[],[(0,(false,.cols mp [.int .i64 tp]))]],1⟩ (proj 1 [] Kst Kret)=
  Te74 test Kst Kret ap np mp tp:=by kernel_rfl
noncomputable abbrev J74 (ap np mp:Nat) (tp:NI):Rt74→Heap:=fun r=> [newL (1+1) ((N74 ap np mp tp) r)++ [(0,(false,.cols mp [.int .i64 tp]))]]
attribute [local irreducible] Int.subNatNat in
theorem be74 (ap np mp:Nat) (tp:NI) (Kst:KS) (Kret:KR) (x:St74⊕Rt74) (hS:HS 1 400 ((I74 ap np mp tp)) Kst x) (hR:HR 1 400 ((V74 ap np mp tp)) (J74 ap np mp tp) Kret x) (h:p74 ap np mp tp=some x):Te74 cond Kst Kret ap np mp tp:=by
  unfold Te74
  unfold p74 at h
  refine bif_split h (fun c0 h=>bif_split h (fun c1 h=>bif_split h (fun c2 h=>bif_split h (fun c3 h=>bif_split h (fun c4 h=>bif_split h (fun c5 h=>bif_split h (fun c6 h=>bif_split h (fun c7 h=>bif_split h (fun c8 h=>bif_split h (fun c9 h=>bif_split h (fun c10 h=>bif_split h (fun c11 h=>bif_split h (fun c12 h=> ?_) (fun c12 h=> ?_)) (fun c11 h=> ?_)) (fun c10 h=> ?_)) (fun c9 h=>bif_split h (fun c10 h=> ?_) (fun c10 h=> ?_))) (fun c8 h=> ?_)) (fun c7 h=> ?_)) (fun c6 h=> ?_)) (fun c5 h=> ?_)) (fun c4 h=>bif_split h (fun c5 h=>bif_split h (fun c6 h=>bif_split h (fun c7 h=>bif_split h (fun c8 h=>bif_split h (fun c9 h=>bif_split h (fun c10 h=> ?_) (fun c10 h=> ?_)) (fun c9 h=> ?_)) (fun c8 h=> ?_)) (fun c7 h=>bif_split h (fun c8 h=> ?_) (fun c8 h=> ?_))) (fun c6 h=> ?_)) (fun c5 h=> ?_))) (fun c3 h=> ?_)) (fun c2 h=> ?_)) (fun c1 h=> ?_)) (fun c0 h=>cond_yes rfl (bif_split h (fun c1 h=>bif_split h (fun c2 h=>bif_split h (fun c3 h=>bif_split h (fun c4 h=>bif_split h (fun c5 h=>bif_split h (fun c6 h=>bif_split h (fun c7 h=>bif_split h (fun c8 h=>bif_split h (fun c9 h=> ?_) (fun c9 h=> ?_)) (fun c8 h=> ?_)) (fun c7 h=> ?_)) (fun c6 h=>bif_split h (fun c7 h=> ?_) (fun c7 h=> ?_))) (fun c5 h=> ?_)) (fun c4 h=> ?_)) (fun c3 h=> ?_)) (fun c2 h=> ?_)) (fun c1 h=>cond_yes rfl (cond_yes rfl (bif_split h (fun c2 h=>bif_split h (fun c3 h=>bif_split h (fun c4 h=>bif_split h (fun c5 h=> ?_) (fun c5 h=> ?_)) (fun c4 h=> ?_)) (fun c3 h=> ?_)) (fun c2 h=>cond_yes rfl (ret_at hR _ h (fun n=>n) rfl rfl rfl (rn_int rfl) rfl (entl_bor (use_lo rfl) rfl rfl entl_nil))))))))
  all_goals first
    |exact no_some h
    |exact ret_at hR _ h (fun n=>n) rfl rfl rfl (rn_int rfl) rfl (entl_bor (use_lo rfl) rfl rfl entl_nil)
theorem a74 (ap np mp:Nat) (tp:NI) {r:Rt74} (h:Goes ((q74 ap np mp tp)) ((p74 ap np mp tp)) r):CallR Tryz.prog 132 [.loose ⟨0,1,ap,0⟩ np] [[(0,(false,.cols mp [.int .i64 tp]))]] 1 ((V74 ap np mp tp) r) ((J74 ap np mp tp) r) 400∧ ∃ F,Tryz.prog.funcs[132]? =some F∧F.body.isSome=true∧(F.name== "runtime.NumGoroutine")=false:=by
  refine dec_calls (f:=132) (lo:=1) (hi:=400) Tryz.envOk Tryz.mixed xB0_ok ((I74 ap np mp tp)) ((V74 ap np mp tp)) (J74 ap np mp tp) (fn:=mkFn Tryz.f132) (ts:= []) (n:=400) rfl (by decide) (by simp) (names_of rfl) ?_ ?_ ?_ h
  · intro s; exact s.elim
  · intro Kst Kret x hS hR h
    exact Holds.eq (te74 cond Kst Kret ap np mp tp) (be74 ap np mp tp Kst Kret x hS hR h)
  · intro Kst Kret x hS hR s h; exact s.elim
noncomputable abbrev w74 {α:Type} (g:Nat→Nat→Nat→(Nat→Int)→α) (x:(Nat×Nat×Nat×(Nat→Int)×Unit)×Unit):α:=g x.1.1 x.1.2.1 x.1.2.2.1 x.1.2.2.2.1
noncomputable def k74:Con:=⟨132,[.one (.list [.int .i64])],w74 (fun ap np mp tp=>decide (ap+np≤mp∧np≤3∧S.okD np (fun j=>tp (j+ap))=true)),w74 (fun ap np mp tp=>(V74 ap np mp tp) ((S.val np (fun j=>tp (j+ap))))),w74 (fun ap np mp tp=>(N74 ap np mp tp) ((S.val np (fun j=>tp (j+ap))))),fun _ _=> .dead⟩
theorem s74 (ap np mp:Nat) (tp:Nat→Int) (hp:ap+np≤mp∧np≤3∧S.okD np (fun j=>tp (j+ap))=true):Goes ((q74 ap np mp tp)) ((p74 ap np mp tp)) ((S.val np (fun j=>tp (j+ap)))):=by
  obtain ⟨hp1,hp2,hp3⟩:=hp
  have d1:=okD_iff.mp hp3
  have h0:=fun h=>d1 0 h
  have h1:=fun h=>d1 1 h
  have h2:=fun h=>d1 2 h
  (try dsimp only at h0 h1 h2)
  have hn:np=0∨np=1∨np=2∨np=3:=by omega
  rcases hn with rfl|rfl|rfl|rfl
  · simp only [S.val,S.valF,Nat.zero_add,Nat.reduceAdd] at*
    show Goes _ _ _
    unfold p74
    repeat' (first|with_reducible refine goes_if (fun h=> ?_) (fun h=> ?_)<;>(try simp only [SH,Nat.zero_add] at h)|exact goes_none.mpr (by omega))
    all_goals first|(exfalso; omega)|(refine goes_inr.mpr ?_; first|rfl|(show (_:Int)=_; rw [Nat.zero_add (n:=ap)]; omega))
  · simp only [S.val,S.valF,Nat.zero_add,Nat.reduceAdd] at*
    show Goes _ _ _
    unfold p74
    repeat' (first|with_reducible refine goes_if (fun h=> ?_) (fun h=> ?_)<;>(try simp only [SH,Nat.zero_add] at h)|exact goes_none.mpr (by omega))
    all_goals first|(exfalso; omega)|(refine goes_inr.mpr ?_; first|rfl|(show (_:Int)=_; rw [Nat.zero_add (n:=ap)]; omega))
  · simp only [S.val,S.valF,Nat.zero_add,Nat.reduceAdd] at*
    show Goes _ _ _
    unfold p74
    repeat' (first|with_reducible refine goes_if (fun h=> ?_) (fun h=> ?_)<;>(try simp only [SH,Nat.zero_add] at h)|exact goes_none.mpr (by omega))
    all_goals first|(exfalso; omega)|(refine goes_inr.mpr ?_; first|rfl|(show (_:Int)=_; rw [Nat.zero_add (n:=ap)]; omega))
  · simp only [S.val,S.valF,Nat.zero_add,Nat.reduceAdd] at*
    show Goes _ _ _
    unfold p74
    repeat' (first|with_reducible refine goes_if (fun h=> ?_) (fun h=> ?_)<;>(try simp only [SH,Nat.zero_add] at h)|exact goes_none.mpr (by omega))
    all_goals first|(exfalso; omega)|(refine goes_inr.mpr ?_; first|rfl|(show (_:Int)=_; rw [Nat.zero_add (n:=ap)]; omega))
theorem k74_ok:k74.ok Tryz.prog:=by
  intro x hx
  obtain ⟨⟨ap,np,mp,tp,_⟩,_⟩:=x
  obtain ⟨h1,h2⟩:=a74 ap np mp tp (s74 ap np mp tp (of_dec hx rfl))
  exact ⟨⟨400,(by decide:1+1+0≤400),h1⟩,h2⟩
inductive St77 where
  |h0 (x0:Int) (x1:Int)
abbrev Rt77:=Int
noncomputable def V77 (ap np mp:Nat) (tp:NI) (v:Int) (r:Rt77):PV:=PV.int .i64 r
noncomputable def N77 (ap np mp:Nat) (tp:NI) (v:Int) (r:Rt77):List Blk:= []
noncomputable def I77 (ap np mp:Nat) (tp:NI) (v:Int):St77→Hd
  | .h0 x0 x1=>⟨hd Tryz.f147 0,[PV.loose (PA.mk (0) (1) ap (0)) np,PV.int .i64 v,
 PV.int .i64 x0,PV.int .i64 x1],[[],[(0,(false,.cols mp [.int .i64 tp]))]],1⟩
noncomputable def q77 (ap np mp:Nat) (tp:NI) (v:Int):St77→Option (St77⊕Rt77)| .h0 x0 x1=>bif (decide (x1≥v)) then (bif (lim .i64 (x0*1000000)) then (bif (decide ((0:Int)≤x1∧x1<(↑np:Int))) then (bif (decide (Int.toNat x1+ap<mp)) then (bif (lim .i64 (x0*1000000+tp (Int.toNat x1+ap))) then (bif (lim .i64 (x1-1)) then (some (.inl (.h0 (x0*1000000+tp (Int.toNat x1+ap)) (x1-1)))) else (none)) else (none)) else (none)) else (none)) else (none)) else (some (.inr (x0)))
noncomputable def p77 (ap np mp:Nat) (tp:NI) (v:Int):Option (St77⊕Rt77):=bif (lim .i64 (v+3)) then (bif (lim .i64 (Min.min (↑np:Int) (v+3)-1)) then (some (.inl (.h0 ((0:Int)) (Min.min (↑np:Int) (v+3)-1)))) else (none)) else (none)
noncomputable def Te77 (test:TT) (Kst:KS) (Kret:KR) (ap np mp:Nat) (tp:NI) (v:Int):Prop:=test (lim .i64 (v+3)) (test (lim .i64 (Min.min (↑np:Int) (v+3)-1)) (Kst (hd Tryz.f147 0) ([PV.loose (PA.mk (0) (1) ap (0)) np,PV.int .i64 v,PV.int .i64 (0:Int),PV.int .i64 (Min.min (↑np:Int) (v+3)-1)]) ([[(0,false,Blk.cols mp [Col.int .i64 tp])]]) (1)) (False)) (False)
theorem te77 (test:TT) (Kst:KS) (Kret:KR) (ap np mp:Nat) (tp:NI) (v:Int):run test Tryz.env true (xB0 test) true 400 ⟨147,[.cd (mkFn Tryz.f147).body],argT 0 [.loose ⟨0,1,ap,0⟩ np,.int .i64 v],[[],[(0,(false,.cols mp [.int .i64 tp]))]],1⟩ (proj 1 [0,1,5,6] Kst Kret)=
  Te77 test Kst Kret ap np mp tp v:=by kernel_rfl
noncomputable def T77_0 (test:TT) (Kst:KS) (Kret:KR) (ap np mp:Nat) (tp:NI) (v x0 x1:Int):Prop:=test (decide (x1≥v)) (test (lim .i64 (x0*1000000)) (test (decide ((0:Int)≤x1∧x1<(↑np:Int))) (test (decide (Int.toNat x1+ap<mp)) (test (lim .i64 (x0*1000000+tp (Int.toNat x1+ap))) (test (lim .i64 (x1-1)) (Kst (hd Tryz.f147 0) ([PV.loose (PA.mk (0) (1) ap (0)) np,PV.int .i64 v,PV.int .i64 (x0*1000000+tp (Int.toNat x1+ap)),PV.int .i64 (x1-1)]) ([[(0,false,Blk.cols mp [Col.int .i64 tp])]]) (1)) (False)) (False)) (False)) (False)) (False)) (Kret (PV.int .i64 x0) ([[(0,false,Blk.cols mp [Col.int .i64 tp])]]) (1))
theorem t77_0 (test:TT) (Kst:KS) (Kret:KR) (ap np mp:Nat) (tp:NI) (v x0 x1:Int):run test Tryz.env true (xB0 test) true 400 ⟨147,hd Tryz.f147 0,zipT [0,1,5,6] [PV.loose (PA.mk (0) (1) ap (0)) np,PV.int .i64 v,
 PV.int .i64 x0,PV.int .i64 x1],[[],[(0,(false,.cols mp [.int .i64 tp]))]],1⟩ (proj 1 [0,1,5,6] Kst Kret)=
  T77_0 test Kst Kret ap np mp tp v x0 x1:=by kernel_rfl
noncomputable abbrev J77 (ap np mp:Nat) (tp:NI) (v:Int):Rt77→Heap:=fun r=> [newL (1+1) ((N77 ap np mp tp v) r)++ [(0,(false,.cols mp [.int .i64 tp]))]]
attribute [local irreducible] Int.subNatNat in
theorem be77 (ap np mp:Nat) (tp:NI) (v:Int) (Kst:KS) (Kret:KR) (x:St77⊕Rt77) (hS:HS 1 400 ((I77 ap np mp tp v)) Kst x) (hR:HR 1 400 ((V77 ap np mp tp v)) (J77 ap np mp tp v) Kret x) (h:p77 ap np mp tp v=some x):Te77 cond Kst Kret ap np mp tp v:=by
  unfold Te77
  unfold p77 at h
  exact bif_split h (fun c0 h=>bif_split h (fun c1 h=>stop_at hS _ h (fun n=>n) rfl rfl rfl ⟨(rn_loose (use_lo rfl) rfl rfl rfl),⟨(rn_int rfl),⟨(rn_int rfl),⟨(rn_int rfl),trivial⟩⟩⟩⟩ rfl (entl_bor (use_lo rfl) rfl rfl entl_nil)) (fun c1 h=>no_some h)) (fun c0 h=>no_some h)
attribute [local irreducible] Int.subNatNat in
theorem b77_0 (ap np mp:Nat) (tp:NI) (v:Int) (Kst:KS) (Kret:KR) (x:St77⊕Rt77) (hS:HS 1 400 ((I77 ap np mp tp v)) Kst x) (hR:HR 1 400 ((V77 ap np mp tp v)) (J77 ap np mp tp v) Kret x) (x0 x1:Int) (h:q77 ap np mp tp v (.h0 x0 x1)=some x):T77_0 cond Kst Kret ap np mp tp v x0 x1:=by
  unfold T77_0
  rw [q77] at h
  exact bif_split h (fun c0 h=>bif_split h (fun c1 h=>bif_split h (fun c2 h=>bif_split h (fun c3 h=>bif_split h (fun c4 h=>bif_split h (fun c5 h=>stop_at hS _ h (fun n=>n) rfl rfl rfl ⟨(rn_loose (use_lo rfl) rfl rfl rfl),⟨(rn_int rfl),⟨(rn_int rfl),⟨(rn_int rfl),trivial⟩⟩⟩⟩ rfl (entl_bor (use_lo rfl) rfl rfl entl_nil)) (fun c5 h=>no_some h)) (fun c4 h=>no_some h)) (fun c3 h=>no_some h)) (fun c2 h=>no_some h)) (fun c1 h=>no_some h)) (fun c0 h=>ret_at hR _ h (fun n=>n) rfl rfl rfl (rn_int rfl) rfl (entl_bor (use_lo rfl) rfl rfl entl_nil))
theorem a77 (ap np mp:Nat) (tp:NI) (v:Int) {r:Rt77} (h:Goes ((q77 ap np mp tp v)) ((p77 ap np mp tp v)) r):CallR Tryz.prog 147 [.loose ⟨0,1,ap,0⟩ np,.int .i64 v] [[(0,(false,.cols mp [.int .i64 tp]))]] 1 ((V77 ap np mp tp v) r) ((J77 ap np mp tp v) r) 400∧ ∃ F,Tryz.prog.funcs[147]? =some F∧F.body.isSome=true∧(F.name== "runtime.NumGoroutine")=false:=by
  refine dec_calls (f:=147) (lo:=1) (hi:=400) Tryz.envOk Tryz.mixed xB0_ok ((I77 ap np mp tp v)) ((V77 ap np mp tp v)) (J77 ap np mp tp v) (fn:=mkFn Tryz.f147) (ts:= [0,1,5,6]) (n:=400) rfl (by decide) (by simp) (names_of rfl) ?_ ?_ ?_ h
  · intro s; cases s<;>exact ⟨hd_ok _ _,by simp [I77],names_of rfl,Nat.le_of_ble_eq_true rfl⟩
  · intro Kst Kret x hS hR h
    exact Holds.eq (te77 cond Kst Kret ap np mp tp v) (be77 ap np mp tp v Kst Kret x hS hR h)
  · intro Kst Kret x hS hR s h
    cases s with
    |h0 x0 x1=>exact Holds.eq (t77_0 cond Kst Kret ap np mp tp v x0 x1) (b77_0 ap np mp tp v Kst Kret x hS hR x0 x1 h)
noncomputable abbrev w77 {α:Type} (g:Nat→Nat→Nat→(Nat→Int)→Int→α) (x:(Nat×Nat×Nat×(Nat→Int)×Unit)×Int×Unit):α:=g x.1.1 x.1.2.1 x.1.2.2.1 x.1.2.2.2.1 x.2.1
noncomputable def k77:Con:=⟨147,[.one (.list [.int .i64]),.one (.plain (.int .i64))],w77 (fun ap np mp tp v=>decide (ap+np≤mp∧np≤1000∧S.okD np (fun j=>tp (j+ap))=true∧0≤v∧v≤1000)),w77 (fun ap np mp tp v=>(V77 ap np mp tp v) (S.valF (fun j=>tp (j+ap)) v.toNat (min np (v.toNat+3)-v.toNat))),w77 (fun ap np mp tp v=>(N77 ap np mp tp v) (S.valF (fun j=>tp (j+ap)) v.toNat (min np (v.toNat+3)-v.toNat))),fun _ _=> .dead⟩
theorem s77' (ap np mp:Nat) (tp:Nat→Int) (v:Int) (hp:ap+np≤mp∧np≤1000∧S.okD np (fun j=>tp (j+ap))=true∧0≤v∧v≤1000): ∀ (k i:Nat),v.toNat+k=i→i≤min np (v.toNat+3)→Comes (q77 ap np mp tp v) (.h0 (S.valF (fun j=>tp (j+ap)) i (min np (v.toNat+3)-i)) ((i:Int)-1)) (S.valF (fun j=>tp (j+ap)) v.toNat (min np (v.toNat+3)-v.toNat)):=by
  obtain ⟨hp1,hp2,hp3,hp4,hp5⟩:=hp
  have d1:=okD_iff.mp hp3
  intro k
  induction k with
  |zero=>
    intro i hi hm
    obtain rfl:v.toNat=i:=by omega
    apply Comes.of
    show Goes _ _ _
    (first|rw [q77]|unfold q77)
    repeat' (first|with_reducible refine goes_if (fun h=> ?_) (fun h=> ?_)<;>(try simp only [SH] at h)|exact goes_none.mpr (by omega))
    all_goals first|(exfalso; omega)|exact goes_inr.mpr rfl
  | succ k ih=>
    intro i hi hm
    have ih:=ih (i-1) (by omega) (by omega)
    have hx:=d1 (i-1) (by omega)
    have hl:=valF_lt (t:=(fun j=>tp (j+ap))) (k:=min np (v.toNat+3)-i) (i:=i) fun j h1 h2=>d1 j (by omega)
    have hg:=valF_nn (t:=(fun j=>tp (j+ap))) (k:=min np (v.toNat+3)-i) (i:=i) fun j h1 h2=>(d1 j (by omega)).1
    have hw:=pw_mono (k:=min np (v.toNat+3)-i) (m:=2) (by omega)
    have hw2:S.pw 2=1000000000000:=rfl
    have e1:((i:Int)-1)=((i-1:Nat):Int):=by omega
    have s1:S.valF (fun j=>tp (j+ap)) (i-1) (min np (v.toNat+3)-(i-1))=tp (i-1+ap)+1000000*S.valF (fun j=>tp (j+ap)) i (min np (v.toNat+3)-i):=by
      rw [show min np (v.toNat+3)-(i-1)=(min np (v.toNat+3)-i)+1 by omega]
      simp only [S.valF]
      rw [show i-1+1=i by omega]
    (try dsimp only at hx)
    generalize S.valF (fun j=>tp (j+ap)) i (min np (v.toNat+3)-i)=w at*
    rw [s1,show tp (i-1+ap)+1000000*w=w*1000000+tp (i-1+ap) by omega] at ih
    clear s1
    rw [e1]
    apply Comes.of
    show Goes _ _ _
    rw [q77]
    simp only [Int.toNat_natCast]
    repeat' (first|with_reducible refine goes_if (fun h=> ?_) (fun h=> ?_)<;>(try simp only [SH] at h)|exact goes_none.mpr (by omega))
    all_goals first|(exfalso; omega)|exact ih
theorem s77 (ap np mp:Nat) (tp:Nat→Int) (v:Int) (hp:ap+np≤mp∧np≤1000∧S.okD np (fun j=>tp (j+ap))=true∧0≤v∧v≤1000):Goes ((q77 ap np mp tp v)) ((p77 ap np mp tp v)) (S.valF (fun j=>tp (j+ap)) v.toNat (min np (v.toNat+3)-v.toNat)):=by
  by_cases hv:v.toNat≤min np (v.toNat+3)
  · have hm:=s77' ap np mp tp v hp (min np (v.toNat+3)-v.toNat) (min np (v.toNat+3)) (by omega) (Nat.le_refl _)
    obtain ⟨hp1,hp2,hp3,hp4,hp5⟩:=hp
    rw [Nat.sub_self] at hm
    have e1:min (np:Int) (v+3)-1=((min np (v.toNat+3):Nat):Int)-1:=by omega
    rw [← e1] at hm
    show Goes _ _ _
    unfold p77
    repeat' (first|with_reducible refine goes_if (fun h=> ?_) (fun h=> ?_)<;>(try simp only [SH] at h)|exact goes_none.mpr (by omega))
    all_goals first|(exfalso; omega)|exact hm
  · obtain ⟨hp1,hp2,hp3,hp4,hp5⟩:=hp
    rw [show min np (v.toNat+3)-v.toNat=0 by omega]
    simp only [S.valF]
    have hm:Comes (q77 ap np mp tp v) (.h0 0 (min (np:Int) (v+3)-1)) 0:=by
      apply Comes.of
      show Goes _ _ _
      (first|rw [q77]|unfold q77)
      repeat' (first|with_reducible refine goes_if (fun h=> ?_) (fun h=> ?_)<;>(try simp only [SH] at h)|exact goes_none.mpr (by omega))
      all_goals first|(exfalso; omega)|exact goes_inr.mpr rfl
    show Goes _ _ _
    unfold p77
    repeat' (first|with_reducible refine goes_if (fun h=> ?_) (fun h=> ?_)<;>(try simp only [SH] at h)|exact goes_none.mpr (by omega))
    all_goals first|(exfalso; omega)|exact hm
theorem k77_ok:k77.ok Tryz.prog:=by
  intro x hx
  obtain ⟨⟨ap,np,mp,tp,_⟩,v,_⟩:=x
  obtain ⟨h1,h2⟩:=a77 ap np mp tp v (s77 ap np mp tp v (of_dec hx rfl))
  exact ⟨⟨400,(by decide:1+1+0≤400),h1⟩,h2⟩
abbrev St70:=Empty
abbrev Rt70:=Int
noncomputable def V70 (ap np mp:Nat) (tp:NI) (v:Int) (r:Rt70):PV:=PV.int .i64 r
noncomputable def N70 (ap np mp:Nat) (tp:NI) (v:Int) (r:Rt70):List Blk:= []
noncomputable def I70 (ap np mp:Nat) (tp:NI) (v:Int):St70→Hd:=fun s=>s.elim
noncomputable def q70 (ap np mp:Nat) (tp:NI) (v:Int):St70→Option (St70⊕Rt70):=fun s=>s.elim
noncomputable def p70 (ap np mp:Nat) (tp:NI) (v:Int):Option (St70⊕Rt70):=bif (decide (v<(↑np:Int))) then (bif (decide ((0:Int)≤v∧v<(↑np:Int))) then (bif (decide (Int.toNat v+ap<mp)) then (some (.inr (tp (Int.toNat v+ap)))) else (none)) else (none)) else (some (.inr ((0:Int))))
noncomputable def Te70 (test:TT) (Kst:KS) (Kret:KR) (ap np mp:Nat) (tp:NI) (v:Int):Prop:=test (decide (v<(↑np:Int))) (test (decide ((0:Int)≤v∧v<(↑np:Int))) (test (decide (Int.toNat v+ap<mp)) (Kret (PV.int .i64 (tp (Int.toNat v+ap))) ([[(0,false,Blk.cols mp [Col.int .i64 tp])]]) (1)) (False)) (False)) (Kret (PV.int .i64 (0:Int)) ([[(0,false,Blk.cols mp [Col.int .i64 tp])]]) (1))
theorem te70 (test:TT) (Kst:KS) (Kret:KR) (ap np mp:Nat) (tp:NI) (v:Int):run test Tryz.env true noX true 400 ⟨133,[.cd (mkFn Tryz.f133).body],argT 0 [.loose ⟨0,1,ap,0⟩ np,.int .i64 v],[[],[(0,(false,.cols mp [.int .i64 tp]))]],1⟩ (proj 1 [] Kst Kret)=
  Te70 test Kst Kret ap np mp tp v:=by kernel_rfl
noncomputable abbrev J70 (ap np mp:Nat) (tp:NI) (v:Int):Rt70→Heap:=fun r=> [newL (1+1) ((N70 ap np mp tp v) r)++ [(0,(false,.cols mp [.int .i64 tp]))]]
attribute [local irreducible] Int.subNatNat in
theorem be70 (ap np mp:Nat) (tp:NI) (v:Int) (Kst:KS) (Kret:KR) (x:St70⊕Rt70) (hS:HS 1 400 ((I70 ap np mp tp v)) Kst x) (hR:HR 1 400 ((V70 ap np mp tp v)) (J70 ap np mp tp v) Kret x) (h:p70 ap np mp tp v=some x):Te70 cond Kst Kret ap np mp tp v:=by
  unfold Te70
  unfold p70 at h
  exact bif_split h (fun c0 h=>bif_split h (fun c1 h=>bif_split h (fun c2 h=>ret_at hR _ h (fun n=>n) rfl rfl rfl (rn_int rfl) rfl (entl_bor (use_lo rfl) rfl rfl entl_nil)) (fun c2 h=>no_some h)) (fun c1 h=>no_some h)) (fun c0 h=>ret_at hR _ h (fun n=>n) rfl rfl rfl (rn_int rfl) rfl (entl_bor (use_lo rfl) rfl rfl entl_nil))
theorem a70 (ap np mp:Nat) (tp:NI) (v:Int) {r:Rt70} (h:Goes ((q70 ap np mp tp v)) ((p70 ap np mp tp v)) r):CallR Tryz.prog 133 [.loose ⟨0,1,ap,0⟩ np,.int .i64 v] [[(0,(false,.cols mp [.int .i64 tp]))]] 1 ((V70 ap np mp tp v) r) ((J70 ap np mp tp v) r) 400∧ ∃ F,Tryz.prog.funcs[133]? =some F∧F.body.isSome=true∧(F.name== "runtime.NumGoroutine")=false:=by
  refine dec_calls (f:=133) (lo:=1) (hi:=400) Tryz.envOk Tryz.mixed noX_ok ((I70 ap np mp tp v)) ((V70 ap np mp tp v)) (J70 ap np mp tp v) (fn:=mkFn Tryz.f133) (ts:= []) (n:=400) rfl (by decide) (by simp) (names_of rfl) ?_ ?_ ?_ h
  · intro s; exact s.elim
  · intro Kst Kret x hS hR h
    exact Holds.eq (te70 cond Kst Kret ap np mp tp v) (be70 ap np mp tp v Kst Kret x hS hR h)
  · intro Kst Kret x hS hR s h; exact s.elim
noncomputable abbrev w70 {α:Type} (g:Nat→Nat→Nat→(Nat→Int)→Int→α) (x:(Nat×Nat×Nat×(Nat→Int)×Unit)×Int×Unit):α:=g x.1.1 x.1.2.1 x.1.2.2.1 x.1.2.2.2.1 x.2.1
noncomputable def k70:Con:=⟨133,[.one (.list [.int .i64]),.one (.plain (.int .i64))],w70 (fun ap np mp tp v=>decide (ap+np≤mp∧0≤v)),w70 (fun ap np mp tp v=>(V70 ap np mp tp v) (S.ext np (fun j=>tp (j+ap)) v.toNat)),w70 (fun ap np mp tp v=>(N70 ap np mp tp v) (S.ext np (fun j=>tp (j+ap)) v.toNat)),fun _ _=> .dead⟩
theorem s70 (ap np mp:Nat) (tp:Nat→Int) (v:Int) (hp:ap+np≤mp∧0≤v):Goes ((q70 ap np mp tp v)) ((p70 ap np mp tp v)) (S.ext np (fun j=>tp (j+ap)) v.toNat):=by
  obtain ⟨hp1,hp2⟩:=hp
  unfold S.ext
  show Goes _ _ _
  unfold p70
  repeat' (first|with_reducible refine goes_if (fun h=> ?_) (fun h=> ?_)<;>(try simp only [SH] at h)|exact goes_none.mpr (by omega))
  all_goals first
    |(exfalso; omega)
    |(rw [if_pos (by omega)]; exact goes_inr.mpr rfl)
    |(rw [if_neg (by omega)]; exact goes_inr.mpr rfl)
theorem k70_ok:k70.ok Tryz.prog:=by
  intro x hx
  obtain ⟨⟨ap,np,mp,tp,_⟩,v,_⟩:=x
  obtain ⟨h1,h2⟩:=a70 ap np mp tp v (s70 ap np mp tp v (of_dec hx rfl))
  exact ⟨⟨400,(by decide:1+1+0≤400),h1⟩,h2⟩
noncomputable def xG1 (test:Bool→Prop→Prop→Prop):Ext:=consX test [k65,k65v,k61,k73,k59,k53,k74,k70]
theorem xG1_ok:ExtOk Tryz.prog (xG1 cond):=consX_ok ⟨k65_ok,k65v_ok,k61_ok,k73_ok,k59_ok,k53_ok,k74_ok,k70_ok,trivial⟩
namespace S
noncomputable def winD (t:Nat→Int) (a n:Nat) (v:Int) (j:Nat):Int:=if a≤j∧j<a+n then at' (grp v) (j-a) else t j
end S
theorem dig_grp {t:Nat→Int}: ∀ {k i:Nat} {v:Int},(∀ j,i≤j→j<i+k→0≤t j∧t j<1000000)→S.valF t i k=v→ ∀ j,j<k→t (i+j)=S.at' (S.grp v) j
  |0,i,v,_,_,j,h=>by omega
  | k + 1,i,v,hd,hv,j,hj=>by
    have h0:=hd i (Nat.le_refl _) (by omega)
    have hn:=valF_nn (t:=t) (k:=k) (i:=i+1) fun j h1 h2=>(hd j (by omega) (by omega)).1
    by_cases hp:0<v
    · have hv':=hv
      simp only [S.valF] at hv
      rw [grp_pos hp]
      cases j with
      |zero=>show t i=v % 1000000; omega
      |succ j=>
        have:=dig_grp (k:=k) (i:=i+1) (v:=v / 1000000) (fun j h1 h2=>hd j (by omega) (by omega)) (by omega) j (by omega)
        rw [show i+(j+1)=i+1+j by omega,this]
        simp [S.at']
    · rw [grp_neg (by omega),valF_zero_dig hd (by omega) (i+j) (by omega) (by omega)]
      simp [S.at']
theorem pre_upd {R:List Int} {m p i:Nat} {g:Int} (h:p+i<m):S.valF (fun j=>S.at' (S.mkl m fun j=>bif Nat.beq j (i+p) then g else S.at' R j) (j+p)) 0 (i+1)=S.valF (fun j=>S.at' R (j+p)) 0 i+S.pw i*g:=by
  rw [valF_snoc,Nat.zero_add]
  congr 1
  · exact valF_congr fun j h1 h2=>by
      show S.at' _ (j+p)=S.at' _ (j+p)
      rw [upd_at (by omega),if_neg (by omega)]
  · congr 1
    show S.at' _ (i+p)=g
    rw [upd_at (by omega),if_pos rfl]
theorem sub_eq {X Y Z a c c' d u w g:Int} (h1:X+a*c=Y-d*Z) (h2:g+1000000*c'=c+u-d*w):X+a*g+1000000*a*c'=(Y+a*u)-d*(Z+a*w):=by grind
theorem add_eq {X Y Z a c c' u w g:Int} (h1:X+a*c=Y+Z) (h2:g+1000000*c'=c+u+w):X+a*g+1000000*a*c'=(Y+a*u)+(Z+a*w):=by grind
theorem top_zero {a X T V:Int} (ha:0<a) (hX:0≤X∧X<a) (h0:0≤X+a*T) (h1:X+a*T<V) (hV:V≤a):T=0:=by
  rcases Int.lt_trichotomy T 0 with h|h|h
  · have:a*T≤a*(-1):=Int.mul_le_mul_of_nonneg_left (by omega) (by omega)
    omega
  · exact h
  · have:a*1≤a*T:=Int.mul_le_mul_of_nonneg_left (by omega) (by omega)
    omega
theorem win_list {R:List Int} {m p n:Nat} {t:Nat→Int} {v:Int} (hR:R.length=m) (hp:p+(n+1)≤m) (ho: ∀ j,j<m→ ¬ (p≤j∧j<p+(n+1))→S.at' R j=t j) (hd: ∀ j,j<n→0≤S.at' R (j+p)∧S.at' R (j+p)<1000000) (hn:S.at' R (n+p)=0) (hv:S.valF (fun j=>S.at' R (j+p)) 0 n=v):R=S.mkl m fun j=>S.winD t p (n+1) v j:=by
  have e:=mkl_at (L:=R)
  rw [hR] at e
  rw [← e]
  refine mkl_congr fun j hj=> ?_
  have hd': ∀ j,0≤j→j<0+(n+1)→0≤S.at' R (j+p)∧S.at' R (j+p)<1000000:=fun j _ h=>by
    by_cases hj:j=n
    · subst hj; rw [hn]; omega
    · exact hd j (by omega)
  unfold S.winD
  by_cases hw:p≤j∧j<p+(n+1)
  · rw [if_pos hw]
    have:=dig_grp (t:=fun j=>S.at' R (j+p)) (k:=n+1) (i:=0) (v:=v) hd' (by rw [valF_snoc,Nat.zero_add,hn,Int.mul_zero,Int.add_zero,hv]) (j-p) (by omega)
    rw [Nat.zero_add] at this
    rw [← this,show j-p+p=j by omega]
  · rw [if_neg hw]; exact ho j hj hw
inductive St72 where
  |h0 (x0:Int) (x1:List Int)
  |h1 (x0:Int) (x1:Int) (x2:Int) (x3:List Int)
  |h2 (x0:Int) (x1:Int) (x2:Int) (x3:List Int)
abbrev Rt72:=Int×List Int
noncomputable def V72 (ap np mp:Nat) (tp:NI) (aq nq mq:Nat) (tq:NI) (r:Rt72):PV:=PV.int .i64 r.1
noncomputable def N72 (ap np mp:Nat) (tp:NI) (aq nq mq:Nat) (tq:NI) (r:Rt72):List Blk:= []
noncomputable def W72 (ap np mp:Nat) (tp:Nat→Int) (aq nq mq:Nat) (tq:Nat→Int) (r:Rt72):Nat→Blk:=fun n=>bif Nat.beq n 0 then Blk.cols (List.length r.2) [Col.int IntKind.i64 fun j=>S.at' r.2 j] else .dead
noncomputable def I72 (ap np mp:Nat) (tp:NI) (aq nq mq:Nat) (tq:NI):St72→Hd
  | .h0 x0 x1=>⟨hd Tryz.f140 0,[PV.loose (PA.mk (0) (1) ap (0)) np,
 PV.loose (PA.mk (1) (1) aq (0)) nq,PV.int .i64 (↑nq:Int),
 PV.int .i64 (tp (nq+ap)*1000000+tp (Int.toNat ((↑nq:Int)-1)+ap)),
 PV.int .i64 x0,PV.unk,PV.unk,PV.unk,PV.unk,PV.unk,PV.unk,
 PV.unk,PV.unk],[[],[(0,(true,Blk.cols (List.length x1) [Col.int .i64 fun j=>S.at' x1 j])),(1,(false,.cols mq [.int .i64 tq]))]],2⟩
  | .h1 x0 x1 x2 x3=>⟨hd Tryz.f140 1,[PV.loose (PA.mk (0) (1) ap (0)) np,
 PV.loose (PA.mk (1) (1) aq (0)) nq,PV.int .i64 (↑nq:Int),
 PV.unk,PV.int .i64 x0,PV.int .i64 x1,PV.unk,
 PV.loose (PA.mk (1) (1) aq (0)) nq,PV.int .i64 (↑nq:Int),
 PV.int .i64 x2,PV.unk,PV.unk,PV.unk],[[],[(0,(true,Blk.cols (List.length x3) [Col.int .i64 fun j=>S.at' x3 j])),(1,(false,.cols mq [.int .i64 tq]))]],2⟩
  | .h2 x0 x1 x2 x3=>⟨hd Tryz.f140 2,[PV.loose (PA.mk (0) (1) ap (0)) np,PV.unk,
 PV.int .i64 (↑nq:Int),PV.unk,PV.int .i64 x0,PV.unk,
 PV.int .i64 x1,PV.unk,PV.unk,PV.unk,
 PV.loose (PA.mk (1) (1) aq (0)) nq,PV.int .i64 (↑nq:Int),
 PV.int .i64 x2],[[],[(0,(true,Blk.cols (List.length x3) [Col.int .i64 fun j=>S.at' x3 j])),(1,(false,.cols mq [.int .i64 tq]))]],2⟩
noncomputable def q72 (ap np mp:Nat) (tp:NI) (aq nq mq:Nat) (tq:NI):St72→Option (St72⊕Rt72)| .h0 x0 x1=>bif (lim .i64 ((↑nq:Int)-2)) then (bif (decide ((0:Int)≤(↑nq:Int)-2∧(↑nq:Int)-2<(↑nq:Int))) then (bif (decide (Int.toNat ((↑nq:Int)-2)+aq<mq)) then (bif (lim .i64 (x0*tq (Int.toNat ((↑nq:Int)-2)+aq))) then (bif (lim .i64 ((↑nq:Int)-1)) then (bif (decide ((0:Int)≤(↑nq:Int)-1∧(↑nq:Int)-1<(↑nq:Int))) then (bif (decide (Int.toNat ((↑nq:Int)-1)+aq<mq)) then (bif (lim .i64 (x0*tq (Int.toNat ((↑nq:Int)-1)+aq))) then (bif (lim .i64 (tp (nq+ap)*1000000+tp (Int.toNat ((↑nq:Int)-1)+ap)-x0*tq (Int.toNat ((↑nq:Int)-1)+aq))) then (bif (lim .i64 ((tp (nq+ap)*1000000+tp (Int.toNat ((↑nq:Int)-1)+ap)-x0*tq (Int.toNat ((↑nq:Int)-1)+aq))*1000000)) then (bif (decide ((0:Int)≤(↑nq:Int)-2∧(↑nq:Int)-2<(↑np:Int))) then (bif (decide (Int.toNat ((↑nq:Int)-2)+ap<List.length x1)) then (bif (lim .i64 ((tp (nq+ap)*1000000+tp (Int.toNat ((↑nq:Int)-1)+ap)-x0*tq (Int.toNat ((↑nq:Int)-1)+aq))*1000000+S.at' x1 (Int.toNat ((↑nq:Int)-2)+ap))) then (bif (decide (x0*tq (Int.toNat ((↑nq:Int)-2)+aq)>(tp (nq+ap)*1000000+tp (Int.toNat ((↑nq:Int)-1)+ap)-x0*tq (Int.toNat ((↑nq:Int)-1)+aq))*1000000+S.at' x1 (Int.toNat ((↑nq:Int)-2)+ap))) then (bif (lim .i64 (x0-1)) then (some (.inl (.h0 (x0-1) (x1)))) else (none)) else (some (.inl (.h1 (x0) ((0:Int)) ((0:Int)) (x1))))) else (none)) else (none)) else (none)) else (none)) else (none)) else (none)) else (none)) else (none)) else (none)) else (none)) else (none)) else (none)) else (none)| .h1 x0 x1 x2 x3=>bif (decide (x2<(↑nq:Int))) then (bif (decide ((0:Int)≤x2∧x2<(↑nq:Int))) then (bif (decide (Int.toNat x2+aq<mq)) then (bif (decide ((0:Int)≤x2∧x2<(↑np:Int))) then (bif (decide (Int.toNat x2+ap<List.length x3)) then (bif (lim .i64 (x0*tq (Int.toNat x2+aq))) then (bif (lim .i64 (S.at' x3 (Int.toNat x2+ap)-x0*tq (Int.toNat x2+aq))) then (bif (lim .i64 (x1+(S.at' x3 (Int.toNat x2+ap)-x0*tq (Int.toNat x2+aq)))) then (bif (lim .i64 (Int.tdiv (x1+(S.at' x3 (Int.toNat x2+ap)-x0*tq (Int.toNat x2+aq))) (1000000:Int))) then (bif (decide ((bif Nat.beq (Int.toNat x2+ap) (Int.toNat x2+ap) then Int.tmod (x1+(S.at' x3 (Int.toNat x2+ap)-x0*tq (Int.toNat x2+aq))) (1000000:Int) else S.at' x3 (Int.toNat x2+ap))<0)) then (bif (lim .i64 ((bif Nat.beq (Int.toNat x2+ap) (Int.toNat x2+ap) then Int.tmod (x1+(S.at' x3 (Int.toNat x2+ap)-x0*tq (Int.toNat x2+aq))) (1000000:Int) else S.at' x3 (Int.toNat x2+ap))+1000000)) then (bif (lim .i64 (Int.tdiv (x1+(S.at' x3 (Int.toNat x2+ap)-x0*tq (Int.toNat x2+aq))) (1000000:Int)-1)) then (bif (lim .i64 (x2+1)) then (some (.inl (.h1 (x0) (Int.tdiv (x1+(S.at' x3 (Int.toNat x2+ap)-x0*tq (Int.toNat x2+aq))) (1000000:Int)-1) (x2+1) (S.mkl (List.length x3) fun j=>bif Nat.beq j (Int.toNat x2+ap) then (bif Nat.beq (Int.toNat x2+ap) (Int.toNat x2+ap) then Int.tmod (x1+(S.at' x3 (Int.toNat x2+ap)-x0*tq (Int.toNat x2+aq))) (1000000:Int) else S.at' x3 (Int.toNat x2+ap))+1000000 else bif Nat.beq j (Int.toNat x2+ap) then Int.tmod (x1+(S.at' x3 (Int.toNat x2+ap)-x0*tq (Int.toNat x2+aq))) (1000000:Int) else S.at' x3 j)))) else (none)) else (none)) else (none)) else (bif (lim .i64 (x2+1)) then (some (.inl (.h1 (x0) (Int.tdiv (x1+(S.at' x3 (Int.toNat x2+ap)-x0*tq (Int.toNat x2+aq))) (1000000:Int)) (x2+1) (S.mkl (List.length x3) fun j=>bif Nat.beq j (Int.toNat x2+ap) then Int.tmod (x1+(S.at' x3 (Int.toNat x2+ap)-x0*tq (Int.toNat x2+aq))) (1000000:Int) else S.at' x3 j)))) else (none))) else (none)) else (none)) else (none)) else (none)) else (none)) else (none)) else (none)) else (none)) else (bif (decide ((0:Int)≤(↑nq:Int)∧(↑nq:Int)<(↑np:Int))) then (bif (decide (nq+ap<List.length x3)) then (bif (lim .i64 (S.at' x3 (nq+ap)+x1)) then (bif (decide ((bif Nat.beq (nq+ap) (nq+ap) then S.at' x3 (nq+ap)+x1 else S.at' x3 (nq+ap))≥0)) then (some (.inr (x0,S.mkl (List.length x3) fun j=>bif Nat.beq j (nq+ap) then S.at' x3 (nq+ap)+x1 else S.at' x3 j))) else (some (.inl (.h2 (x0) ((0:Int)) ((0:Int)) (S.mkl (List.length x3) fun j=>bif Nat.beq j (nq+ap) then S.at' x3 (nq+ap)+x1 else S.at' x3 j))))) else (none)) else (none)) else (none))| .h2 x0 x1 x2 x3=>bif (decide (x2<(↑nq:Int))) then (bif (decide ((0:Int)≤x2∧x2<(↑nq:Int))) then (bif (decide (Int.toNat x2+aq<mq)) then (bif (decide ((0:Int)≤x2∧x2<(↑np:Int))) then (bif (decide (Int.toNat x2+ap<List.length x3)) then (bif (lim .i64 (S.at' x3 (Int.toNat x2+ap)+tq (Int.toNat x2+aq))) then (bif (lim .i64 (x1+(S.at' x3 (Int.toNat x2+ap)+tq (Int.toNat x2+aq)))) then (bif (lim .i64 (Int.tdiv (x1+(S.at' x3 (Int.toNat x2+ap)+tq (Int.toNat x2+aq))) (1000000:Int))) then (bif (lim .i64 (x2+1)) then (some (.inl (.h2 (x0) (Int.tdiv (x1+(S.at' x3 (Int.toNat x2+ap)+tq (Int.toNat x2+aq))) (1000000:Int)) (x2+1) (S.mkl (List.length x3) fun j=>bif Nat.beq j (Int.toNat x2+ap) then Int.tmod (x1+(S.at' x3 (Int.toNat x2+ap)+tq (Int.toNat x2+aq))) (1000000:Int) else S.at' x3 j)))) else (none)) else (none)) else (none)) else (none)) else (none)) else (none)) else (none)) else (none)) else (bif (decide ((0:Int)≤(↑nq:Int)∧(↑nq:Int)<(↑np:Int))) then (bif (decide (nq+ap<List.length x3)) then (bif (lim .i64 (S.at' x3 (nq+ap)+x1)) then (bif (lim .i64 (x0-1)) then (some (.inr (x0-1,S.mkl (List.length x3) fun j=>bif Nat.beq j (nq+ap) then S.at' x3 (nq+ap)+x1 else S.at' x3 j))) else (none)) else (none)) else (none)) else (none))
noncomputable def p72 (ap np mp:Nat) (tp:NI) (aq nq mq:Nat) (tq:NI):Option (St72⊕Rt72):=bif (decide ((0:Int)≤(↑nq:Int)∧(↑nq:Int)<(↑np:Int))) then (bif (decide (nq+ap<mp)) then (bif (lim .i64 (tp (nq+ap)*1000000)) then (bif (lim .i64 ((↑nq:Int)-1)) then (bif (decide ((0:Int)≤(↑nq:Int)-1∧(↑nq:Int)-1<(↑np:Int))) then (bif (decide (Int.toNat ((↑nq:Int)-1)+ap<mp)) then (bif (lim .i64 (tp (nq+ap)*1000000+tp (Int.toNat ((↑nq:Int)-1)+ap))) then (bif (decide ((0:Int)≤(↑nq:Int)-1∧(↑nq:Int)-1<(↑nq:Int))) then (bif (decide (Int.toNat ((↑nq:Int)-1)+aq<mq)) then (bif (decide (tq (Int.toNat ((↑nq:Int)-1)+aq)=0)) then (none) else (bif (lim .i64 (Int.tdiv (tp (nq+ap)*1000000+tp (Int.toNat ((↑nq:Int)-1)+ap)) (tq (Int.toNat ((↑nq:Int)-1)+aq)))) then (some (.inl (.h0 (Min.min (Int.tdiv (tp (nq+ap)*1000000+tp (Int.toNat ((↑nq:Int)-1)+ap)) (tq (Int.toNat ((↑nq:Int)-1)+aq))) (999999:Int)) (S.mkl mp fun j=>tp j)))) else (none))) else (none)) else (none)) else (none)) else (none)) else (none)) else (none)) else (none)) else (none)) else (none)
noncomputable def Te72 (test:TT) (Kst:KS) (Kret:KR) (ap np mp:Nat) (tp:NI) (aq nq mq:Nat) (tq:NI):Prop:=test (decide ((0:Int)≤(↑nq:Int)∧(↑nq:Int)<(↑np:Int))) (test (decide (nq+ap<mp)) (test (lim .i64 (tp (nq+ap)*1000000)) (test (lim .i64 ((↑nq:Int)-1)) (test (decide ((0:Int)≤(↑nq:Int)-1∧(↑nq:Int)-1<(↑np:Int))) (test (decide (Int.toNat ((↑nq:Int)-1)+ap<mp)) (test (lim .i64 (tp (nq+ap)*1000000+tp (Int.toNat ((↑nq:Int)-1)+ap))) (test (lim .i64 ((↑nq:Int)-1)) (test (decide ((0:Int)≤(↑nq:Int)-1∧(↑nq:Int)-1<(↑nq:Int))) (test (decide (Int.toNat ((↑nq:Int)-1)+aq<mq)) (test (decide (tq (Int.toNat ((↑nq:Int)-1)+aq)=0)) (False) (test (lim .i64 (Int.tdiv (tp (nq+ap)*1000000+tp (Int.toNat ((↑nq:Int)-1)+ap)) (tq (Int.toNat ((↑nq:Int)-1)+aq)))) (Kst (hd Tryz.f140 0) ([PV.loose (PA.mk (0) (1) ap (0)) np,PV.loose (PA.mk (1) (1) aq (0)) nq,PV.int .i64 (↑nq:Int),PV.int .i64 (tp (nq+ap)*1000000+tp (Int.toNat ((↑nq:Int)-1)+ap)),PV.int .i64 (Min.min (Int.tdiv (tp (nq+ap)*1000000+tp (Int.toNat ((↑nq:Int)-1)+ap)) (tq (Int.toNat ((↑nq:Int)-1)+aq))) (999999:Int)),PV.unk,PV.unk,PV.unk,PV.unk,PV.unk,PV.unk,PV.unk,PV.unk]) ([[(1,false,Blk.cols mq [Col.int .i64 tq]),(0,true,Blk.cols mp [Col.int .i64 tp])]]) (2)) (False))) (False)) (False)) (False)) (False)) (False)) (False)) (False)) (False)) (False)) (False)
theorem te72 (test:TT) (Kst:KS) (Kret:KR) (ap np mp:Nat) (tp:NI) (aq nq mq:Nat) (tq:NI):run test Tryz.env true noX true 400 ⟨140,[.cd (mkFn Tryz.f140).body],argT 0 [.loose ⟨0,1,ap,0⟩ np,.loose ⟨1,1,aq,0⟩ nq],[[],[(0,(true,.cols mp [.int .i64 tp])),(1,(false,.cols mq [.int .i64 tq]))]],2⟩ (proj 2 [0,1,5,6,7,8,11,61,62,63,112,113,114] Kst Kret)=
  Te72 test Kst Kret ap np mp tp aq nq mq tq:=by kernel_rfl
noncomputable abbrev u72_0_0 (ap:Nat) (tp:NI) (aq nq:Nat) (tq:NI) (x0:Int):=tp (nq+ap)*1000000+tp (Int.toNat ((↑nq:Int)-1)+ap)-x0*tq (Int.toNat ((↑nq:Int)-1)+aq)
noncomputable def T72_0 (test:TT) (Kst:KS) (Kret:KR) (ap np mp:Nat) (tp:NI) (aq nq mq:Nat) (tq:NI) (x0:Int) (x1:List Int):Prop:=test (lim .i64 ((↑nq:Int)-2)) (test (decide ((0:Int)≤(↑nq:Int)-2∧(↑nq:Int)-2<(↑nq:Int))) (test (decide (Int.toNat ((↑nq:Int)-2)+aq<mq)) (test (lim .i64 (x0*tq (Int.toNat ((↑nq:Int)-2)+aq))) (test (lim .i64 ((↑nq:Int)-1)) (test (decide ((0:Int)≤(↑nq:Int)-1∧(↑nq:Int)-1<(↑nq:Int))) (test (decide (Int.toNat ((↑nq:Int)-1)+aq<mq)) (test (lim .i64 (x0*tq (Int.toNat ((↑nq:Int)-1)+aq))) (test (lim .i64 (u72_0_0 ap tp aq nq tq x0)) (test (lim .i64 ((u72_0_0 ap tp aq nq tq x0)*1000000)) (test (lim .i64 ((↑nq:Int)-2)) (test (decide ((0:Int)≤(↑nq:Int)-2∧(↑nq:Int)-2<(↑np:Int))) (test (decide (Int.toNat ((↑nq:Int)-2)+ap<List.length x1)) (test (lim .i64 ((u72_0_0 ap tp aq nq tq x0)*1000000+S.at' x1 (Int.toNat ((↑nq:Int)-2)+ap))) (test (decide (x0*tq (Int.toNat ((↑nq:Int)-2)+aq)>(u72_0_0 ap tp aq nq tq x0)*1000000+S.at' x1 (Int.toNat ((↑nq:Int)-2)+ap))) (test (lim .i64 (x0-1)) (Kst (hd Tryz.f140 0) ([PV.loose (PA.mk (0) (1) ap (0)) np,PV.loose (PA.mk (1) (1) aq (0)) nq,PV.int .i64 (↑nq:Int),PV.int .i64 (tp (nq+ap)*1000000+tp (Int.toNat ((↑nq:Int)-1)+ap)),PV.int .i64 (x0-1),PV.unk,PV.unk,PV.unk,PV.unk,PV.unk,PV.unk,PV.unk,PV.unk]) ([[(1,false,Blk.cols mq [Col.int .i64 tq]),(0,true,Blk.cols (List.length x1) [Col.int .i64 fun j=>S.at' x1 j])]]) (2)) (False)) (Kst (hd Tryz.f140 1) ([PV.loose (PA.mk (0) (1) ap (0)) np,PV.loose (PA.mk (1) (1) aq (0)) nq,PV.int .i64 (↑nq:Int),PV.int .i64 (tp (nq+ap)*1000000+tp (Int.toNat ((↑nq:Int)-1)+ap)),PV.int .i64 x0,PV.int .i64 (0:Int),PV.unk,PV.loose (PA.mk (1) (1) aq (0)) nq,PV.int .i64 (↑nq:Int),PV.int .i64 (0:Int),PV.unk,PV.unk,PV.unk]) ([[(1,false,Blk.cols mq [Col.int .i64 tq]),(0,true,Blk.cols (List.length x1) [Col.int .i64 fun j=>S.at' x1 j])]]) (2))) (False)) (False)) (False)) (False)) (False)) (False)) (False)) (False)) (False)) (False)) (False)) (False)) (False)) (False)
theorem t72_0 (test:TT) (Kst:KS) (Kret:KR) (ap np mp:Nat) (tp:NI) (aq nq mq:Nat) (tq:NI) (x0:Int) (x1:List Int):run test Tryz.env true noX true 400 ⟨140,hd Tryz.f140 0,zipT [0,1,5,6,7,8,11,61,62,63,112,113,114] [PV.loose (PA.mk (0) (1) ap (0)) np,
 PV.loose (PA.mk (1) (1) aq (0)) nq,PV.int .i64 (↑nq:Int),
 PV.int .i64 (tp (nq+ap)*1000000+tp (Int.toNat ((↑nq:Int)-1)+ap)),
 PV.int .i64 x0,PV.unk,PV.unk,PV.unk,PV.unk,PV.unk,PV.unk,
 PV.unk,PV.unk],[[],[(0,(true,Blk.cols (List.length x1) [Col.int .i64 fun j=>S.at' x1 j])),(1,(false,.cols mq [.int .i64 tq]))]],2⟩ (proj 2 [0,1,5,6,7,8,11,61,62,63,112,113,114] Kst Kret)=
  T72_0 test Kst Kret ap np mp tp aq nq mq tq x0 x1:=by kernel_rfl
noncomputable abbrev u72_1_0 (ap aq:Nat) (tq:NI) (x0 x1 x2:Int) (x3:List Int):=x1+(S.at' x3 (Int.toNat x2+ap)-x0*tq (Int.toNat x2+aq))
noncomputable def T72_1 (test:TT) (Kst:KS) (Kret:KR) (ap np mp:Nat) (tp:NI) (aq nq mq:Nat) (tq:NI) (x0:Int) (x1:Int) (x2:Int) (x3:List Int):Prop:=test (decide (x2<(↑nq:Int))) (test (decide ((0:Int)≤x2∧x2<(↑nq:Int))) (test (decide (Int.toNat x2+aq<mq)) (test (decide ((0:Int)≤x2∧x2<(↑np:Int))) (test (decide (Int.toNat x2+ap<List.length x3)) (test (lim .i64 (x0*tq (Int.toNat x2+aq))) (test (lim .i64 (S.at' x3 (Int.toNat x2+ap)-x0*tq (Int.toNat x2+aq))) (test (lim .i64 (u72_1_0 ap aq tq x0 x1 x2 x3)) (test (false) (False) (test (decide ((0:Int)≤x2∧x2<(↑np:Int))) (test (decide (Int.toNat x2+ap<List.length x3)) (test (false) (False) (test (lim .i64 (Int.tdiv (u72_1_0 ap aq tq x0 x1 x2 x3) (1000000:Int))) (test (decide ((0:Int)≤x2∧x2<(↑np:Int))) (test (decide (Int.toNat x2+ap<List.length x3)) (test (decide ((bif Nat.beq (Int.toNat x2+ap) (Int.toNat x2+ap) then Int.tmod (u72_1_0 ap aq tq x0 x1 x2 x3) (1000000:Int) else S.at' x3 (Int.toNat x2+ap))<0)) (test (decide ((0:Int)≤x2∧x2<(↑np:Int))) (test (decide (Int.toNat x2+ap<List.length x3)) (test (lim .i64 ((bif Nat.beq (Int.toNat x2+ap) (Int.toNat x2+ap) then Int.tmod (u72_1_0 ap aq tq x0 x1 x2 x3) (1000000:Int) else S.at' x3 (Int.toNat x2+ap))+1000000)) (test (decide ((0:Int)≤x2∧x2<(↑np:Int))) (test (decide (Int.toNat x2+ap<List.length x3)) (test (lim .i64 (Int.tdiv (u72_1_0 ap aq tq x0 x1 x2 x3) (1000000:Int)-1)) (test (lim .i64 (x2+1)) (Kst (hd Tryz.f140 1) ([PV.loose (PA.mk (0) (1) ap (0)) np,PV.loose (PA.mk (1) (1) aq (0)) nq,PV.int .i64 (↑nq:Int),PV.unk,PV.int .i64 x0,PV.int .i64 (Int.tdiv (u72_1_0 ap aq tq x0 x1 x2 x3) (1000000:Int)-1),PV.unk,PV.loose (PA.mk (1) (1) aq (0)) nq,PV.int .i64 (↑nq:Int),PV.int .i64 (x2+1),PV.unk,PV.unk,PV.unk]) ([[(1,false,Blk.cols mq [Col.int .i64 tq]),(0,true,Blk.cols (List.length x3) [Col.int .i64 fun j=>bif Nat.beq j (Int.toNat x2+ap) then (bif Nat.beq (Int.toNat x2+ap) (Int.toNat x2+ap) then Int.tmod (u72_1_0 ap aq tq x0 x1 x2 x3) (1000000:Int) else S.at' x3 (Int.toNat x2+ap))+1000000 else bif Nat.beq j (Int.toNat x2+ap) then Int.tmod (u72_1_0 ap aq tq x0 x1 x2 x3) (1000000:Int) else S.at' x3 j])]]) (2)) (False)) (False)) (False)) (False)) (False)) (False)) (False)) (test (lim .i64 (x2+1)) (Kst (hd Tryz.f140 1) ([PV.loose (PA.mk (0) (1) ap (0)) np,PV.loose (PA.mk (1) (1) aq (0)) nq,PV.int .i64 (↑nq:Int),PV.unk,PV.int .i64 x0,PV.int .i64 (Int.tdiv (u72_1_0 ap aq tq x0 x1 x2 x3) (1000000:Int)),PV.unk,PV.loose (PA.mk (1) (1) aq (0)) nq,PV.int .i64 (↑nq:Int),PV.int .i64 (x2+1),PV.unk,PV.unk,PV.unk]) ([[(1,false,Blk.cols mq [Col.int .i64 tq]),(0,true,Blk.cols (List.length x3) [Col.int .i64 fun j=>bif Nat.beq j (Int.toNat x2+ap) then Int.tmod (u72_1_0 ap aq tq x0 x1 x2 x3) (1000000:Int) else S.at' x3 j])]]) (2)) (False))) (False)) (False)) (False))) (False)) (False))) (False)) (False)) (False)) (False)) (False)) (False)) (False)) (test (decide ((0:Int)≤(↑nq:Int)∧(↑nq:Int)<(↑np:Int))) (test (decide (nq+ap<List.length x3)) (test (lim .i64 (S.at' x3 (nq+ap)+x1)) (test (decide ((0:Int)≤(↑nq:Int)∧(↑nq:Int)<(↑np:Int))) (test (decide (nq+ap<List.length x3)) (test (decide ((0:Int)≤(↑nq:Int)∧(↑nq:Int)<(↑np:Int))) (test (decide (nq+ap<List.length x3)) (test (decide ((bif Nat.beq (nq+ap) (nq+ap) then S.at' x3 (nq+ap)+x1 else S.at' x3 (nq+ap))≥0)) (Kret (PV.int .i64 x0) ([[(1,false,Blk.cols mq [Col.int .i64 tq]),(0,true,Blk.cols (List.length x3) [Col.int .i64 fun j=>bif Nat.beq j (nq+ap) then S.at' x3 (nq+ap)+x1 else S.at' x3 j])]]) (2)) (Kst (hd Tryz.f140 2) ([PV.loose (PA.mk (0) (1) ap (0)) np,PV.loose (PA.mk (1) (1) aq (0)) nq,PV.int .i64 (↑nq:Int),PV.unk,PV.int .i64 x0,PV.int .i64 x1,PV.int .i64 (0:Int),PV.loose (PA.mk (1) (1) aq (0)) nq,PV.int .i64 (↑nq:Int),PV.int .i64 x2,PV.loose (PA.mk (1) (1) aq (0)) nq,PV.int .i64 (↑nq:Int),PV.int .i64 (0:Int)]) ([[(1,false,Blk.cols mq [Col.int .i64 tq]),(0,true,Blk.cols (List.length x3) [Col.int .i64 fun j=>bif Nat.beq j (nq+ap) then S.at' x3 (nq+ap)+x1 else S.at' x3 j])]]) (2))) (False)) (False)) (False)) (False)) (False)) (False)) (False))
theorem t72_1 (test:TT) (Kst:KS) (Kret:KR) (ap np mp:Nat) (tp:NI) (aq nq mq:Nat) (tq:NI) (x0 x1 x2:Int) (x3:List Int):run test Tryz.env true noX true 400 ⟨140,hd Tryz.f140 1,zipT [0,1,5,6,7,8,11,61,62,63,112,113,114] [PV.loose (PA.mk (0) (1) ap (0)) np,
 PV.loose (PA.mk (1) (1) aq (0)) nq,PV.int .i64 (↑nq:Int),
 PV.unk,PV.int .i64 x0,PV.int .i64 x1,PV.unk,
 PV.loose (PA.mk (1) (1) aq (0)) nq,PV.int .i64 (↑nq:Int),
 PV.int .i64 x2,PV.unk,PV.unk,PV.unk],[[],[(0,(true,Blk.cols (List.length x3) [Col.int .i64 fun j=>S.at' x3 j])),(1,(false,.cols mq [.int .i64 tq]))]],2⟩ (proj 2 [0,1,5,6,7,8,11,61,62,63,112,113,114] Kst Kret)=
  T72_1 test Kst Kret ap np mp tp aq nq mq tq x0 x1 x2 x3:=by kernel_rfl
noncomputable def T72_2 (test:TT) (Kst:KS) (Kret:KR) (ap np mp:Nat) (tp:NI) (aq nq mq:Nat) (tq:NI) (x0 x1 x2:Int) (x3:List Int):Prop:=test (decide (x2<(↑nq:Int))) (test (decide ((0:Int)≤x2∧x2<(↑nq:Int))) (test (decide (Int.toNat x2+aq<mq)) (test (decide ((0:Int)≤x2∧x2<(↑np:Int))) (test (decide (Int.toNat x2+ap<List.length x3)) (test (lim .i64 (S.at' x3 (Int.toNat x2+ap)+tq (Int.toNat x2+aq))) (test (lim .i64 (x1+(S.at' x3 (Int.toNat x2+ap)+tq (Int.toNat x2+aq)))) (test (false) (False) (test (decide ((0:Int)≤x2∧x2<(↑np:Int))) (test (decide (Int.toNat x2+ap<List.length x3)) (test (false) (False) (test (lim .i64 (Int.tdiv (x1+(S.at' x3 (Int.toNat x2+ap)+tq (Int.toNat x2+aq))) (1000000:Int))) (test (lim .i64 (x2+1)) (Kst (hd Tryz.f140 2) ([PV.loose (PA.mk (0) (1) ap (0)) np,PV.unk,PV.int .i64 (↑nq:Int),PV.unk,PV.int .i64 x0,PV.unk,PV.int .i64 (Int.tdiv (x1+(S.at' x3 (Int.toNat x2+ap)+tq (Int.toNat x2+aq))) (1000000:Int)),PV.unk,PV.unk,PV.unk,PV.loose (PA.mk (1) (1) aq (0)) nq,PV.int .i64 (↑nq:Int),PV.int .i64 (x2+1)]) ([[(1,false,Blk.cols mq [Col.int .i64 tq]),(0,true,Blk.cols (List.length x3) [Col.int .i64 fun j=>bif Nat.beq j (Int.toNat x2+ap) then Int.tmod (x1+(S.at' x3 (Int.toNat x2+ap)+tq (Int.toNat x2+aq))) (1000000:Int) else S.at' x3 j])]]) (2)) (False)) (False))) (False)) (False))) (False)) (False)) (False)) (False)) (False)) (False)) (test (decide ((0:Int)≤(↑nq:Int)∧(↑nq:Int)<(↑np:Int))) (test (decide (nq+ap<List.length x3)) (test (lim .i64 (S.at' x3 (nq+ap)+x1)) (test (decide ((0:Int)≤(↑nq:Int)∧(↑nq:Int)<(↑np:Int))) (test (decide (nq+ap<List.length x3)) (test (lim .i64 (x0-1)) (Kret (PV.int .i64 (x0-1)) ([[(1,false,Blk.cols mq [Col.int .i64 tq]),(0,true,Blk.cols (List.length x3) [Col.int .i64 fun j=>bif Nat.beq j (nq+ap) then S.at' x3 (nq+ap)+x1 else S.at' x3 j])]]) (2)) (False)) (False)) (False)) (False)) (False)) (False))
theorem t72_2 (test:TT) (Kst:KS) (Kret:KR) (ap np mp:Nat) (tp:NI) (aq nq mq:Nat) (tq:NI) (x0 x1 x2:Int) (x3:List Int):run test Tryz.env true noX true 400 ⟨140,hd Tryz.f140 2,zipT [0,1,5,6,7,8,11,61,62,63,112,113,114] [PV.loose (PA.mk (0) (1) ap (0)) np,PV.unk,
 PV.int .i64 (↑nq:Int),PV.unk,PV.int .i64 x0,PV.unk,
 PV.int .i64 x1,PV.unk,PV.unk,PV.unk,
 PV.loose (PA.mk (1) (1) aq (0)) nq,PV.int .i64 (↑nq:Int),
 PV.int .i64 x2],[[],[(0,(true,Blk.cols (List.length x3) [Col.int .i64 fun j=>S.at' x3 j])),(1,(false,.cols mq [.int .i64 tq]))]],2⟩ (proj 2 [0,1,5,6,7,8,11,61,62,63,112,113,114] Kst Kret)=
  T72_2 test Kst Kret ap np mp tp aq nq mq tq x0 x1 x2 x3:=by kernel_rfl
noncomputable abbrev J72 (ap np mp:Nat) (tp:NI) (aq nq mq:Nat) (tq:NI):Rt72→Heap:=fun r=> [newL (2+1) ((N72 ap np mp tp aq nq mq tq) r)++ [(0,(true,((W72 ap np mp tp aq nq mq tq) r 0))),(1,(false,.cols mq [.int .i64 tq]))]]
attribute [local irreducible] Int.subNatNat in
theorem be72 (ap np mp:Nat) (tp:NI) (aq nq mq:Nat) (tq:NI) (Kst:KS) (Kret:KR) (x:St72⊕Rt72) (hS:HS 2 400 ((I72 ap np mp tp aq nq mq tq)) Kst x) (hR:HR 2 400 ((V72 ap np mp tp aq nq mq tq)) (J72 ap np mp tp aq nq mq tq) Kret x) (h:p72 ap np mp tp aq nq mq tq=some x):Te72 cond Kst Kret ap np mp tp aq nq mq tq:=by
  unfold Te72
  unfold p72 at h
  exact bif_split h (fun c0 h=>bif_split h (fun c1 h=>bif_split h (fun c2 h=>bif_split h (fun c3 h=>bif_split h (fun c4 h=>bif_split h (fun c5 h=>bif_split h (fun c6 h=>cond_yes c3 (bif_split h (fun c7 h=>bif_split h (fun c8 h=>bif_split h (fun c9 h=>no_some h) (fun c9 h=>bif_split h (fun c10 h=>stop_at hS _ h (fun n=>n) rfl rfl rfl ⟨(rn_loose (use_lo rfl) rfl rfl rfl),⟨(rn_loose (use_lo rfl) rfl rfl rfl),⟨(rn_int rfl),⟨(rn_int rfl),⟨(rn_int rfl),⟨(rn_unk _),⟨(rn_unk _),⟨(rn_unk _),⟨(rn_unk _),⟨(rn_unk _),⟨(rn_unk _),⟨(rn_unk _),⟨(rn_unk _),trivial⟩⟩⟩⟩⟩⟩⟩⟩⟩⟩⟩⟩⟩ rfl (entl_new (use_lo rfl) rfl (Nat.le_of_eq mkl_len) (rcs_int (fun _ hj=>col_mkl (fun (t:Int)=>t) hj) rcs_nil) (entl_bor (use_lo rfl) rfl rfl entl_nil))) (fun c10 h=>no_some h))) (fun c8 h=>no_some h)) (fun c7 h=>no_some h))) (fun c6 h=>no_some h)) (fun c5 h=>no_some h)) (fun c4 h=>no_some h)) (fun c3 h=>no_some h)) (fun c2 h=>no_some h)) (fun c1 h=>no_some h)) (fun c0 h=>no_some h)
attribute [local irreducible] Int.subNatNat in
theorem b72_0 (ap np mp:Nat) (tp:NI) (aq nq mq:Nat) (tq:NI) (Kst:KS) (Kret:KR) (x:St72⊕Rt72) (hS:HS 2 400 ((I72 ap np mp tp aq nq mq tq)) Kst x) (hR:HR 2 400 ((V72 ap np mp tp aq nq mq tq)) (J72 ap np mp tp aq nq mq tq) Kret x) (x0:Int) (x1:List Int) (h:q72 ap np mp tp aq nq mq tq (.h0 x0 x1)=some x):T72_0 cond Kst Kret ap np mp tp aq nq mq tq x0 x1:=by
  unfold T72_0
  rw [q72] at h
  exact bif_split h (fun c0 h=>bif_split h (fun c1 h=>bif_split h (fun c2 h=>bif_split h (fun c3 h=>bif_split h (fun c4 h=>bif_split h (fun c5 h=>bif_split h (fun c6 h=>bif_split h (fun c7 h=>bif_split h (fun c8 h=>bif_split h (fun c9 h=>cond_yes c0 (bif_split h (fun c10 h=>bif_split h (fun c11 h=>bif_split h (fun c12 h=>bif_split h (fun c13 h=>bif_split h (fun c14 h=>stop_at hS _ h (fun n=>n) rfl rfl rfl ⟨(rn_loose (use_lo rfl) rfl rfl rfl),⟨(rn_loose (use_lo rfl) rfl rfl rfl),⟨(rn_int rfl),⟨(rn_int rfl),⟨(rn_int rfl),⟨(rn_unk _),⟨(rn_unk _),⟨(rn_unk _),⟨(rn_unk _),⟨(rn_unk _),⟨(rn_unk _),⟨(rn_unk _),⟨(rn_unk _),trivial⟩⟩⟩⟩⟩⟩⟩⟩⟩⟩⟩⟩⟩ rfl (entl_new (use_lo rfl) rfl (Nat.le_of_eq rfl) (rcs_int (fun _ _=>rfl) rcs_nil) (entl_bor (use_lo rfl) rfl rfl entl_nil))) (fun c14 h=>no_some h)) (fun c13 h=>stop_at hS _ h (fun n=>n) rfl rfl rfl ⟨(rn_loose (use_lo rfl) rfl rfl rfl),⟨(rn_loose (use_lo rfl) rfl rfl rfl),⟨(rn_int rfl),⟨(rn_unk _),⟨(rn_int rfl),⟨(rn_int rfl),⟨(rn_unk _),⟨(rn_loose (use_lo rfl) rfl rfl rfl),⟨(rn_int rfl),⟨(rn_int rfl),⟨(rn_unk _),⟨(rn_unk _),⟨(rn_unk _),trivial⟩⟩⟩⟩⟩⟩⟩⟩⟩⟩⟩⟩⟩ rfl (entl_new (use_lo rfl) rfl (Nat.le_of_eq rfl) (rcs_int (fun _ _=>rfl) rcs_nil) (entl_bor (use_lo rfl) rfl rfl entl_nil)))) (fun c12 h=>no_some h)) (fun c11 h=>no_some h)) (fun c10 h=>no_some h))) (fun c9 h=>no_some h)) (fun c8 h=>no_some h)) (fun c7 h=>no_some h)) (fun c6 h=>no_some h)) (fun c5 h=>no_some h)) (fun c4 h=>no_some h)) (fun c3 h=>no_some h)) (fun c2 h=>no_some h)) (fun c1 h=>no_some h)) (fun c0 h=>no_some h)
attribute [local irreducible] Int.subNatNat in
theorem b72_1 (ap np mp:Nat) (tp:NI) (aq nq mq:Nat) (tq:NI) (Kst:KS) (Kret:KR) (x:St72⊕Rt72) (hS:HS 2 400 ((I72 ap np mp tp aq nq mq tq)) Kst x) (hR:HR 2 400 ((V72 ap np mp tp aq nq mq tq)) (J72 ap np mp tp aq nq mq tq) Kret x) (x0 x1 x2:Int) (x3:List Int) (h:q72 ap np mp tp aq nq mq tq (.h1 x0 x1 x2 x3)=some x):T72_1 cond Kst Kret ap np mp tp aq nq mq tq x0 x1 x2 x3:=by
  unfold T72_1
  rw [q72] at h
  refine bif_split h (fun c0 h=>bif_split h (fun c1 h=>bif_split h (fun c2 h=>bif_split h (fun c3 h=>bif_split h (fun c4 h=>bif_split h (fun c5 h=>bif_split h (fun c6 h=>bif_split h (fun c7 h=>cond_no rfl (cond_yes c3 (cond_yes c4 (cond_no rfl (bif_split h (fun c8 h=>cond_yes c3 (cond_yes c4 (bif_split h (fun c9 h=>cond_yes c3 (cond_yes c4 (bif_split h (fun c10 h=>cond_yes c3 (cond_yes c4 (bif_split h (fun c11 h=>bif_split h (fun c12 h=> ?_) (fun c12 h=> ?_)) (fun c11 h=> ?_)))) (fun c10 h=> ?_)))) (fun c9 h=>bif_split h (fun c10 h=> ?_) (fun c10 h=> ?_))))) (fun c8 h=> ?_)))))) (fun c7 h=> ?_)) (fun c6 h=> ?_)) (fun c5 h=> ?_)) (fun c4 h=> ?_)) (fun c3 h=> ?_)) (fun c2 h=> ?_)) (fun c1 h=> ?_)) (fun c0 h=>bif_split h (fun c1 h=>bif_split h (fun c2 h=>bif_split h (fun c3 h=>cond_yes c1 (cond_yes c2 (cond_yes c1 (cond_yes c2 (bif_split h (fun c4 h=>ret_at hR _ h (fun n=>n) rfl rfl rfl (rn_int rfl) rfl (entl_new (use_lo rfl) rfl (Nat.le_of_eq mkl_len) (rcs_int (fun _ hj=>col_mkl (fun (t:Int)=>t) hj) rcs_nil) (entl_bor (use_lo rfl) rfl rfl entl_nil))) (fun c4 h=>stop_at hS _ h (fun n=>n) rfl rfl rfl ⟨(rn_loose (use_lo rfl) rfl rfl rfl),⟨(rn_unk _),⟨(rn_int rfl),⟨(rn_unk _),⟨(rn_int rfl),⟨(rn_unk _),⟨(rn_int rfl),⟨(rn_unk _),⟨(rn_unk _),⟨(rn_unk _),⟨(rn_loose (use_lo rfl) rfl rfl rfl),⟨(rn_int rfl),⟨(rn_int rfl),trivial⟩⟩⟩⟩⟩⟩⟩⟩⟩⟩⟩⟩⟩ rfl (entl_new (use_lo rfl) rfl (Nat.le_of_eq mkl_len) (rcs_int (fun _ hj=>col_mkl (fun (t:Int)=>t) hj) rcs_nil) (entl_bor (use_lo rfl) rfl rfl entl_nil)))))))) (fun c3 h=> ?_)) (fun c2 h=> ?_)) (fun c1 h=> ?_))
  all_goals first
    |exact no_some h
    |exact stop_at hS _ h (fun n=>n) rfl rfl rfl ⟨(rn_loose (use_lo rfl) rfl rfl rfl),⟨(rn_loose (use_lo rfl) rfl rfl rfl),⟨(rn_int rfl),⟨(rn_unk _),⟨(rn_int rfl),⟨(rn_int rfl),⟨(rn_unk _),⟨(rn_loose (use_lo rfl) rfl rfl rfl),⟨(rn_int rfl),⟨(rn_int rfl),⟨(rn_unk _),⟨(rn_unk _),⟨(rn_unk _),trivial⟩⟩⟩⟩⟩⟩⟩⟩⟩⟩⟩⟩⟩ rfl (entl_new (use_lo rfl) rfl (Nat.le_of_eq mkl_len) (rcs_int (fun _ hj=>col_mkl (fun (t:Int)=>t) hj) rcs_nil) (entl_bor (use_lo rfl) rfl rfl entl_nil))
attribute [local irreducible] Int.subNatNat in
theorem b72_2 (ap np mp:Nat) (tp:NI) (aq nq mq:Nat) (tq:NI) (Kst:KS) (Kret:KR) (x:St72⊕Rt72) (hS:HS 2 400 ((I72 ap np mp tp aq nq mq tq)) Kst x) (hR:HR 2 400 ((V72 ap np mp tp aq nq mq tq)) (J72 ap np mp tp aq nq mq tq) Kret x) (x0 x1 x2:Int) (x3:List Int) (h:q72 ap np mp tp aq nq mq tq (.h2 x0 x1 x2 x3)=some x):T72_2 cond Kst Kret ap np mp tp aq nq mq tq x0 x1 x2 x3:=by
  unfold T72_2
  rw [q72] at h
  exact bif_split h (fun c0 h=>bif_split h (fun c1 h=>bif_split h (fun c2 h=>bif_split h (fun c3 h=>bif_split h (fun c4 h=>bif_split h (fun c5 h=>bif_split h (fun c6 h=>cond_no rfl (cond_yes c3 (cond_yes c4 (cond_no rfl (bif_split h (fun c7 h=>bif_split h (fun c8 h=>stop_at hS _ h (fun n=>n) rfl rfl rfl ⟨(rn_loose (use_lo rfl) rfl rfl rfl),⟨(rn_unk _),⟨(rn_int rfl),⟨(rn_unk _),⟨(rn_int rfl),⟨(rn_unk _),⟨(rn_int rfl),⟨(rn_unk _),⟨(rn_unk _),⟨(rn_unk _),⟨(rn_loose (use_lo rfl) rfl rfl rfl),⟨(rn_int rfl),⟨(rn_int rfl),trivial⟩⟩⟩⟩⟩⟩⟩⟩⟩⟩⟩⟩⟩ rfl (entl_new (use_lo rfl) rfl (Nat.le_of_eq mkl_len) (rcs_int (fun _ hj=>col_mkl (fun (t:Int)=>t) hj) rcs_nil) (entl_bor (use_lo rfl) rfl rfl entl_nil))) (fun c8 h=>no_some h)) (fun c7 h=>no_some h)))))) (fun c6 h=>no_some h)) (fun c5 h=>no_some h)) (fun c4 h=>no_some h)) (fun c3 h=>no_some h)) (fun c2 h=>no_some h)) (fun c1 h=>no_some h)) (fun c0 h=>bif_split h (fun c1 h=>bif_split h (fun c2 h=>bif_split h (fun c3 h=>cond_yes c1 (cond_yes c2 (bif_split h (fun c4 h=>ret_at hR _ h (fun n=>n) rfl rfl rfl (rn_int rfl) rfl (entl_new (use_lo rfl) rfl (Nat.le_of_eq mkl_len) (rcs_int (fun _ hj=>col_mkl (fun (t:Int)=>t) hj) rcs_nil) (entl_bor (use_lo rfl) rfl rfl entl_nil))) (fun c4 h=>no_some h)))) (fun c3 h=>no_some h)) (fun c2 h=>no_some h)) (fun c1 h=>no_some h))
theorem a72 (ap np mp:Nat) (tp:NI) (aq nq mq:Nat) (tq:NI) {r:Rt72} (h:Goes ((q72 ap np mp tp aq nq mq tq)) ((p72 ap np mp tp aq nq mq tq)) r):CallR Tryz.prog 140 [.loose ⟨0,1,ap,0⟩ np,.loose ⟨1,1,aq,0⟩ nq] [[(0,(true,.cols mp [.int .i64 tp])),(1,(false,.cols mq [.int .i64 tq]))]] 2 ((V72 ap np mp tp aq nq mq tq) r) ((J72 ap np mp tp aq nq mq tq) r) 400∧ ∃ F,Tryz.prog.funcs[140]? =some F∧F.body.isSome=true∧(F.name== "runtime.NumGoroutine")=false:=by
  refine dec_calls (f:=140) (lo:=2) (hi:=400) Tryz.envOk Tryz.mixed noX_ok ((I72 ap np mp tp aq nq mq tq)) ((V72 ap np mp tp aq nq mq tq)) (J72 ap np mp tp aq nq mq tq) (fn:=mkFn Tryz.f140) (ts:= [0,1,5,6,7,8,11,61,62,63,112,113,114]) (n:=400) rfl (by decide) (by simp) (names_of rfl) ?_ ?_ ?_ h
  · intro s; cases s<;>exact ⟨hd_ok _ _,by simp [I72],names_of rfl,Nat.le_of_ble_eq_true rfl⟩
  · intro Kst Kret x hS hR h
    exact Holds.eq (te72 cond Kst Kret ap np mp tp aq nq mq tq) (be72 ap np mp tp aq nq mq tq Kst Kret x hS hR h)
  · intro Kst Kret x hS hR s h
    cases s with
    |h0 x0 x1=>exact Holds.eq (t72_0 cond Kst Kret ap np mp tp aq nq mq tq x0 x1) (b72_0 ap np mp tp aq nq mq tq Kst Kret x hS hR x0 x1 h)
    |h1 x0 x1 x2 x3=>exact Holds.eq (t72_1 cond Kst Kret ap np mp tp aq nq mq tq x0 x1 x2 x3) (b72_1 ap np mp tp aq nq mq tq Kst Kret x hS hR x0 x1 x2 x3 h)
    |h2 x0 x1 x2 x3=>exact Holds.eq (t72_2 cond Kst Kret ap np mp tp aq nq mq tq x0 x1 x2 x3) (b72_2 ap np mp tp aq nq mq tq Kst Kret x hS hR x0 x1 x2 x3 h)
noncomputable abbrev w72 {α:Type} (g:Nat→Nat→Nat→(Nat→Int)→Nat→Nat→Nat→(Nat→Int)→α) (x:(Nat×Nat×Nat×(Nat→Int)×Unit)×(Nat×Nat×Nat×(Nat→Int)×Unit)×Unit):α:=g x.1.1 x.1.2.1 x.1.2.2.1 x.1.2.2.2.1 x.2.1.1 x.2.1.2.1 x.2.1.2.2.1 x.2.1.2.2.2.1
noncomputable def k72:Con:=⟨140,[.one (.win [.int .i64]),.one (.list [.int .i64])],w72 (fun ap np mp tp aq nq mq tq=>decide (ap+np≤mp∧mp≤1000000∧np=nq+1∧2≤nq∧nq≤1000∧aq+nq≤mq∧S.okD np (fun j=>tp (j+ap))=true∧S.okG nq (fun j=>tq (j+aq))=true∧(S.val np (fun j=>tp (j+ap)))<1000000*(S.val nq (fun j=>tq (j+aq))))),w72 (fun ap np mp tp aq nq mq tq=>(V72 ap np mp tp aq nq mq tq) (((S.val np (fun j=>tp (j+ap))) / (S.val nq (fun j=>tq (j+aq))),S.mkl mp fun j=>S.winD tp ap np ((S.val np (fun j=>tp (j+ap))) % (S.val nq (fun j=>tq (j+aq)))) j))),w72 (fun ap np mp tp aq nq mq tq=>(N72 ap np mp tp aq nq mq tq) (((S.val np (fun j=>tp (j+ap))) / (S.val nq (fun j=>tq (j+aq))),S.mkl mp fun j=>S.winD tp ap np ((S.val np (fun j=>tp (j+ap))) % (S.val nq (fun j=>tq (j+aq)))) j))),w72 (fun ap np mp tp aq nq mq tq=>(W72 ap np mp tp aq nq mq tq) (((S.val np (fun j=>tp (j+ap))) / (S.val nq (fun j=>tq (j+aq))),S.mkl mp fun j=>S.winD tp ap np ((S.val np (fun j=>tp (j+ap))) % (S.val nq (fun j=>tq (j+aq)))) j)))⟩
theorem s72h (ap np mp:Nat) (tp:Nat→Int) (aq nq mq:Nat) (tq:Nat→Int) (hp:ap+np≤mp∧mp≤1000000∧np=nq+1∧2≤nq∧nq≤1000∧aq+nq≤mq∧S.okD np (fun j=>tp (j+ap))=true∧S.okG nq (fun j=>tq (j+aq))=true∧(S.val np (fun j=>tp (j+ap)))<1000000*(S.val nq (fun j=>tq (j+aq)))): ∀ (k:Nat) (d:Int),d.toNat≤k→(S.val np (fun j=>tp (j+ap))) / (S.val nq (fun j=>tq (j+aq)))≤d→d≤999999→(∀ d,(S.val np (fun j=>tp (j+ap))) / (S.val nq (fun j=>tq (j+aq)))≤d→d≤(S.val np (fun j=>tp (j+ap))) / (S.val nq (fun j=>tq (j+aq)))+1→d≤999999→Comes (q72 ap np mp tp aq nq mq tq) (.h1 d 0 0 (S.mkl mp fun j=>tp j)) ((S.val np (fun j=>tp (j+ap))) / (S.val nq (fun j=>tq (j+aq))),S.mkl mp fun j=>S.winD tp ap np ((S.val np (fun j=>tp (j+ap))) % (S.val nq (fun j=>tq (j+aq)))) j))→Comes (q72 ap np mp tp aq nq mq tq) (.h0 d (S.mkl mp fun j=>tp j)) ((S.val np (fun j=>tp (j+ap))) / (S.val nq (fun j=>tq (j+aq))),S.mkl mp fun j=>S.winD tp ap np ((S.val np (fun j=>tp (j+ap))) % (S.val nq (fun j=>tq (j+aq)))) j):=by
  obtain ⟨hp1,hp2,rfl,hp4,hp5,hp6,hp7,hp8,hp9⟩:=hp
  have dP:=okD_iff.mp hp7
  have dQ:=(okG_iff.mp hp8).1
  obtain ⟨m,rfl⟩: ∃ m,nq=m+2:=⟨nq-2,by omega⟩
  have vp:=val_pos hp8 (by omega)
  have up:=val_nn hp7
  have q0:0≤(S.val (m+2+1) (fun j=>tp (j+ap))) / (S.val (m+2) (fun j=>tq (j+aq))):=Int.ediv_nonneg up (by omega)
  have hv:(S.val (m+2) (fun j=>tq (j+aq)))=S.valF (fun j=>tq (j+aq)) 0 m+S.pw m*(tq (m+aq)+1000000*tq (m+1+aq)):=by
    show S.valF (fun j=>tq (j+aq)) 0 (m+2)=_
    rw [valF_add,Nat.zero_add]
    simp only [S.valF]
    rw [Int.mul_zero,Int.add_zero]
  have hu:(S.val (m+2+1) (fun j=>tp (j+ap)))=S.valF (fun j=>tp (j+ap)) 0 m+S.pw m*(tp (m+ap)+1000000*(tp (m+1+ap)+1000000*tp (m+2+ap))):=by
    show S.valF (fun j=>tp (j+ap)) 0 (m+3)=_
    rw [valF_add,Nat.zero_add]
    simp only [S.valF]
    rw [Int.mul_zero,Int.add_zero]
  have lv0:=valF_nn (t:=(fun j=>tq (j+aq))) (k:=m) (i:=0) fun j _ h=>(dQ j (by omega)).1
  have lv1:=valF_lt (t:=(fun j=>tq (j+aq))) (k:=m) (i:=0) fun j _ h=>dQ j (by omega)
  have lu0:=valF_nn (t:=(fun j=>tp (j+ap))) (k:=m) (i:=0) fun j _ h=>(dP j (by omega)).1
  have lu1:=valF_lt (t:=(fun j=>tp (j+ap))) (k:=m) (i:=0) fun j _ h=>dP j (by omega)
  have hw:=pw_pos (k:=m)
  have a0:=dQ m (by omega)
  have a1:=dQ (m+1) (by omega)
  have b0:=dP m (by omega)
  have b1:=dP (m+1) (by omega)
  have b2:=dP (m+2) (by omega)
  (try dsimp only at a0 a1 b0 b1 b2)
  have e1:(((m+2:Nat):Int)-1).toNat=m+1:=by omega
  have e2:(((m+2:Nat):Int)-2).toNat=m:=by omega
  have z0:S.at' (S.mkl mp fun j=>tp j) (m+ap)=tp (m+ap):=at_mkl (by omega)
  have step: ∀ d:Int,0≤d→d≤999999→(¬ d*tq (m+aq)>(tp (m+2+ap)*1000000+tp (m+1+ap)-d*tq (m+1+aq))*1000000+tp (m+ap)→d≤(S.val (m+2+1) (fun j=>tp (j+ap))) / (S.val (m+2) (fun j=>tq (j+aq)))+1)∧(d*tq (m+aq)>(tp (m+2+ap)*1000000+tp (m+1+ap)-d*tq (m+1+aq))*1000000+tp (m+ap)→(S.val (m+2+1) (fun j=>tp (j+ap))) / (S.val (m+2) (fun j=>tq (j+aq)))<d):=fun d hd0 hd9=>by
    have ed:d*(tq (m+1+aq)*1000000+tq (m+aq))=d*tq (m+1+aq)*1000000+d*tq (m+aq):=by rw [Int.mul_add,Int.mul_assoc]
    have c1:(tq (m+1+aq)*1000000+tq (m+aq))*S.pw m=S.pw m*(tq (m+aq)+1000000*tq (m+1+aq)):=by rw [Int.mul_comm,Int.add_comm,Int.mul_comm 1000000]
    have c2:((tp (m+2+ap)*1000000+tp (m+1+ap))*1000000+tp (m+ap))*S.pw m=S.pw m*(tp (m+ap)+1000000*(tp (m+1+ap)+1000000*tp (m+2+ap))):=by
      rw [Int.mul_comm]; congr 1; omega
    have v1:(tq (m+1+aq)*1000000+tq (m+aq))*S.pw m≤(S.val (m+2) (fun j=>tq (j+aq))):=by rw [hv,c1]; omega
    have v2:(S.val (m+2) (fun j=>tq (j+aq)))<(tq (m+1+aq)*1000000+tq (m+aq)+1)*S.pw m:=by rw [Int.add_mul,c1,hv,Int.one_mul]; omega
    have u1:((tp (m+2+ap)*1000000+tp (m+1+ap))*1000000+tp (m+ap))*S.pw m≤(S.val (m+2+1) (fun j=>tp (j+ap))):=by rw [hu,c2]; omega
    have u2:(S.val (m+2+1) (fun j=>tp (j+ap)))<((tp (m+2+ap)*1000000+tp (m+1+ap))*1000000+tp (m+ap)+1)*S.pw m:=by rw [Int.add_mul,c2,hu,Int.one_mul]; omega
    have l1:tq (m+1+aq)≠0:=by
      have:=(okG_iff.mp hp8).2
      rcases this with h|h
      · omega
      · exact h
    constructor
    · intro h
      have k1:=knuth_ok hw v2 (by omega) u1 up (by omega) hd0 (by omega)
      have k2:=(Int.le_ediv_iff_mul_le vp).mpr k1
      omega
    · intro h
      have k1:=knuth_no hw v1 u2 hd0 (by omega)
      exact (Int.ediv_lt_iff_lt_mul vp).mpr k1
  intro k
  induction k with
  |zero=>
    intro d hk hq h9 hC
    obtain rfl:d=0:=by omega
    have hC:=hC 0 hq (by omega) (by omega)
    have s0:=(step 0 (by omega) (by omega)).2
    rw [Int.zero_mul,Int.zero_mul] at s0
    clear step hu hv
    apply Comes.of
    show Goes _ _ _
    rw [q72]
    simp only [e1,e2,z0,mkl_len,Int.zero_mul]
    repeat' (first|with_reducible refine goes_if (fun h=> ?_) (fun h=> ?_)<;>(try simp only [SH] at h)|exact goes_none.mpr (by omega))
    all_goals first|(exfalso; omega)|exact hC
  | succ k ih=>
    intro d hk hq h9 hC
    obtain ⟨s1,s2⟩:=step d (by omega) h9
    have m1:=mul_dig (x:=d) (y:=tq (m+aq)) (by omega) a0
    have m2:=mul_dig (x:=d) (y:=tq (m+1+aq)) (by omega) a1
    clear step hu hv
    by_cases hg:d*tq (m+aq)>(tp (m+2+ap)*1000000+tp (m+1+ap)-d*tq (m+1+aq))*1000000+tp (m+ap)
    · have s2:=s2 hg
      have ih:=ih (d-1) (by omega) (by omega) (by omega) hC
      clear s1
      apply Comes.of
      show Goes _ _ _
      rw [q72]
      simp only [e1,e2,z0,mkl_len]
      repeat' (first|with_reducible refine goes_if (fun h=> ?_) (fun h=> ?_)<;>(try simp only [SH] at h)|exact goes_none.mpr (by omega))
      all_goals first|(exfalso; omega)|exact ih
    · have hC:=hC d hq (s1 hg) h9
      clear s1 s2
      apply Comes.of
      show Goes _ _ _
      rw [q72]
      simp only [e1,e2,z0,mkl_len]
      repeat' (first|with_reducible refine goes_if (fun h=> ?_) (fun h=> ?_)<;>(try simp only [SH] at h)|exact goes_none.mpr (by omega))
      all_goals first|(exfalso; omega)|exact hC
theorem upd_twice {p:Nat} {g g2:Int} {f:Nat→Int}:(fun j=>bif Nat.beq j p then g else bif Nat.beq j p then g2 else f j)=fun j=>bif Nat.beq j p then g else f j:=by
  funext j
  cases Nat.beq j p<;>rfl
theorem tdiv_nn {X Y:Int} (hX:0≤X) (hY:0<Y):0≤Int.tdiv X Y∧X<(Int.tdiv X Y+1)*Y∧Int.tdiv X Y≤X:=by
  rw [Int.tdiv_eq_ediv_of_nonneg hX]
  refine ⟨Int.ediv_nonneg hX (by omega),?_,Int.ediv_le_self _ hX⟩
  have h2:=Int.emod_lt_of_pos X hY
  have h3:=Int.emod_add_mul_ediv X Y
  rw [Int.mul_comm] at h3
  rw [Int.add_mul,Int.one_mul]
  omega
theorem s72s (ap np mp:Nat) (tp:Nat→Int) (aq nq mq:Nat) (tq:Nat→Int) (hp:ap+np≤mp∧mp≤1000000∧np=nq+1∧2≤nq∧nq≤1000∧aq+nq≤mq∧S.okD np (fun j=>tp (j+ap))=true∧S.okG nq (fun j=>tq (j+aq))=true∧(S.val np (fun j=>tp (j+ap)))<1000000*(S.val nq (fun j=>tq (j+aq)))) (d:Int) (hd0:0≤d∧d<1000000): ∀ (k i:Nat) (c:Int) (R:List Int),i+k=nq→R.length=mp→(∀ j,j<mp→ ¬ (ap≤j∧j<ap+i)→S.at' R j=tp j)→(∀ j,j<i→0≤S.at' R (j+ap)∧S.at' R (j+ap)<1000000)→(-999999≤c∧c≤0)→S.valF (fun j=>S.at' R (j+ap)) 0 i+S.pw i*c=S.valF (fun j=>tp (j+ap)) 0 i-d*S.valF (fun j=>tq (j+aq)) 0 i→
    ∃ (R':List Int) (c':Int),R'.length=mp∧(∀ j,j<mp→ ¬ (ap≤j∧j<ap+nq)→S.at' R' j=tp j)∧(∀ j,j<nq→0≤S.at' R' (j+ap)∧S.at' R' (j+ap)<1000000)∧(-999999≤c'∧c'≤0)∧S.valF (fun j=>S.at' R' (j+ap)) 0 nq+S.pw nq*c'=S.valF (fun j=>tp (j+ap)) 0 nq-d*S.valF (fun j=>tq (j+aq)) 0 nq∧ ∀ res,Comes (q72 ap np mp tp aq nq mq tq) (.h1 d c' nq R') res→Comes (q72 ap np mp tp aq nq mq tq) (.h1 d c i R) res:=by
  obtain ⟨hp1,hp2,rfl,hp4,hp5,hp6,hp7,hp8,hp9⟩:=hp
  have dP:=okD_iff.mp hp7
  have dQ:=(okG_iff.mp hp8).1
  intro k
  induction k with
  |zero=>
    intro i c R hi hR ho hdg hc he
    obtain rfl:i=nq:=by omega
    exact ⟨R,c,hR,ho,hdg,hc,he,fun res h=>h⟩
  | succ k ih=>
    intro i c R hi hR ho hdg hc he
    have a0:=dP i (by omega)
    have b0:=dQ i (by omega)
    (try dsimp only at a0 b0)
    have m1:=mul_dig (x:=d) (y:=tq (i+aq)) hd0 b0
    have eo:=ho (i+ap) (by omega) (by omega)
    have hX: ∃ X,c+(tp (i+ap)-d*tq (i+aq))=X:=⟨_,rfl⟩
    obtain ⟨X,hX⟩:=hX
    by_cases hn:Int.tmod X 1000000<0
    · obtain ⟨f1,f2⟩:=floor_neg hn
      obtain ⟨R',c',r1,r2,r3,r4,r5,r6⟩:=ih (i+1) (Int.tdiv X 1000000-1) (S.mkl mp fun j=>bif Nat.beq j (i+ap) then (Int.tmod X 1000000+1000000) else S.at' R j) (by omega) mkl_len
        (fun j hj hw=>by rw [upd_at hj,if_neg (by omega)]; exact ho j hj (by omega))
        (fun j hj=>by
          rw [upd_at (by omega)]
          by_cases hji:j=i
          · subst hji; rw [if_pos rfl]; omega
          · rw [if_neg (by omega)]; exact hdg j (by omega))
        (by omega)
        (by rw [pre_upd (by omega),valF_snoc (t:=(fun j=>tp (j+ap))),valF_snoc (t:=(fun j=>tq (j+aq))),Nat.zero_add]; exact sub_eq he (by omega))
      refine ⟨R',c',r1,r2,r3,r4,r5,fun res hC=> ?_⟩
      have r6:=r6 res hC
      clear ih he r5 hC
      generalize hM:Int.tmod X 1000000=M at*
      generalize hY:Int.tdiv X 1000000=Y at*
      apply Comes.of
      show Goes _ _ _
      rw [q72]
      simp only [Int.toNat_natCast,eo,hX,hM,hY,hR,Nat.beq_refl,cond_true,upd_twice]
      repeat' (first|with_reducible refine goes_if (fun h=> ?_) (fun h=> ?_)<;>(try simp only [SH] at h)|exact goes_none.mpr (by omega))
      all_goals first|(exfalso; omega)|exact r6
    · obtain ⟨f1,f2⟩:=floor_nn hn
      obtain ⟨R',c',r1,r2,r3,r4,r5,r6⟩:=ih (i+1) (Int.tdiv X 1000000) (S.mkl mp fun j=>bif Nat.beq j (i+ap) then (Int.tmod X 1000000) else S.at' R j) (by omega) mkl_len
        (fun j hj hw=>by rw [upd_at hj,if_neg (by omega)]; exact ho j hj (by omega))
        (fun j hj=>by
          rw [upd_at (by omega)]
          by_cases hji:j=i
          · subst hji; rw [if_pos rfl]; omega
          · rw [if_neg (by omega)]; exact hdg j (by omega))
        (by omega)
        (by rw [pre_upd (by omega),valF_snoc (t:=(fun j=>tp (j+ap))),valF_snoc (t:=(fun j=>tq (j+aq))),Nat.zero_add]; exact sub_eq he (by omega))
      refine ⟨R',c',r1,r2,r3,r4,r5,fun res hC=> ?_⟩
      have r6:=r6 res hC
      clear ih he r5 hC
      generalize hM:Int.tmod X 1000000=M at*
      generalize hY:Int.tdiv X 1000000=Y at*
      apply Comes.of
      show Goes _ _ _
      rw [q72]
      simp only [Int.toNat_natCast,eo,hX,hM,hY,hR,Nat.beq_refl,cond_true,upd_twice]
      repeat' (first|with_reducible refine goes_if (fun h=> ?_) (fun h=> ?_)<;>(try simp only [SH] at h)|exact goes_none.mpr (by omega))
      all_goals first|(exfalso; omega)|exact r6
theorem s72p (ap np mp:Nat) (tp:Nat→Int) (aq nq mq:Nat) (tq:Nat→Int) (hp:ap+np≤mp∧mp≤1000000∧np=nq+1∧2≤nq∧nq≤1000∧aq+nq≤mq∧S.okD np (fun j=>tp (j+ap))=true∧S.okG nq (fun j=>tq (j+aq))=true∧(S.val np (fun j=>tp (j+ap)))<1000000*(S.val nq (fun j=>tq (j+aq)))) (d:Int) (R0:List Int) (h0: ∀ j,j<nq→0≤S.at' R0 (j+ap)∧S.at' R0 (j+ap)<1000000): ∀ (k i:Nat) (c:Int) (R:List Int),i+k=nq→R.length=mp→(∀ j,j<mp→ ¬ (ap≤j∧j<ap+i)→S.at' R j=S.at' R0 j)→(∀ j,j<i→0≤S.at' R (j+ap)∧S.at' R (j+ap)<1000000)→(0≤c∧c≤1)→S.valF (fun j=>S.at' R (j+ap)) 0 i+S.pw i*c=S.valF (fun j=>S.at' R0 (j+ap)) 0 i+S.valF (fun j=>tq (j+aq)) 0 i→
    ∃ (R':List Int) (c':Int),R'.length=mp∧(∀ j,j<mp→ ¬ (ap≤j∧j<ap+nq)→S.at' R' j=S.at' R0 j)∧(∀ j,j<nq→0≤S.at' R' (j+ap)∧S.at' R' (j+ap)<1000000)∧(0≤c'∧c'≤1)∧S.valF (fun j=>S.at' R' (j+ap)) 0 nq+S.pw nq*c'=S.valF (fun j=>S.at' R0 (j+ap)) 0 nq+S.valF (fun j=>tq (j+aq)) 0 nq∧ ∀ res,Comes (q72 ap np mp tp aq nq mq tq) (.h2 d c' nq R') res→Comes (q72 ap np mp tp aq nq mq tq) (.h2 d c i R) res:=by
  obtain ⟨hp1,hp2,rfl,hp4,hp5,hp6,hp7,hp8,hp9⟩:=hp
  have dP:=okD_iff.mp hp7
  have dQ:=(okG_iff.mp hp8).1
  intro k
  induction k with
  |zero=>
    intro i c R hi hR ho hdg hc he
    obtain rfl:i=nq:=by omega
    exact ⟨R,c,hR,ho,hdg,hc,he,fun res h=>h⟩
  | succ k ih=>
    intro i c R hi hR ho hdg hc he
    have a0:=h0 i (by omega)
    have b0:=dQ i (by omega)
    (try dsimp only at b0)
    have eo:=ho (i+ap) (by omega) (by omega)
    have hX: ∃ X,c+(S.at' R0 (i+ap)+tq (i+aq))=X:=⟨_,rfl⟩
    obtain ⟨X,hX⟩:=hX
    have f1:=tmB (x:=X) (by omega)
    have f2:=tdB (x:=X) (by omega)
    obtain ⟨R',c',r1,r2,r3,r4,r5,r6⟩:=ih (i+1) (Int.tdiv X 1000000) (S.mkl mp fun j=>bif Nat.beq j (i+ap) then Int.tmod X 1000000 else S.at' R j) (by omega) mkl_len
        (fun j hj hw=>by rw [upd_at hj,if_neg (by omega)]; exact ho j hj (by omega))
        (fun j hj=>by
          rw [upd_at (by omega)]
          by_cases hji:j=i
          · subst hji; rw [if_pos rfl]; omega
          · rw [if_neg (by omega)]; exact hdg j (by omega))
        (by omega)
        (by rw [pre_upd (by omega),valF_snoc (t:=fun j=>S.at' R0 (j+ap)),valF_snoc (t:=(fun j=>tq (j+aq))),Nat.zero_add]; exact add_eq he (by omega))
    refine ⟨R',c',r1,r2,r3,r4,r5,fun res hC=> ?_⟩
    have r6:=r6 res hC
    clear ih he r5 hC
    generalize hM:Int.tmod X 1000000=M at*
    generalize hY:Int.tdiv X 1000000=Y at*
    apply Comes.of
    show Goes _ _ _
    rw [q72]
    simp only [Int.toNat_natCast,eo,hX,hM,hY,hR,Nat.beq_refl,cond_true]
    repeat' (first|with_reducible refine goes_if (fun h=> ?_) (fun h=> ?_)<;>(try simp only [SH] at h)|exact goes_none.mpr (by omega))
    all_goals first|(exfalso; omega)|exact r6
theorem s72d (ap np mp:Nat) (tp:Nat→Int) (aq nq mq:Nat) (tq:Nat→Int) (hp:ap+np≤mp∧mp≤1000000∧np=nq+1∧2≤nq∧nq≤1000∧aq+nq≤mq∧S.okD np (fun j=>tp (j+ap))=true∧S.okG nq (fun j=>tq (j+aq))=true∧(S.val np (fun j=>tp (j+ap)))<1000000*(S.val nq (fun j=>tq (j+aq)))) (d:Int) (hq:(S.val np (fun j=>tp (j+ap))) / (S.val nq (fun j=>tq (j+aq)))≤d∧d≤(S.val np (fun j=>tp (j+ap))) / (S.val nq (fun j=>tq (j+aq)))+1) (h9:d≤999999):Comes (q72 ap np mp tp aq nq mq tq) (.h1 d 0 0 (S.mkl mp fun j=>tp j)) ((S.val np (fun j=>tp (j+ap))) / (S.val nq (fun j=>tq (j+aq))),S.mkl mp fun j=>S.winD tp ap np ((S.val np (fun j=>tp (j+ap))) % (S.val nq (fun j=>tq (j+aq)))) j):=by
  have hp':=hp
  obtain ⟨hp1,hp2,rfl,hp4,hp5,hp6,hp7,hp8,hp9⟩:=hp
  have dP:=okD_iff.mp hp7
  have dQ:=(okG_iff.mp hp8).1
  have vp:=val_pos hp8 (by omega)
  have up:=val_nn hp7
  have q0:0≤(S.val (nq+1) (fun j=>tp (j+ap))) / (S.val nq (fun j=>tq (j+aq))):=Int.ediv_nonneg up (by omega)
  obtain ⟨R,c,r1,r2,r3,r4,r5,r6⟩:=s72s ap (nq+1) mp tp aq nq mq tq hp' d (by omega) nq 0 0 (S.mkl mp fun j=>tp j) (by omega) mkl_len (fun j hj _=>at_mkl hj) (fun j hj=>by omega) (by omega) (by simp only [S.valF]; omega)
  have hw:=pw_pos (k:=nq)
  have hV:S.valF (fun j=>tq (j+aq)) 0 nq=(S.val nq (fun j=>tq (j+aq))):=rfl
  have hU:(S.val (nq+1) (fun j=>tp (j+ap)))=S.valF (fun j=>tp (j+ap)) 0 nq+S.pw nq*tp (nq+ap):=by
    show S.valF (fun j=>tp (j+ap)) 0 (nq+1)=_
    rw [valF_snoc,Nat.zero_add]
  have vlt:=val_lt (okG_D hp8) (Nat.le_refl nq)
  have x0:=valF_nn (t:=fun j=>S.at' R (j+ap)) (k:=nq) (i:=0) fun j _ h=>(r3 j (by omega)).1
  have x1:=valF_lt (t:=fun j=>S.at' R (j+ap)) (k:=nq) (i:=0) fun j _ h=>r3 j (by omega)
  have eo:=r2 (nq+ap) (by omega) (by omega)
  have b2:=dP nq (by omega)
  (try dsimp only at b2)
  have hm0:=Int.emod_nonneg (S.val (nq+1) (fun j=>tp (j+ap))) (show (S.val nq (fun j=>tq (j+aq)))≠0 by omega)
  have hm1:=Int.emod_lt_of_pos (S.val (nq+1) (fun j=>tp (j+ap))) vp
  have hmd:=Int.emod_add_mul_ediv (S.val (nq+1) (fun j=>tp (j+ap))) (S.val nq (fun j=>tq (j+aq)))
  rw [Int.mul_comm] at hmd
  have tot:S.valF (fun j=>S.at' R (j+ap)) 0 nq+S.pw nq*(tp (nq+ap)+c)=(S.val (nq+1) (fun j=>tp (j+ap)))-d*(S.val nq (fun j=>tq (j+aq))):=by
    rw [Int.mul_add,hU,← hV]
    omega
  apply r6
  by_cases ht:0≤tp (nq+ap)+c
  · have t0:0≤S.pw nq*(tp (nq+ap)+c):=Int.mul_nonneg (by omega) ht
    have hdq:d=(S.val (nq+1) (fun j=>tp (j+ap))) / (S.val nq (fun j=>tq (j+aq))):=by
      have:=(Int.le_ediv_iff_mul_le vp).mpr (show d*(S.val nq (fun j=>tq (j+aq)))≤(S.val (nq+1) (fun j=>tp (j+ap))) by omega)
      omega
    rw [hdq] at tot
    have hz:=top_zero (T:=tp (nq+ap)+c) hw ⟨x0,x1⟩ (by omega) (V:=(S.val nq (fun j=>tq (j+aq)))) (by omega) (by omega)
    rw [hz,Int.mul_zero] at tot
    have hL:(S.mkl mp fun j=>bif Nat.beq j (nq+ap) then tp (nq+ap)+c else S.at' R j)=S.mkl mp fun j=>S.winD tp ap (nq+1) ((S.val (nq+1) (fun j=>tp (j+ap))) % (S.val nq (fun j=>tq (j+aq)))) j:=by
      refine win_list mkl_len hp1 (fun j hj hn=> ?_) (fun j hj=> ?_) ?_ ?_
      · rw [upd_at hj,if_neg (by omega)]; exact r2 j hj (by omega)
      · rw [upd_at (by omega),if_neg (by omega)]; exact r3 j hj
      · rw [upd_at (by omega),if_pos rfl]; exact hz
      · rw [valF_congr (u:=fun j=>S.at' R (j+ap)) fun j h1 h2=>by rw [upd_at (by omega),if_neg (by omega)]]; omega
    rw [← hL,← hdq]
    clear tot hU hmd hL r5
    apply Comes.of
    show Goes _ _ _
    rw [q72]
    simp only [Int.toNat_natCast,eo,r1,Nat.beq_refl,cond_true]
    repeat' (first|with_reducible refine goes_if (fun h=> ?_) (fun h=> ?_)<;>(try simp only [SH] at h)|exact goes_none.mpr (by omega))
    all_goals first|(exfalso; omega)|exact goes_inr.mpr rfl
  · have t0:S.pw nq*(tp (nq+ap)+c)≤S.pw nq*(-1):=Int.mul_le_mul_of_nonneg_left (by omega) (by omega)
    have hdq:d=(S.val (nq+1) (fun j=>tp (j+ap))) / (S.val nq (fun j=>tq (j+aq)))+1:=by
      have:=(Int.ediv_lt_iff_lt_mul vp).mpr (show (S.val (nq+1) (fun j=>tp (j+ap)))<d*(S.val nq (fun j=>tq (j+aq))) by omega)
      omega
    have g0: ∀ j,j<nq→0≤S.at' (S.mkl mp fun j=>bif Nat.beq j (nq+ap) then tp (nq+ap)+c else S.at' R j) (j+ap)∧S.at' (S.mkl mp fun j=>bif Nat.beq j (nq+ap) then tp (nq+ap)+c else S.at' R j) (j+ap)<1000000:=fun j hj=>by
      rw [upd_at (by omega),if_neg (by omega)]; exact r3 j hj
    have g1:S.valF (fun j=>S.at' (S.mkl mp fun j=>bif Nat.beq j (nq+ap) then tp (nq+ap)+c else S.at' R j) (j+ap)) 0 nq=S.valF (fun j=>S.at' R (j+ap)) 0 nq:=valF_congr fun j h1 h2=>by rw [upd_at (by omega),if_neg (by omega)]
    obtain ⟨R',c',w1,w2,w3,w4,w5,w6⟩:=s72p ap (nq+1) mp tp aq nq mq tq hp' d _ g0 nq 0 0 (S.mkl mp fun j=>bif Nat.beq j (nq+ap) then tp (nq+ap)+c else S.at' R j) (by omega) mkl_len (fun j hj _=>rfl) (fun j hj=>by omega) (by omega) (by simp only [S.valF]; omega)
    rw [g1] at w5
    have eo':=w2 (nq+ap) (by omega) (by omega)
    rw [upd_at (by omega),if_pos rfl] at eo'
    have y0:=valF_nn (t:=fun j=>S.at' R' (j+ap)) (k:=nq) (i:=0) fun j _ h=>(w3 j (by omega)).1
    have y1:=valF_lt (t:=fun j=>S.at' R' (j+ap)) (k:=nq) (i:=0) fun j _ h=>w3 j (by omega)
    rw [hdq,Int.add_mul,Int.one_mul] at tot
    have tot2:S.valF (fun j=>S.at' R' (j+ap)) 0 nq+S.pw nq*(tp (nq+ap)+c+c')=(S.val (nq+1) (fun j=>tp (j+ap))) % (S.val nq (fun j=>tq (j+aq))):=by
      rw [Int.mul_add]
      omega
    have hz:=top_zero (T:=tp (nq+ap)+c+c') hw ⟨y0,y1⟩ (by omega) (V:=(S.val nq (fun j=>tq (j+aq)))) (by omega) (by omega)
    rw [hz,Int.mul_zero] at tot2
    have hL:(S.mkl mp fun j=>bif Nat.beq j (nq+ap) then tp (nq+ap)+c+c' else S.at' R' j)=S.mkl mp fun j=>S.winD tp ap (nq+1) ((S.val (nq+1) (fun j=>tp (j+ap))) % (S.val nq (fun j=>tq (j+aq)))) j:=by
      refine win_list mkl_len hp1 (fun j hj hn=> ?_) (fun j hj=> ?_) ?_ ?_
      · rw [upd_at hj,if_neg (by omega),w2 j hj (by omega),upd_at hj,if_neg (by omega)]; exact r2 j hj (by omega)
      · rw [upd_at (by omega),if_neg (by omega)]; exact w3 j hj
      · rw [upd_at (by omega),if_pos rfl]; exact hz
      · rw [valF_congr (u:=fun j=>S.at' R' (j+ap)) fun j h1 h2=>by rw [upd_at (by omega),if_neg (by omega)]]; omega
    have hq1:(S.val (nq+1) (fun j=>tp (j+ap))) / (S.val nq (fun j=>tq (j+aq)))=d-1:=by omega
    rw [← hL,hq1]
    have hE:Comes (q72 ap (nq+1) mp tp aq nq mq tq) (.h2 d c' nq R') (d-1,S.mkl mp fun j=>bif Nat.beq j (nq+ap) then tp (nq+ap)+c+c' else S.at' R' j):=by
      clear tot tot2 hU hmd hL r5 w5
      apply Comes.of
      show Goes _ _ _
      rw [q72]
      simp only [Int.toNat_natCast,eo',w1,Nat.beq_refl,cond_true]
      repeat' (first|with_reducible refine goes_if (fun h=> ?_) (fun h=> ?_)<;>(try simp only [SH] at h)|exact goes_none.mpr (by omega))
      all_goals first|(exfalso; omega)|exact goes_inr.mpr rfl
    have hE:=w6 _ hE
    clear tot tot2 hU hmd hL r5 w5
    apply Comes.of
    show Goes _ _ _
    rw [q72]
    simp only [Int.toNat_natCast,eo,r1,Nat.beq_refl,cond_true]
    repeat' (first|with_reducible refine goes_if (fun h=> ?_) (fun h=> ?_)<;>(try simp only [SH] at h)|exact goes_none.mpr (by omega))
    all_goals first|(exfalso; omega)|exact hE
theorem s72 (ap np mp:Nat) (tp:Nat→Int) (aq nq mq:Nat) (tq:Nat→Int) (hp:ap+np≤mp∧mp≤1000000∧np=nq+1∧2≤nq∧nq≤1000∧aq+nq≤mq∧S.okD np (fun j=>tp (j+ap))=true∧S.okG nq (fun j=>tq (j+aq))=true∧(S.val np (fun j=>tp (j+ap)))<1000000*(S.val nq (fun j=>tq (j+aq)))):Goes ((q72 ap np mp tp aq nq mq tq)) ((p72 ap np mp tp aq nq mq tq)) (((S.val np (fun j=>tp (j+ap))) / (S.val nq (fun j=>tq (j+aq))),S.mkl mp fun j=>S.winD tp ap np ((S.val np (fun j=>tp (j+ap))) % (S.val nq (fun j=>tq (j+aq)))) j)):=by
  have hp':=hp
  obtain ⟨hp1,hp2,rfl,hp4,hp5,hp6,hp7,hp8,hp9⟩:=hp
  have dP:=okD_iff.mp hp7
  have dQ:=(okG_iff.mp hp8).1
  have vp:=val_pos hp8 (by omega)
  have up:=val_nn hp7
  have q0:0≤(S.val (nq+1) (fun j=>tp (j+ap))) / (S.val nq (fun j=>tq (j+aq))):=Int.ediv_nonneg up (by omega)
  have q9:(S.val (nq+1) (fun j=>tp (j+ap))) / (S.val nq (fun j=>tq (j+aq)))<1000000:=(Int.ediv_lt_iff_lt_mul vp).mpr hp9
  have hm:=fun (d:Int) (h:(S.val (nq+1) (fun j=>tp (j+ap))) / (S.val nq (fun j=>tq (j+aq)))≤d) (h9:d≤999999)=>s72h ap (nq+1) mp tp aq nq mq tq hp' d.toNat d (Nat.le_refl _) h h9 (fun d a1 a2 a3=>s72d ap (nq+1) mp tp aq nq mq tq hp' d ⟨a1,a2⟩ a3)
  have hV:(S.val nq (fun j=>tq (j+aq)))=S.valF (fun j=>tq (j+aq)) 0 (nq-1)+S.pw (nq-1)*tq (nq-1+aq):=by
    show S.valF (fun j=>tq (j+aq)) 0 nq=_
    have:=valF_snoc (t:=(fun j=>tq (j+aq))) (i:=0) (k:=nq-1)
    rw [show nq-1+1=nq by omega,Nat.zero_add] at this
    exact this
  have hU:(S.val (nq+1) (fun j=>tp (j+ap)))=S.valF (fun j=>tp (j+ap)) 0 (nq-1)+S.pw (nq-1)*(tp (nq-1+ap)+1000000*tp (nq+ap)):=by
    show S.valF (fun j=>tp (j+ap)) 0 (nq+1)=_
    have:=valF_add (t:=(fun j=>tp (j+ap))) (i:=0) (a:=nq-1) (b:=2)
    rw [show nq-1+2=nq+1 by omega,Nat.zero_add] at this
    simp only [S.valF] at this
    rw [show nq-1+1=nq by omega,Int.mul_zero,Int.add_zero] at this
    exact this
  have lv0:=valF_nn (t:=(fun j=>tq (j+aq))) (k:=nq-1) (i:=0) fun j _ h=>(dQ j (by omega)).1
  have lu1:=valF_lt (t:=(fun j=>tp (j+ap))) (k:=nq-1) (i:=0) fun j _ h=>dP j (by omega)
  have hw:=pw_pos (k:=nq-1)
  have a1:=dQ (nq-1) (by omega)
  have b1:=dP (nq-1) (by omega)
  have b2:=dP nq (by omega)
  (try dsimp only at a1 b1 b2)
  have l1:tq (nq-1+aq)≠0:=by
    have:=(okG_iff.mp hp8).2
    rcases this with h|h
    · omega
    · exact h
  have td:=tdiv_nn (X:=tp (nq+ap)*1000000+tp (nq-1+ap)) (Y:=tq (nq-1+aq)) (by omega) (by omega)
  have hd:(S.val (nq+1) (fun j=>tp (j+ap))) / (S.val nq (fun j=>tq (j+aq)))≤Int.tdiv (tp (nq+ap)*1000000+tp (nq-1+ap)) (tq (nq-1+aq)):=by
    obtain ⟨t1,t2,-⟩:=td
    have c1:tq (nq-1+aq)*S.pw (nq-1)=S.pw (nq-1)*tq (nq-1+aq):=Int.mul_comm _ _
    have c2:(tp (nq+ap)*1000000+tp (nq-1+ap)+1)*S.pw (nq-1)=S.pw (nq-1)*(tp (nq-1+ap)+1000000*tp (nq+ap))+S.pw (nq-1):=by
      rw [Int.add_mul,Int.one_mul,Int.mul_comm]; congr 2; omega
    have k1:=knuth_no (d:=Int.tdiv (tp (nq+ap)*1000000+tp (nq-1+ap)) (tq (nq-1+aq))+1) (v:=tq (nq-1+aq)) (t:=tp (nq+ap)*1000000+tp (nq-1+ap)) (U:=(S.val (nq+1) (fun j=>tp (j+ap)))) (V:=(S.val nq (fun j=>tq (j+aq)))) hw (by rw [hV,c1]; omega) (by rw [hU,c2]; omega) (by omega) t2
    have:=(Int.ediv_lt_iff_lt_mul vp).mpr k1
    omega
  obtain ⟨t1,t2,t3⟩:=td
  have hm:=hm (min (Int.tdiv (tp (nq+ap)*1000000+tp (nq-1+ap)) (tq (nq-1+aq))) 999999) (by omega) (by omega)
  have e1:((nq:Int)-1).toNat=nq-1:=by omega
  clear hV hU hd t2
  generalize hT:Int.tdiv (tp (nq+ap)*1000000+tp (nq-1+ap)) (tq (nq-1+aq))=T at*
  show Goes _ _ _
  unfold p72
  simp only [e1,hT]
  repeat' (first|with_reducible refine goes_if (fun h=> ?_) (fun h=> ?_)<;>(try simp only [SH] at h)|exact goes_none.mpr (by omega))
  all_goals first|(exfalso; omega)|exact hm
theorem k72_ok:k72.ok Tryz.prog:=by
  intro x hx
  obtain ⟨⟨ap,np,mp,tp,_⟩,⟨aq,nq,mq,tq,_⟩,_⟩:=x
  obtain ⟨h1,h2⟩:=a72 ap np mp tp aq nq mq tq (s72 ap np mp tp aq nq mq tq (of_dec hx rfl))
  exact ⟨⟨400,(by decide:2+1+0≤400),h1⟩,h2⟩
noncomputable def xF2 (test:Bool→Prop→Prop→Prop):Ext:=consX test [k69,k65,k69v,k65v,k60,k61,k44,k73,k55,k45,k58,k56,k59,k52,k53,k71,k74,k77,k72]
theorem xF2_ok:ExtOk Tryz.prog (xF2 cond):=consX_ok ⟨k69_ok,k65_ok,k69v_ok,k65v_ok,k60_ok,k61_ok,k44_ok,k73_ok,k55_ok,k45_ok,k58_ok,k56_ok,k59_ok,k52_ok,k53_ok,k71_ok,k74_ok,k77_ok,k72_ok,trivial⟩
theorem mkl_mkl {n:Nat} {f:Nat→Int}:(S.mkl n fun j=>S.at' (S.mkl n f) j)=S.mkl n f:=mkl_congr fun j hj=>at_mkl hj
theorem win_at {m a n j:Nat} {t:Nat→Int} {v:Int} (hj:j<m):S.at' (S.mkl m fun j=>S.winD t a n v j) j=if a≤j∧j<a+n then S.at' (S.grp v) (j-a) else t j:=at_mkl hj
theorem grp_at {v:Int} {j:Nat}:0≤S.at' (S.grp v) j∧S.at' (S.grp v) j<1000000:=by
  by_cases h:j<(S.grp v).length
  · rw [at_lt h]; exact grp_dig _ (List.getElem_mem _)
  · have e:S.at' (S.grp v) j=0:=by
      simp [S.at',List.getElem?_eq_none (Nat.le_of_not_lt h)]
    rw [e]; omega
theorem grp_valF: ∀ {k:Nat} {v:Int},0≤v→v<S.pw k→S.valF (fun j=>S.at' (S.grp v) j) 0 k=v
  |0,v,h0,h1=>by
    have h1:v<1:=h1
    simp only [S.valF]; omega
  | k + 1,v,h0,h1=>by
    have h1:v<1000000*S.pw k:=h1
    by_cases hp:0<v
    · have ih:=grp_valF (k:=k) (v:=v / 1000000) (by omega) (by omega)
      rw [grp_pos hp]
      simp only [S.valF]
      rw [show (0:Nat)+1=0+1 from rfl,← valF_shift (a:=1) (i:=0)]
      have e:(fun j=>S.at' (v % 1000000::S.grp (v / 1000000)) (j+1))=fun j=>S.at' (S.grp (v / 1000000)) j:=by
        funext j
        simp [S.at']
      rw [e,ih]
      show v % 1000000+1000000*(v / 1000000)=v
      omega
    · obtain rfl:v=0:=by omega
      rw [grp_zero]
      exact valF_zeros fun j _ _=>by simp [S.at']
theorem len_ge {v:Int} {k:Nat} (h:S.pw k≤v):k<(S.grp v).length:=by
  refine Nat.not_le.mp fun hl=> ?_
  have h0:=val_grp (v:=v) (by have:=pw_pos (k:=k); omega)
  rw [← val_at] at h0
  have h1:=val_lt (okG_D (grp_ok (v:=v))) hl
  omega
theorem step_eq {A P U V q r Wo T:Int} (h:U=q*V+r) (he:A+P*U+1000000*P*Wo*V=T):A+P*r+P*(q+1000000*Wo)*V=T:=by
  subst h
  grind
theorem end_eq {X W Q s T:Int} (h:X+W*(Q*s)=T*s):X=(T-W*Q)*s:=by grind
inductive St54 where
  |h0 (x0:Int) (x1:List Int) (x2:List Int) (x3:List Int) (x4:List Int)
abbrev Rt54:=List Int×List Int
noncomputable def V54 (ap np mp:Nat) (tp:NI) (aq nq mq:Nat) (tq:NI) (r:Rt54):PV:=PV.tup [PV.own (4) (1) (List.length r.2),PV.own (3) (1) (List.length r.1)]
noncomputable def N54 (ap np mp:Nat) (tp:NI) (aq nq mq:Nat) (tq:NI) (r:Rt54):List Blk:= [Blk.cols (List.length r.1) [Col.int .i64 fun j=>S.at' r.1 j],Blk.cols (List.length r.2) [Col.int .i64 fun j=>S.at' r.2 j]]
noncomputable def I54 (ap np mp:Nat) (tp:NI) (aq nq mq:Nat) (tq:NI):St54→Hd
  | .h0 x0 x1 x2 x3 x4=>⟨hd Tryz.f114 0,[PV.own (2) (1) (List.length x1),PV.own (3) (1) (List.length x2),
 PV.own (4) (1) (List.length x3),PV.own (5) (1) (List.length x4),
 PV.int .i64 x0],[[(2,(true,Blk.cols (List.length x1) [Col.int .i64 fun j=>S.at' x1 j])),(3,(true,Blk.cols (List.length x2) [Col.int .i64 fun j=>S.at' x2 j])),(4,(true,Blk.cols (List.length x3) [Col.int .i64 fun j=>S.at' x3 j])),(5,(true,Blk.cols (List.length x4) [Col.int .i64 fun j=>S.at' x4 j]))],[(0,(false,.cols mp [.int .i64 tp])),(1,(false,.cols mq [.int .i64 tq]))]],6⟩
noncomputable def q54 (ap np mp:Nat) (tp:NI) (aq nq mq:Nat) (tq:NI):St54→Option (St54⊕Rt54)| .h0 x0 x1 x2 x3 x4=>bif (decide (x0≥0)) then (bif (lim .i64 (x0+(↑(List.length x3):Int))) then (bif (lim .i64 (x0+(↑(List.length x3):Int)+1)) then (bif (decide ((0:Int)≤x0∧x0≤x0+(↑(List.length x3):Int)+1∧x0+(↑(List.length x3):Int)+1≤(↑(List.length x2):Int))) then (bif (decide (Int.toNat x0+(Int.toNat (x0+(↑(List.length x3):Int)+1)-Int.toNat x0)≤List.length x2∧List.length x2≤1000000∧Int.toNat (x0+(↑(List.length x3):Int)+1)-Int.toNat x0=List.length x3+1∧2≤List.length x3∧List.length x3≤1000∧0+List.length x3≤List.length x3∧(S.okD (Int.toNat (x0+(↑(List.length x3):Int)+1)-Int.toNat x0) fun j=>S.at' x2 (j+Int.toNat x0))=true∧(S.okG (List.length x3) fun j=>S.at' x3 j)=true∧(S.val (Int.toNat (x0+(↑(List.length x3):Int)+1)-Int.toNat x0) fun j=>S.at' x2 (j+Int.toNat x0))<1000000*S.val (List.length x3) fun j=>S.at' x3 j)) then (bif (decide ((0:Int)≤x0∧x0<(↑(List.length x4):Int))) then (bif (decide (Int.toNat x0<List.length x4)) then (bif (lim .i64 (x0-1)) then (some (.inl (.h0 (x0-1) (x1) (S.mkl (List.length x2) fun j=>S.at' (S.mkl (List.length x2) fun j=>S.winD (fun j=>S.at' x2 j) (Int.toNat x0) (Int.toNat (x0+(↑(List.length x3):Int)+1)-Int.toNat x0) ((S.val (Int.toNat (x0+(↑(List.length x3):Int)+1)-Int.toNat x0) fun j=>S.at' x2 (j+Int.toNat x0)) % S.val (List.length x3) fun j=>S.at' x3 j) j) j) (x3) (S.mkl (List.length x4) fun j=>bif Nat.beq j (Int.toNat x0) then (S.val (Int.toNat (x0+(↑(List.length x3):Int)+1)-Int.toNat x0) fun j=>S.at' x2 (j+Int.toNat x0)) / S.val (List.length x3) fun j=>S.at' x3 j else S.at' x4 j)))) else (none)) else (none)) else (none)) else (none)) else (none)) else (none)) else (none)) else (bif (decide (List.length x2≤List.length x2)) then (bif (decide (List.length x2≤1000000)) then (bif (decide ((0:Int)≤0∧(0:Int)<(↑(List.length x1):Int))) then (bif (decide (0<List.length x1)) then (bif (decide (0+List.length (S.trim (S.mkl (List.length x2) fun j=>S.at' x2 j))≤List.length (S.trim (S.mkl (List.length x2) fun j=>S.at' x2 j))∧List.length (S.trim (S.mkl (List.length x2) fun j=>S.at' x2 j))≤1000∧(S.okD (List.length (S.trim (S.mkl (List.length x2) fun j=>S.at' x2 j))) fun j=>S.at' (S.trim (S.mkl (List.length x2) fun j=>S.at' x2 j)) j)=true∧(0:Int)<S.at' x1 (0)∧S.at' x1 (0)≤1000000)) then (bif (decide (List.length x4≤List.length x4)) then (bif (decide (List.length x4≤1000000)) then (some (.inr (S.grp ((S.val (List.length (S.trim (S.mkl (List.length x2) fun j=>S.at' x2 j))) fun j=>S.at' (S.trim (S.mkl (List.length x2) fun j=>S.at' x2 j)) j) / S.at' x1 (0)),S.trim (S.mkl (List.length x4) fun j=>S.at' x4 j)))) else (none)) else (none)) else (none)) else (none)) else (none)) else (none)) else (none))
noncomputable def p54 (ap np mp:Nat) (tp:NI) (aq nq mq:Nat) (tq:NI):Option (St54⊕Rt54):=bif (decide (ap+np≤mp∧np≤1000000∧aq+nq≤mq∧nq≤1000000∧(S.okG np fun j=>tp (j+ap))=true∧(S.okG nq fun j=>tq (j+aq))=true)) then (bif (decide (S.cmpS (S.val np fun j=>tp (j+ap)) (S.val nq fun j=>tq (j+aq))<0)) then (bif (decide (ap+np≤mp∧np≤1000000)) then (some (.inr (S.mkl np fun j=>tp (j+ap),[]))) else (none)) else (bif ((↑nq:Int)==1) then (bif (decide ((0:Int)≤0∧(0:Int)<(↑nq:Int))) then (bif (decide (0+aq<mq)) then (bif (decide (ap+np≤mp∧np≤1000∧(S.okD np fun j=>tp (j+ap))=true∧(0:Int)<tq (0+aq)∧tq (0+aq)≤1000000)) then (bif (decide ((0:Int)≤IntKind.wrap .u64 ((S.val np fun j=>tp (j+ap)) % tq (0+aq))∧IntKind.wrap .u64 ((S.val np fun j=>tp (j+ap)) % tq (0+aq))≤9223372036854775808)) then (some (.inr (S.grp (IntKind.wrap .u64 ((S.val np fun j=>tp (j+ap)) % tq (0+aq))),S.grp ((S.val np fun j=>tp (j+ap)) / tq (0+aq))))) else (none)) else (none)) else (none)) else (none)) else (bif (lim .i64 ((↑nq:Int)-1)) then (bif (decide ((0:Int)≤(↑nq:Int)-1∧(↑nq:Int)-1<(↑nq:Int))) then (bif (decide (Int.toNat ((↑nq:Int)-1)+aq<mq)) then (bif (lim .i64 (tq (Int.toNat ((↑nq:Int)-1)+aq)+1)) then (bif (decide (tq (Int.toNat ((↑nq:Int)-1)+aq)+1=0)) then (none) else (bif (lim .i64 (Int.tdiv (1000000:Int) (tq (Int.toNat ((↑nq:Int)-1)+aq)+1))) then (bif (decide ((ap+np≤mp∧1≤1)∧(np≤1000∧1≤1000)∧(S.okG np fun j=>tp (j+ap))=true∧(S.okG (1) fun j=>S.lit [Int.tdiv (1000000:Int) (tq (Int.toNat ((↑nq:Int)-1)+aq)+1)] (0:Int) j)=true)) then (bif (decide (List.length (S.grp ((S.val np fun j=>tp (j+ap))*S.val (1) fun j=>S.lit [Int.tdiv (1000000:Int) (tq (Int.toNat ((↑nq:Int)-1)+aq)+1)] (0:Int) j))+1≤1000000)) then (bif (decide (List.length (S.grp ((S.val np fun j=>tp (j+ap))*S.val (1) fun j=>S.lit [Int.tdiv (1000000:Int) (tq (Int.toNat ((↑nq:Int)-1)+aq)+1)] (0:Int) j))≤List.length (S.grp ((S.val np fun j=>tp (j+ap))*S.val (1) fun j=>S.lit [Int.tdiv (1000000:Int) (tq (Int.toNat ((↑nq:Int)-1)+aq)+1)] (0:Int) j)))) then (bif (decide ((aq+nq≤mq∧1≤1)∧(nq≤1000∧1≤1000)∧(S.okG nq fun j=>tq (j+aq))=true∧(S.okG (1) fun j=>S.lit [Int.tdiv (1000000:Int) (tq (Int.toNat ((↑nq:Int)-1)+aq)+1)] (0:Int) j)=true)) then (bif (lim .i64 ((↑(List.length (S.grp ((S.val np fun j=>tp (j+ap))*S.val (1) fun j=>S.lit [Int.tdiv (1000000:Int) (tq (Int.toNat ((↑nq:Int)-1)+aq)+1)] (0:Int) j))+1):Int)-(↑(List.length (S.grp ((S.val nq fun j=>tq (j+aq))*S.val (1) fun j=>S.lit [Int.tdiv (1000000:Int) (tq (Int.toNat ((↑nq:Int)-1)+aq)+1)] (0:Int) j))):Int))) then (bif (decide ((0:Int)≤(↑(List.length (S.grp ((S.val np fun j=>tp (j+ap))*S.val (1) fun j=>S.lit [Int.tdiv (1000000:Int) (tq (Int.toNat ((↑nq:Int)-1)+aq)+1)] (0:Int) j))+1):Int)-(↑(List.length (S.grp ((S.val nq fun j=>tq (j+aq))*S.val (1) fun j=>S.lit [Int.tdiv (1000000:Int) (tq (Int.toNat ((↑nq:Int)-1)+aq)+1)] (0:Int) j))):Int)∧(↑(List.length (S.grp ((S.val np fun j=>tp (j+ap))*S.val (1) fun j=>S.lit [Int.tdiv (1000000:Int) (tq (Int.toNat ((↑nq:Int)-1)+aq)+1)] (0:Int) j))+1):Int)-(↑(List.length (S.grp ((S.val nq fun j=>tq (j+aq))*S.val (1) fun j=>S.lit [Int.tdiv (1000000:Int) (tq (Int.toNat ((↑nq:Int)-1)+aq)+1)] (0:Int) j))):Int)≤(↑(List.length (S.grp ((S.val np fun j=>tp (j+ap))*S.val (1) fun j=>S.lit [Int.tdiv (1000000:Int) (tq (Int.toNat ((↑nq:Int)-1)+aq)+1)] (0:Int) j))+1):Int)-(↑(List.length (S.grp ((S.val nq fun j=>tq (j+aq))*S.val (1) fun j=>S.lit [Int.tdiv (1000000:Int) (tq (Int.toNat ((↑nq:Int)-1)+aq)+1)] (0:Int) j))):Int)∧(↑(List.length (S.grp ((S.val np fun j=>tp (j+ap))*S.val (1) fun j=>S.lit [Int.tdiv (1000000:Int) (tq (Int.toNat ((↑nq:Int)-1)+aq)+1)] (0:Int) j))+1):Int)-(↑(List.length (S.grp ((S.val nq fun j=>tq (j+aq))*S.val (1) fun j=>S.lit [Int.tdiv (1000000:Int) (tq (Int.toNat ((↑nq:Int)-1)+aq)+1)] (0:Int) j))):Int)≤1000000)) then (bif (lim .i64 ((↑(Int.toNat ((↑(List.length (S.grp ((S.val np fun j=>tp (j+ap))*S.val (1) fun j=>S.lit [Int.tdiv (1000000:Int) (tq (Int.toNat ((↑nq:Int)-1)+aq)+1)] (0:Int) j))+1):Int)-(↑(List.length (S.grp ((S.val nq fun j=>tq (j+aq))*S.val (1) fun j=>S.lit [Int.tdiv (1000000:Int) (tq (Int.toNat ((↑nq:Int)-1)+aq)+1)] (0:Int) j))):Int))):Int)-1)) then (some (.inl (.h0 ((↑(Int.toNat ((↑(List.length (S.grp ((S.val np fun j=>tp (j+ap))*S.val (1) fun j=>S.lit [Int.tdiv (1000000:Int) (tq (Int.toNat ((↑nq:Int)-1)+aq)+1)] (0:Int) j))+1):Int)-(↑(List.length (S.grp ((S.val nq fun j=>tq (j+aq))*S.val (1) fun j=>S.lit [Int.tdiv (1000000:Int) (tq (Int.toNat ((↑nq:Int)-1)+aq)+1)] (0:Int) j))):Int))):Int)-1) ([Int.tdiv (1000000:Int) (tq (Int.toNat ((↑nq:Int)-1)+aq)+1)]) (S.snoc (S.grp ((S.val np fun j=>tp (j+ap))*S.val (1) fun j=>S.lit [Int.tdiv (1000000:Int) (tq (Int.toNat ((↑nq:Int)-1)+aq)+1)] (0:Int) j)) (0:Int)) (S.grp ((S.val nq fun j=>tq (j+aq))*S.val (1) fun j=>S.lit [Int.tdiv (1000000:Int) (tq (Int.toNat ((↑nq:Int)-1)+aq)+1)] (0:Int) j)) (S.mkl (Int.toNat ((↑(List.length (S.grp ((S.val np fun j=>tp (j+ap))*S.val (1) fun j=>S.lit [Int.tdiv (1000000:Int) (tq (Int.toNat ((↑nq:Int)-1)+aq)+1)] (0:Int) j))+1):Int)-(↑(List.length (S.grp ((S.val nq fun j=>tq (j+aq))*S.val (1) fun j=>S.lit [Int.tdiv (1000000:Int) (tq (Int.toNat ((↑nq:Int)-1)+aq)+1)] (0:Int) j))):Int))) fun j=>0)))) else (none)) else (none)) else (none)) else (none)) else (none)) else (none)) else (none)) else (none))) else (none)) else (none)) else (none)) else (none)))) else (none)
noncomputable abbrev u54_e_0 (ap np:Nat) (tp:NI) (aq nq:Nat) (tq:NI):=S.grp ((S.val np fun j=>tp (j+ap))*S.val (1) fun j=>S.lit [Int.tdiv (1000000:Int) (tq (Int.toNat ((↑nq:Int)-1)+aq)+1)] (0:Int) j)
noncomputable abbrev u54_e_1 (aq:Nat) (nq:Nat) (tq:NI):=S.grp ((S.val nq fun j=>tq (j+aq))*S.val (1) fun j=>S.lit [Int.tdiv (1000000:Int) (tq (Int.toNat ((↑nq:Int)-1)+aq)+1)] (0:Int) j)
noncomputable abbrev u54_e_2 (ap:Nat) (np:Nat) (tp:NI) (aq:Nat) (nq:Nat) (tq:NI):=(↑(List.length (u54_e_0 ap np tp aq nq tq)+1):Int)-(↑(List.length (u54_e_1 aq nq tq)):Int)
noncomputable def Te54 (test:TT) (Kst:KS) (Kret:KR) (ap np mp:Nat) (tp:NI) (aq nq mq:Nat) (tq:NI):Prop:=test (decide (ap+np≤mp∧np≤1000000∧aq+nq≤mq∧nq≤1000000∧(S.okG np fun j=>tp (j+ap))=true∧(S.okG nq fun j=>tq (j+aq))=true)) (test (decide (S.cmpS (S.val np fun j=>tp (j+ap)) (S.val nq fun j=>tq (j+aq))<0)) (test (decide (ap+np≤mp∧np≤1000000)) (Kret (PV.tup [PV.nils,PV.own (4) (1) np]) ([[(1,false,Blk.cols mq [Col.int .i64 tq]),(0,false,Blk.cols mp [Col.int .i64 tp]),(4,true,Blk.cols np [Col.int .i64 fun j=>tp (j+ap)])]]) (5)) (False)) (test ((↑nq:Int)==1) (test (decide ((0:Int)≤0∧(0:Int)<(↑nq:Int))) (test (decide (0+aq<mq)) (test (decide (ap+np≤mp∧np≤1000∧(S.okD np fun j=>tp (j+ap))=true∧(0:Int)<tq (0+aq)∧tq (0+aq)≤1000000)) (test (decide ((0:Int)≤IntKind.wrap .u64 ((S.val np fun j=>tp (j+ap)) % tq (0+aq))∧IntKind.wrap .u64 ((S.val np fun j=>tp (j+ap)) % tq (0+aq))≤9223372036854775808)) (Kret (PV.tup [PV.own (4) (1) (List.length (S.grp ((S.val np fun j=>tp (j+ap)) / tq (0+aq)))),PV.own (6) (1) (List.length (S.grp (IntKind.wrap .u64 ((S.val np fun j=>tp (j+ap)) % tq (0+aq)))))]) ([[(1,false,Blk.cols mq [Col.int .i64 tq]),(0,false,Blk.cols mp [Col.int .i64 tp]),(6,true,Blk.cols (List.length (S.grp (IntKind.wrap .u64 ((S.val np fun j=>tp (j+ap)) % tq (0+aq))))) [Col.int .i64 fun j=>S.at' (S.grp (IntKind.wrap .u64 ((S.val np fun j=>tp (j+ap)) % tq (0+aq)))) j]),(4,true,Blk.cols (List.length (S.grp ((S.val np fun j=>tp (j+ap)) / tq (0+aq)))) [Col.int .i64 fun j=>S.at' (S.grp ((S.val np fun j=>tp (j+ap)) / tq (0+aq))) j])]]) (7)) (False)) (False)) (False)) (False)) (test (lim .i64 ((↑nq:Int)-1)) (test (decide ((0:Int)≤(↑nq:Int)-1∧(↑nq:Int)-1<(↑nq:Int))) (test (decide (Int.toNat ((↑nq:Int)-1)+aq<mq)) (test (lim .i64 (tq (Int.toNat ((↑nq:Int)-1)+aq)+1)) (test (decide (tq (Int.toNat ((↑nq:Int)-1)+aq)+1=0)) (False) (test (lim .i64 (Int.tdiv (1000000:Int) (tq (Int.toNat ((↑nq:Int)-1)+aq)+1))) (test (decide ((ap+np≤mp∧1≤1)∧(np≤1000∧1≤1000)∧(S.okG np fun j=>tp (j+ap))=true∧(S.okG (1) fun j=>S.lit [Int.tdiv (1000000:Int) (tq (Int.toNat ((↑nq:Int)-1)+aq)+1)] (0:Int) j)=true)) (test (decide (List.length (u54_e_0 ap np tp aq nq tq)+1≤1000000)) (test (decide (List.length (u54_e_0 ap np tp aq nq tq)≤List.length (u54_e_0 ap np tp aq nq tq))) (test (true) (test (decide ((aq+nq≤mq∧1≤1)∧(nq≤1000∧1≤1000)∧(S.okG nq fun j=>tq (j+aq))=true∧(S.okG (1) fun j=>S.lit [Int.tdiv (1000000:Int) (tq (Int.toNat ((↑nq:Int)-1)+aq)+1)] (0:Int) j)=true)) (test (lim .i64 (u54_e_2 ap np tp aq nq tq)) (test (decide ((0:Int)≤(↑(List.length (u54_e_0 ap np tp aq nq tq)+1):Int)-(↑(List.length (u54_e_1 aq nq tq)):Int)∧(↑(List.length (u54_e_0 ap np tp aq nq tq)+1):Int)-(↑(List.length (u54_e_1 aq nq tq)):Int)≤(↑(List.length (u54_e_0 ap np tp aq nq tq)+1):Int)-(↑(List.length (u54_e_1 aq nq tq)):Int)∧(↑(List.length (u54_e_0 ap np tp aq nq tq)+1):Int)-(↑(List.length (u54_e_1 aq nq tq)):Int)≤1000000)) (test (lim .i64 ((↑(Int.toNat (u54_e_2 ap np tp aq nq tq)):Int)-1)) (Kst (hd Tryz.f114 0) ([PV.own (3) (1) (1),PV.own (7) (1) (List.length (u54_e_0 ap np tp aq nq tq)+1),PV.own (9) (1) (List.length (u54_e_1 aq nq tq)),PV.own (10) (1) (Int.toNat (u54_e_2 ap np tp aq nq tq)),PV.int .i64 ((↑(Int.toNat (u54_e_2 ap np tp aq nq tq)):Int)-1)]) ([[(1,false,Blk.cols mq [Col.int .i64 tq]),(0,false,Blk.cols mp [Col.int .i64 tp]),(10,true,Blk.cols (Int.toNat (u54_e_2 ap np tp aq nq tq)) [Col.int .i64 fun (x:Nat)=>0]),(9,true,Blk.cols (List.length (u54_e_1 aq nq tq)) [Col.int .i64 fun j=>S.at' (u54_e_1 aq nq tq) j]),(7,true,Blk.cols (List.length (u54_e_0 ap np tp aq nq tq)+1) [Col.int .i64 fun j=>bif Nat.blt j (List.length (u54_e_0 ap np tp aq nq tq)) then S.at' (u54_e_0 ap np tp aq nq tq) j else (0:Int)]),(3,true,Blk.cells [PV.int .i64 (Int.tdiv (1000000:Int) (tq (Int.toNat ((↑nq:Int)-1)+aq)+1))])]]) (11)) (False)) (False)) (False)) (False)) (False)) (False)) (False)) (False)) (False))) (False)) (False)) (False)) (False)))) (False)
theorem te54 (test:TT) (Kst:KS) (Kret:KR) (ap np mp:Nat) (tp:NI) (aq nq mq:Nat) (tq:NI):run test Tryz.env true (xF2 test) true 400 ⟨114,[.cd (mkFn Tryz.f114).body],argT 0 [.loose ⟨0,1,ap,0⟩ np,.loose ⟨1,1,aq,0⟩ nq],[[],[(0,(false,.cols mp [.int .i64 tp])),(1,(false,.cols mq [.int .i64 tq]))]],2⟩ (proj 2 [8,9,10,11,12] Kst Kret)=
  Te54 test Kst Kret ap np mp tp aq nq mq tq:=by kernel_rfl
noncomputable abbrev u54_0_0 (x2:List Int):=S.trim (S.mkl (List.length x2) fun j=>S.at' x2 j)
noncomputable abbrev u54_0_1 (x0:Int) (x3:List Int):=Int.toNat (x0+(↑(List.length x3):Int)+1)-Int.toNat x0
noncomputable def T54_0 (test:TT) (Kst:KS) (Kret:KR) (ap np mp:Nat) (tp:NI) (aq nq mq:Nat) (tq:NI) (x0:Int) (x1:List Int) (x2:List Int) (x3:List Int) (x4:List Int):Prop:=test (decide (x0≥0)) (test (lim .i64 (x0+(↑(List.length x3):Int))) (test (lim .i64 (x0+(↑(List.length x3):Int)+1)) (test (decide ((0:Int)≤x0∧x0≤x0+(↑(List.length x3):Int)+1∧x0+(↑(List.length x3):Int)+1≤(↑(List.length x2):Int))) (test (decide (Int.toNat x0+(u54_0_1 x0 x3)≤List.length x2∧List.length x2≤1000000∧Int.toNat (x0+(↑(List.length x3):Int)+1)-Int.toNat x0=List.length x3+1∧2≤List.length x3∧List.length x3≤1000∧0+List.length x3≤List.length x3∧(S.okD (u54_0_1 x0 x3) fun j=>S.at' x2 (j+Int.toNat x0))=true∧(S.okG (List.length x3) fun j=>S.at' x3 j)=true∧(S.val (u54_0_1 x0 x3) fun j=>S.at' x2 (j+Int.toNat x0))<1000000*S.val (List.length x3) fun j=>S.at' x3 j)) (test (decide ((0:Int)≤x0∧x0<(↑(List.length x4):Int))) (test (decide (Int.toNat x0<List.length x4)) (test (lim .i64 (x0-1)) (Kst (hd Tryz.f114 0) ([PV.own (2) (1) (List.length x1),PV.own (3) (1) (List.length x2),PV.own (4) (1) (List.length x3),PV.own (5) (1) (List.length x4),PV.int .i64 (x0-1)]) ([[(1,false,Blk.cols mq [Col.int .i64 tq]),(0,false,Blk.cols mp [Col.int .i64 tp]),(5,true,Blk.cols (List.length x4) [Col.int .i64 fun j=>bif Nat.beq j (Int.toNat x0) then (S.val (u54_0_1 x0 x3) fun j=>S.at' x2 (j+Int.toNat x0)) / S.val (List.length x3) fun j=>S.at' x3 j else S.at' x4 j]),(4,true,Blk.cols (List.length x3) [Col.int .i64 fun j=>S.at' x3 j]),(3,true,Blk.cols (List.length (S.mkl (List.length x2) fun j=>S.winD (fun j=>S.at' x2 j) (Int.toNat x0) (u54_0_1 x0 x3) ((S.val (u54_0_1 x0 x3) fun j=>S.at' x2 (j+Int.toNat x0)) % S.val (List.length x3) fun j=>S.at' x3 j) j)) [Col.int .i64 fun j=>S.at' (S.mkl (List.length x2) fun j=>S.winD (fun j=>S.at' x2 j) (Int.toNat x0) (u54_0_1 x0 x3) ((S.val (u54_0_1 x0 x3) fun j=>S.at' x2 (j+Int.toNat x0)) % S.val (List.length x3) fun j=>S.at' x3 j) j) j]),(2,true,Blk.cols (List.length x1) [Col.int .i64 fun j=>S.at' x1 j])]]) (7)) (False)) (False)) (False)) (False)) (False)) (False)) (False)) (test (decide (List.length x2≤List.length x2)) (test (decide (List.length x2≤1000000)) (test (decide ((0:Int)≤0∧(0:Int)<(↑(List.length x1):Int))) (test (decide (0<List.length x1)) (test (decide (0+List.length (u54_0_0 x2)≤List.length (u54_0_0 x2)∧List.length (u54_0_0 x2)≤1000∧(S.okD (List.length (u54_0_0 x2)) fun j=>S.at' (u54_0_0 x2) j)=true∧(0:Int)<S.at' x1 (0)∧S.at' x1 (0)≤1000000)) (test (decide (List.length x4≤List.length x4)) (test (decide (List.length x4≤1000000)) (Kret (PV.tup [PV.own (5) (1) (List.length (S.trim (S.mkl (List.length x4) fun j=>S.at' x4 j))),PV.own (8) (1) (List.length (S.grp ((S.val (List.length (u54_0_0 x2)) fun j=>S.at' (u54_0_0 x2) j) / S.at' x1 (0))))]) ([[(1,false,Blk.cols mq [Col.int .i64 tq]),(0,false,Blk.cols mp [Col.int .i64 tp]),(8,true,Blk.cols (List.length (S.grp ((S.val (List.length (u54_0_0 x2)) fun j=>S.at' (u54_0_0 x2) j) / S.at' x1 (0)))) [Col.int .i64 fun j=>S.at' (S.grp ((S.val (List.length (u54_0_0 x2)) fun j=>S.at' (u54_0_0 x2) j) / S.at' x1 (0))) j]),(5,true,Blk.cols (List.length (S.trim (S.mkl (List.length x4) fun j=>S.at' x4 j))) [Col.int .i64 fun j=>S.at' (S.trim (S.mkl (List.length x4) fun j=>S.at' x4 j)) j])]]) (10)) (False)) (False)) (False)) (False)) (False)) (False)) (False))
theorem t54_0 (test:TT) (Kst:KS) (Kret:KR) (ap np mp:Nat) (tp:NI) (aq nq mq:Nat) (tq:NI) (x0:Int) (x1 x2 x3 x4:List Int):run test Tryz.env true (xF2 test) true 400 ⟨114,hd Tryz.f114 0,zipT [8,9,10,11,12] [PV.own (2) (1) (List.length x1),PV.own (3) (1) (List.length x2),
 PV.own (4) (1) (List.length x3),PV.own (5) (1) (List.length x4),
 PV.int .i64 x0],[[(2,(true,Blk.cols (List.length x1) [Col.int .i64 fun j=>S.at' x1 j])),(3,(true,Blk.cols (List.length x2) [Col.int .i64 fun j=>S.at' x2 j])),(4,(true,Blk.cols (List.length x3) [Col.int .i64 fun j=>S.at' x3 j])),(5,(true,Blk.cols (List.length x4) [Col.int .i64 fun j=>S.at' x4 j]))],[(0,(false,.cols mp [.int .i64 tp])),(1,(false,.cols mq [.int .i64 tq]))]],6⟩ (proj 2 [8,9,10,11,12] Kst Kret)=
  T54_0 test Kst Kret ap np mp tp aq nq mq tq x0 x1 x2 x3 x4:=by kernel_rfl
noncomputable abbrev J54 (ap np mp:Nat) (tp:NI) (aq nq mq:Nat) (tq:NI):Rt54→Heap:=fun r=> [newL (2+1) ((N54 ap np mp tp aq nq mq tq) r)++ [(0,(false,.cols mp [.int .i64 tp])),(1,(false,.cols mq [.int .i64 tq]))]]
attribute [local irreducible] Int.subNatNat in
theorem be54 (ap np mp:Nat) (tp:NI) (aq nq mq:Nat) (tq:NI) (Kst:KS) (Kret:KR) (x:St54⊕Rt54) (hS:HS 2 400 ((I54 ap np mp tp aq nq mq tq)) Kst x) (hR:HR 2 400 ((V54 ap np mp tp aq nq mq tq)) (J54 ap np mp tp aq nq mq tq) Kret x) (h:p54 ap np mp tp aq nq mq tq=some x):Te54 cond Kst Kret ap np mp tp aq nq mq tq:=by
  unfold Te54
  unfold p54 at h
  exact bif_split h (fun c0 h=>bif_split h (fun c1 h=>bif_split h (fun c2 h=>ret_at hR _ h (fun n=>bif Nat.beq n 3 then 4 else bif Nat.beq n 4 then 399 else n) rfl rfl rfl (rn_tup ⟨(rn_own_nils rfl),(rn_own (use_own rfl) rfl mkl_len),trivial⟩) rfl (entl_new (use_own rfl) rfl (Nat.le_of_eq mkl_len) (rcs_int (fun _ hj=>col_mkl (fun (t:Int)=>t) hj) rcs_nil) (entl_fresh (use_own rfl) (fresh_ok rfl) (entl_bor (use_lo rfl) rfl rfl (entl_bor (use_lo rfl) rfl rfl entl_nil))))) (fun c2 h=>no_some h)) (fun c1 h=>bif_split h (fun c2 h=>bif_split h (fun c3 h=>bif_split h (fun c4 h=>bif_split h (fun c5 h=>bif_split h (fun c6 h=>ret_at hR _ h (fun n=>bif Nat.beq n 3 then 6 else bif Nat.beq n 4 then 4 else n) rfl rfl rfl (rn_tup ⟨(rn_own (use_own rfl) rfl rfl),(rn_own (use_own rfl) rfl rfl),trivial⟩) rfl (entl_new (use_own rfl) rfl (Nat.le_of_eq rfl) (rcs_int (fun _ _=>rfl) rcs_nil) (entl_new (use_own rfl) rfl (Nat.le_of_eq rfl) (rcs_int (fun _ _=>rfl) rcs_nil) (entl_bor (use_lo rfl) rfl rfl (entl_bor (use_lo rfl) rfl rfl entl_nil))))) (fun c6 h=>no_some h)) (fun c5 h=>no_some h)) (fun c4 h=>no_some h)) (fun c3 h=>no_some h)) (fun c2 h=>bif_split h (fun c3 h=>bif_split h (fun c4 h=>bif_split h (fun c5 h=>bif_split h (fun c6 h=>bif_split h (fun c7 h=>no_some h) (fun c7 h=>bif_split h (fun c8 h=>bif_split h (fun c9 h=>bif_split h (fun c10 h=>bif_split h (fun c11 h=>cond_yes rfl (bif_split h (fun c12 h=>bif_split h (fun c13 h=>bif_split h (fun c14 h=>bif_split h (fun c15 h=>stop_at hS _ h (fun n=>bif Nat.beq n 2 then 3 else bif Nat.beq n 3 then 7 else bif Nat.beq n 4 then 9 else bif Nat.beq n 5 then 10 else n) rfl rfl rfl ⟨(rn_own (use_own rfl) rfl rfl),⟨(rn_own (use_own rfl) rfl (snoc_len' rfl)),⟨(rn_own (use_own rfl) rfl rfl),⟨(rn_own (use_own rfl) rfl mkl_len),⟨(rn_int rfl),trivial⟩⟩⟩⟩⟩ rfl (entl_b (use_own rfl) rfl (by simp) (rb_lit (fun j hj i hi=>(match j,hj with|0,_=>(match i,hi with|0,_=>⟨_,rfl,rn_int rfl⟩|_+1,h=>absurd h (by simp [lenc]))|_+1,h=>absurd h (by simp)))) (entl_new (use_own rfl) rfl (Nat.le_of_eq (snoc_len' rfl)) (rcs_int (col_snoc' (fun (t:Int)=>t) rfl (fun _ _=>rfl)) rcs_nil) (entl_new (use_own rfl) rfl (Nat.le_of_eq rfl) (rcs_int (fun _ _=>rfl) rcs_nil) (entl_new (use_own rfl) rfl (Nat.le_of_eq mkl_len) (rcs_int (fun _ hj=>col_mkl (fun (t:Int)=>t) hj) rcs_nil) (entl_bor (use_lo rfl) rfl rfl (entl_bor (use_lo rfl) rfl rfl entl_nil))))))) (fun c15 h=>no_some h)) (fun c14 h=>no_some h)) (fun c13 h=>no_some h)) (fun c12 h=>no_some h))) (fun c11 h=>no_some h)) (fun c10 h=>no_some h)) (fun c9 h=>no_some h)) (fun c8 h=>no_some h))) (fun c6 h=>no_some h)) (fun c5 h=>no_some h)) (fun c4 h=>no_some h)) (fun c3 h=>no_some h)))) (fun c0 h=>no_some h)
attribute [local irreducible] Int.subNatNat in
theorem b54_0 (ap np mp:Nat) (tp:NI) (aq nq mq:Nat) (tq:NI) (Kst:KS) (Kret:KR) (x:St54⊕Rt54) (hS:HS 2 400 ((I54 ap np mp tp aq nq mq tq)) Kst x) (hR:HR 2 400 ((V54 ap np mp tp aq nq mq tq)) (J54 ap np mp tp aq nq mq tq) Kret x) (x0:Int) (x1 x2 x3 x4:List Int) (h:q54 ap np mp tp aq nq mq tq (.h0 x0 x1 x2 x3 x4)=some x):T54_0 cond Kst Kret ap np mp tp aq nq mq tq x0 x1 x2 x3 x4:=by
  unfold T54_0
  rw [q54] at h
  exact bif_split h (fun c0 h=>bif_split h (fun c1 h=>bif_split h (fun c2 h=>bif_split h (fun c3 h=>bif_split h (fun c4 h=>bif_split h (fun c5 h=>bif_split h (fun c6 h=>bif_split h (fun c7 h=>stop_at hS _ h (fun n=>bif Nat.beq n 2 then 2 else bif Nat.beq n 3 then 3 else bif Nat.beq n 4 then 4 else bif Nat.beq n 5 then 5 else n) rfl rfl rfl ⟨(rn_own (use_own rfl) rfl rfl),⟨(rn_own (use_own rfl) rfl mkl_len),⟨(rn_own (use_own rfl) rfl rfl),⟨(rn_own (use_own rfl) rfl mkl_len),⟨(rn_int rfl),trivial⟩⟩⟩⟩⟩ rfl (entl_new (use_own rfl) rfl (Nat.le_of_eq rfl) (rcs_int (fun _ _=>rfl) rcs_nil) (entl_new (use_own rfl) rfl (by first|exact Nat.le_of_eq mkl_len|(simp only [mkl_len,snoc_len]; omega)) (rcs_int (fun _ hj=>col_mkl (fun (t:Int)=>t) hj) rcs_nil) (entl_new (use_own rfl) rfl (Nat.le_of_eq rfl) (rcs_int (fun _ _=>rfl) rcs_nil) (entl_new (use_own rfl) rfl (Nat.le_of_eq mkl_len) (rcs_int (fun _ hj=>col_mkl (fun (t:Int)=>t) hj) rcs_nil) (entl_bor (use_lo rfl) rfl rfl (entl_bor (use_lo rfl) rfl rfl entl_nil))))))) (fun c7 h=>no_some h)) (fun c6 h=>no_some h)) (fun c5 h=>no_some h)) (fun c4 h=>no_some h)) (fun c3 h=>no_some h)) (fun c2 h=>no_some h)) (fun c1 h=>no_some h)) (fun c0 h=>bif_split h (fun c1 h=>bif_split h (fun c2 h=>bif_split h (fun c3 h=>bif_split h (fun c4 h=>bif_split h (fun c5 h=>bif_split h (fun c6 h=>bif_split h (fun c7 h=>ret_at hR _ h (fun n=>bif Nat.beq n 3 then 8 else bif Nat.beq n 4 then 5 else n) rfl rfl rfl (rn_tup ⟨(rn_own (use_own rfl) rfl rfl),(rn_own (use_own rfl) rfl rfl),trivial⟩) rfl (entl_new (use_own rfl) rfl (Nat.le_of_eq rfl) (rcs_int (fun _ _=>rfl) rcs_nil) (entl_new (use_own rfl) rfl (Nat.le_of_eq rfl) (rcs_int (fun _ _=>rfl) rcs_nil) (entl_bor (use_lo rfl) rfl rfl (entl_bor (use_lo rfl) rfl rfl entl_nil))))) (fun c7 h=>no_some h)) (fun c6 h=>no_some h)) (fun c5 h=>no_some h)) (fun c4 h=>no_some h)) (fun c3 h=>no_some h)) (fun c2 h=>no_some h)) (fun c1 h=>no_some h))
theorem a54 (ap np mp:Nat) (tp:NI) (aq nq mq:Nat) (tq:NI) {r:Rt54} (h:Goes ((q54 ap np mp tp aq nq mq tq)) ((p54 ap np mp tp aq nq mq tq)) r):CallR Tryz.prog 114 [.loose ⟨0,1,ap,0⟩ np,.loose ⟨1,1,aq,0⟩ nq] [[(0,(false,.cols mp [.int .i64 tp])),(1,(false,.cols mq [.int .i64 tq]))]] 2 ((V54 ap np mp tp aq nq mq tq) r) ((J54 ap np mp tp aq nq mq tq) r) 400∧ ∃ F,Tryz.prog.funcs[114]? =some F∧F.body.isSome=true∧(F.name== "runtime.NumGoroutine")=false:=by
  refine dec_calls (f:=114) (lo:=2) (hi:=400) Tryz.envOk Tryz.mixed xF2_ok ((I54 ap np mp tp aq nq mq tq)) ((V54 ap np mp tp aq nq mq tq)) (J54 ap np mp tp aq nq mq tq) (fn:=mkFn Tryz.f114) (ts:= [8,9,10,11,12]) (n:=400) rfl (by decide) (by simp) (names_of rfl) ?_ ?_ ?_ h
  · intro s; cases s<;>exact ⟨hd_ok _ _,by simp [I54],names_of rfl,Nat.le_of_ble_eq_true rfl⟩
  · intro Kst Kret x hS hR h
    exact Holds.eq (te54 cond Kst Kret ap np mp tp aq nq mq tq) (be54 ap np mp tp aq nq mq tq Kst Kret x hS hR h)
  · intro Kst Kret x hS hR s h
    cases s with
    |h0 x0 x1 x2 x3 x4=>exact Holds.eq (t54_0 cond Kst Kret ap np mp tp aq nq mq tq x0 x1 x2 x3 x4) (b54_0 ap np mp tp aq nq mq tq Kst Kret x hS hR x0 x1 x2 x3 x4 h)
noncomputable abbrev w54 {α:Type} (g:Nat→Nat→Nat→(Nat→Int)→Nat→Nat→Nat→(Nat→Int)→α) (x:(Nat×Nat×Nat×(Nat→Int)×Unit)×(Nat×Nat×Nat×(Nat→Int)×Unit)×Unit):α:=g x.1.1 x.1.2.1 x.1.2.2.1 x.1.2.2.2.1 x.2.1.1 x.2.1.2.1 x.2.1.2.2.1 x.2.1.2.2.2.1
noncomputable def k54:Con:=⟨114,[.one (.list [.int .i64]),.one (.list [.int .i64])],w54 (fun ap np mp tp aq nq mq tq=>decide ((ap+np≤mp∧aq+nq≤mq)∧(np≤900∧nq≤900)∧S.okG np (fun j=>tp (j+ap))=true∧S.okG nq (fun j=>tq (j+aq))=true∧0<nq)),w54 (fun ap np mp tp aq nq mq tq=>(V54 ap np mp tp aq nq mq tq) (S.grp ((S.val np (fun j=>tp (j+ap))) % (S.val nq (fun j=>tq (j+aq)))),S.grp ((S.val np (fun j=>tp (j+ap))) / (S.val nq (fun j=>tq (j+aq)))))),w54 (fun ap np mp tp aq nq mq tq=>(N54 ap np mp tp aq nq mq tq) (S.grp ((S.val np (fun j=>tp (j+ap))) % (S.val nq (fun j=>tq (j+aq)))),S.grp ((S.val np (fun j=>tp (j+ap))) / (S.val nq (fun j=>tq (j+aq)))))),fun _ _=> .dead⟩
theorem s54' (ap np mp:Nat) (tp:Nat→Int) (aq nq mq:Nat) (tq:Nat→Int) (hp:(ap+np≤mp∧aq+nq≤mq)∧(np≤900∧nq≤900)∧S.okG np (fun j=>tp (j+ap))=true∧S.okG nq (fun j=>tq (j+aq))=true∧0<nq) (D:List Int) (hD:(S.okG D.length fun j=>S.at' D j)=true) (s:Int) (hs:0<s∧s≤1000000) (hV:(S.val D.length fun j=>S.at' D j)=(S.val nq (fun j=>tq (j+aq)))*s) (hn:2≤D.length∧D.length≤901) (m:Nat) (hm:m≤950∧m+D.length≤1000): ∀ (k:Nat) (R Q:List Int),k≤m→R.length=m+D.length→Q.length=m→(∀ j,j<m+D.length→0≤S.at' R j∧S.at' R j<1000000)→(∀ j,j<m→0≤S.at' Q j∧S.at' Q j<1000000)→S.valF (fun j=>S.at' R j) (k) (m+D.length-k)<(S.val nq (fun j=>tq (j+aq)))*s→S.valF (fun j=>S.at' R j) (0) (m+D.length)+S.pw k*S.valF (fun j=>S.at' Q j) (k) (m-k)*((S.val nq (fun j=>tq (j+aq)))*s)=(S.val np (fun j=>tp (j+ap)))*s→Comes (q54 ap np mp tp aq nq mq tq) (.h0 ((k:Int)-1) [s] R D Q) (S.grp ((S.val np (fun j=>tp (j+ap))) % (S.val nq (fun j=>tq (j+aq)))),S.grp ((S.val np (fun j=>tp (j+ap))) / (S.val nq (fun j=>tq (j+aq))))):=by
  obtain ⟨⟨hp1,hp2⟩,⟨hp3,hp4⟩,g1,g2,hq0⟩:=hp
  have vp:=val_pos g2 hq0
  have vV:0<(S.val nq (fun j=>tq (j+aq)))*s:=Int.mul_pos vp hs.1
  intro k
  induction k with
  | zero=>
    intro R Q hk hR hQ hdR hdQ hX hE
    rw [Nat.sub_zero] at hX
    have x0:=valF_nn (t:=fun j=>S.at' R j) (k:=m+D.length) (i:=0) fun j _ h=>(hdR j (by omega)).1
    have e0:S.pw 0=1:=rfl
    rw [e0,Int.one_mul,Nat.sub_zero] at hE
    have hXs:=end_eq hE
    have eR:S.trim R=S.grp (S.valF (fun j=>S.at' R j) (0) (m+D.length)):=trim_val hR hdR
    have eQ:S.trim Q=S.grp (S.valF (fun j=>S.at' Q j) (0) (m)):=trim_val hQ hdQ
    generalize S.valF (fun j=>S.at' Q j) (0) (m)=W at*
    have rs:S.valF (fun j=>S.at' R j) (0) (m+D.length) / s=(S.val np (fun j=>tp (j+ap)))-W*(S.val nq (fun j=>tq (j+aq))):=by rw [hXs]; exact Int.mul_ediv_cancel _ (by omega)
    have r0:0≤(S.val np (fun j=>tp (j+ap)))-W*(S.val nq (fun j=>tq (j+aq))):=by rw [← rs]; exact Int.ediv_nonneg x0 (by omega)
    have r1:(S.val np (fun j=>tp (j+ap)))-W*(S.val nq (fun j=>tq (j+aq)))<(S.val nq (fun j=>tq (j+aq))):=by
      rw [hXs] at hX
      exact Int.lt_of_mul_lt_mul_right hX (by omega)
    have qd:(S.val np (fun j=>tp (j+ap))) / (S.val nq (fun j=>tq (j+aq)))=W:=div_uniq vp (by omega) (by rw [Int.add_mul,Int.one_mul]; omega)
    have qm:(S.val np (fun j=>tp (j+ap))) % (S.val nq (fun j=>tq (j+aq)))=(S.val np (fun j=>tp (j+ap)))-W*(S.val nq (fun j=>tq (j+aq))):=mod_uniq vp (by omega) (by rw [Int.add_mul,Int.one_mul]; omega)
    rw [qd,qm,← rs,← eQ]
    generalize hXX:S.valF (fun j=>S.at' R j) (0) (m+D.length)=X at*
    have c1:0+(S.grp X).length≤(S.grp X).length∧(S.grp X).length≤1000∧(S.okD (S.grp X).length fun j=>S.at' (S.grp X) j)=true∧0<s∧s≤1000000:=by
      refine ⟨by omega,?_,okG_D grp_ok,hs⟩
      have:=grp_le (v:=X) (n:=m+D.length) (by rw [← hXX]; exact valF_lt fun j _ h=>hdR j (by omega))
      omega
    have e1:S.trim (S.mkl R.length fun j=>S.at' R j)=S.grp X:=by rw [show (S.mkl R.length fun j=>S.at' R j)=R from mkl_at R]; exact eR
    have e2:S.trim (S.mkl Q.length fun j=>S.at' Q j)=S.trim Q:=by rw [show (S.mkl Q.length fun j=>S.at' Q j)=Q from mkl_at Q]
    have e3:S.at' [s] 0=s:=rfl
    rw [hR] at e1
    rw [hQ] at e2
    have e4:=val_grpL x0
    clear hE hXs rs qd qm hX
    apply Comes.of
    show Goes _ _ _
    rw [q54]
    simp only [e1,e2,e3,e4,decide_eq_true c1,hR,hQ]
    repeat' (first|with_reducible refine goes_if (fun h=> ?_) (fun h=> ?_)<;>(try simp only [SH,List.length_cons,List.length_nil] at h)|exact goes_none.mpr (by omega))
    all_goals first|(exfalso; omega)|exact goes_inr.mpr rfl
  | succ k ih=>
    intro R Q hk hR hQ hdR hdQ hX hE
    have vlt:(S.val nq (fun j=>tq (j+aq)))*s<S.pw D.length:=by rw [← hV]; exact val_lt (okG_D hD) (Nat.le_refl _)
    have hi:=valF_high (t:=fun j=>S.at' R j) (m:=D.length) (k:=m-(k+1)) (i:=k+1) (fun j h1 h2=>hdR j (by omega)) (by rw [show D.length+(m-(k+1))=m+D.length-(k+1) by omega]; omega)
    have r1:S.valF (fun j=>S.at' R j) (k+1) (m+D.length-(k+1))=S.valF (fun j=>S.at' R j) (k+1) (D.length):=by
      rw [show m+D.length-(k+1)=D.length+(m-(k+1)) by omega,valF_add,valF_zeros (i:=k+1+D.length) fun j h1 h2=>hi j h1 (by omega),Int.mul_zero,Int.add_zero]
    rw [r1] at hX
    have hdk:=hdR k (by omega)
    have u1:(S.val (D.length+1) fun j=>S.at' R (j+k))=S.at' R k+1000000*S.valF (fun j=>S.at' R j) (k+1) (D.length):=by
      unfold S.val
      rw [valF_shift (t:=fun j=>S.at' R j),Nat.zero_add]
      rfl
    have u0:0≤S.val (D.length+1) fun j=>S.at' R (j+k):=val_nn (okD_iff.mpr fun j hj=>hdR _ (by omega))
    have u2:(S.val (D.length+1) fun j=>S.at' R (j+k))<1000000*((S.val nq (fun j=>tq (j+aq)))*s):=by omega
    have dU:=Int.emod_add_mul_ediv (S.val (D.length+1) fun j=>S.at' R (j+k)) ((S.val nq (fun j=>tq (j+aq)))*s)
    have m0:=Int.emod_nonneg (S.val (D.length+1) fun j=>S.at' R (j+k)) (show (S.val nq (fun j=>tq (j+aq)))*s≠0 by omega)
    have m1:=Int.emod_lt_of_pos (S.val (D.length+1) fun j=>S.at' R (j+k)) vV
    have q0:0≤(S.val (D.length+1) fun j=>S.at' R (j+k)) / ((S.val nq (fun j=>tq (j+aq)))*s):=Int.ediv_nonneg u0 (by omega)
    have q1:(S.val (D.length+1) fun j=>S.at' R (j+k)) / ((S.val nq (fun j=>tq (j+aq)))*s)<1000000:=(Int.ediv_lt_iff_lt_mul vV).mpr u2
    have hz: ∀ j,k+(D.length+1)≤j→j<m+D.length→S.at' R j=0:=fun j h1 h2=>hi j (by omega) (by omega)
    have lo:S.valF (fun j=>S.at' R j) (0) (m+D.length)=S.valF (fun j=>S.at' R j) (0) (k)+S.pw k*S.val (D.length+1) fun j=>S.at' R (j+k):=by
      rw [show m+D.length=k+(D.length+1+(m-(k+1))) by omega,valF_add,Nat.zero_add,valF_add (a:=D.length+1),valF_zeros (i:=k+(D.length+1)) fun j h1 h2=>hz j h1 (by omega),Int.mul_zero,Int.add_zero]
      unfold S.val
      rw [valF_shift (t:=fun j=>S.at' R j),Nat.zero_add]
    generalize hU:(S.val (D.length+1) fun j=>S.at' R (j+k))=U at*
    generalize hqq:U / ((S.val nq (fun j=>tq (j+aq)))*s)=qd at*
    generalize hrr:U % ((S.val nq (fun j=>tq (j+aq)))*s)=rd at*
    have w1:S.valF (fun j=>S.at' (S.mkl (m+D.length) fun j=>S.winD (fun j=>S.at' R j) k (D.length+1) rd j) j) k (m+D.length-k)=rd:=by
      rw [show m+D.length-k=D.length+1+(m-(k+1)) by omega,valF_add,valF_zeros (i:=k+(D.length+1)) fun j h1 h2=>by rw [win_at (by omega),if_neg (by omega)]; exact hz j h1 (by omega),Int.mul_zero,Int.add_zero]
      have vs:=valF_shift (t:=fun j=>S.at' (S.mkl (m+D.length) fun j=>S.winD (fun j=>S.at' R j) k (D.length+1) rd j) j) (a:=k) (i:=0) (k:=D.length+1)
      rw [Nat.zero_add] at vs
      rw [← vs]
      rw [valF_congr (u:=fun j=>S.at' (S.grp rd) j) fun j h1 h2=>by rw [win_at (by omega),if_pos (by omega),show j+k-k=j by omega]]
      exact grp_valF m0 (by have:S.pw (D.length+1)=1000000*S.pw D.length:=rfl; omega)
    have w2:S.valF (fun j=>S.at' (S.mkl (m+D.length) fun j=>S.winD (fun j=>S.at' R j) k (D.length+1) rd j) j) 0 (m+D.length)=S.valF (fun j=>S.at' R j) (0) (k)+S.pw k*rd:=by
      have:=valF_add (t:=fun j=>S.at' (S.mkl (m+D.length) fun j=>S.winD (fun j=>S.at' R j) k (D.length+1) rd j) j) (a:=k) (b:=m+D.length-k) (i:=0)
      rw [show k+(m+D.length-k)=m+D.length by omega,Nat.zero_add,w1] at this
      rw [this]
      congr 1
      exact valF_congr fun j h1 h2=>by rw [win_at (by omega),if_neg (by omega)]
    have w3:S.valF (fun j=>S.at' (S.mkl m fun j=>bif Nat.beq j k then qd else S.at' Q j) j) k (m-k)=qd+1000000*S.valF (fun j=>S.at' Q j) (k+1) (m-(k+1)):=by
      rw [show m-k=(m-(k+1))+1 by omega]
      simp only [S.valF]
      rw [upd_at (by omega),if_pos rfl,valF_congr (u:=fun j=>S.at' Q j) fun j h1 h2=>by rw [upd_at (by omega),if_neg (by omega)]]
    have ih:=ih (S.mkl (m+D.length) fun j=>S.winD (fun j=>S.at' R j) k (D.length+1) rd j) (S.mkl m fun j=>bif Nat.beq j k then qd else S.at' Q j) (by omega) mkl_len mkl_len
      (fun j hj=>by
        rw [win_at hj]
        split
        · exact grp_at
        · exact hdR j hj)
      (upd_dig hQ hdQ ⟨q0,q1⟩) (by rw [w1]; exact m1) (by
        rw [w2,w3]
        refine step_eq (U:=U) (by rw [Int.mul_comm]; omega) ?_
        rw [← lo]
        exact hE)
    have e1:(((k+1:Nat):Int)-1)=k:=by omega
    have e2:((k:Int)+D.length+1).toNat-k=D.length+1:=by omega
    have c1:k+(D.length+1)≤m+D.length∧m+D.length≤1000000∧D.length+1=D.length+1∧2≤D.length∧D.length≤1000∧0+D.length≤D.length∧(S.okD (D.length+1) fun j=>S.at' R (j+k))=true∧(S.okG D.length fun j=>S.at' D j)=true∧U<1000000*((S.val nq (fun j=>tq (j+aq)))*s):=⟨by omega,by omega,rfl,hn.1,by omega,by omega,okD_iff.mpr fun j hj=>hdR _ (by omega),hD,u2⟩
    have c1':k+(((k:Int)+D.length+1).toNat-k)≤m+D.length∧m+D.length≤1000000∧((k:Int)+D.length+1).toNat-k=D.length+1∧2≤D.length∧D.length≤1000∧0+D.length≤D.length∧(S.okD (((k:Int)+D.length+1).toNat-k) fun j=>S.at' R (j+k))=true∧(S.okG D.length fun j=>S.at' D j)=true∧(S.val (((k:Int)+D.length+1).toNat-k) fun j=>S.at' R (j+k))<1000000*S.val D.length fun j=>S.at' D j:=by
      rw [e2,hU,hV]; exact c1
    rw [e1]
    clear hE w1 w2 w3 lo dU hX r1 u1
    apply Comes.of
    show Goes _ _ _
    rw [q54]
    simp only [Int.toNat_natCast,hR,hQ,decide_eq_true c1',cond_true]
    simp only [e2,hU,hV,hqq,hrr,mkl_mkl]
    repeat' (first|with_reducible refine goes_if (fun h=> ?_) (fun h=> ?_)<;>(try simp only [SH] at h)|exact goes_none.mpr (by omega))
    all_goals first|(exfalso; omega)|exact ih
theorem at_zero {L:List Int} {j:Nat}:S.at' (L++ [0]) j=S.at' L j:=by
  unfold S.at'
  by_cases h:j<L.length
  · simp [List.getElem?_append_left h]
  · by_cases h2:j=L.length
    · subst h2; simp
    · simp [List.getElem?_eq_none (show L.length≤j by omega),List.getElem?_eq_none (show (L++ [(0:Int)]).length≤j by simp; omega)]
theorem at_end {L:List Int}:S.at' L L.length=0:=by simp [S.at']
theorem lit_at {s:Int} {j:Nat} (h:j<1):S.lit [s] 0 j=s:=by
  obtain rfl:j=0:=by omega
  rfl
theorem mkl_lit {n:Nat} {f:Nat→Int} (h:n=1):S.val n f=f 0:=by
  subst h
  simp only [S.val,S.valF]
  omega
theorem s54 (ap np mp:Nat) (tp:Nat→Int) (aq nq mq:Nat) (tq:Nat→Int) (hp:(ap+np≤mp∧aq+nq≤mq)∧(np≤900∧nq≤900)∧S.okG np (fun j=>tp (j+ap))=true∧S.okG nq (fun j=>tq (j+aq))=true∧0<nq):Goes ((q54 ap np mp tp aq nq mq tq)) ((p54 ap np mp tp aq nq mq tq)) ((S.grp ((S.val np (fun j=>tp (j+ap))) % (S.val nq (fun j=>tq (j+aq)))),S.grp ((S.val np (fun j=>tp (j+ap))) / (S.val nq (fun j=>tq (j+aq)))))):=by
  have hp':=hp
  obtain ⟨⟨hp1,hp2⟩,⟨hp3,hp4⟩,g1,g2,hq0⟩:=hp
  have up:=val_nn (okG_D g1)
  have vp:=val_pos g2 hq0
  have dP:=(okG_iff.mp g1).1
  have dQ:=(okG_iff.mp g2).1
  have c1:ap+np≤mp∧np≤1000000∧aq+nq≤mq∧nq≤1000000∧S.okG np (fun j=>tp (j+ap))=true∧S.okG nq (fun j=>tq (j+aq))=true:=⟨hp1,by omega,hp2,by omega,g1,g2⟩
  have c2:ap+np≤mp∧np≤1000000:=⟨hp1,by omega⟩
  have hC:S.cmpS (S.val np (fun j=>tp (j+ap))) (S.val nq (fun j=>tq (j+aq)))<0↔(S.val np (fun j=>tp (j+ap)))<(S.val nq (fun j=>tq (j+aq))):=by
    unfold S.cmpS
    (repeat' split)<;>omega
  by_cases h1:(S.val np (fun j=>tp (j+ap)))<(S.val nq (fun j=>tq (j+aq)))
  · rw [Int.emod_eq_of_lt up h1,Int.ediv_eq_zero_of_lt up h1,grp_zero,← ok_grp g1]
    unfold p54
    simp only [decide_eq_true c1,decide_eq_true (hC.mpr h1),decide_eq_true c2,cond_true]
    exact goes_inr.mpr rfl
  · have h1': ¬ S.cmpS (S.val np (fun j=>tp (j+ap))) (S.val nq (fun j=>tq (j+aq)))<0:=fun h=>h1 (hC.mp h)
    by_cases hn:nq=1
    · subst hn
      have hv:S.val 1 (fun j=>tq (j+aq))=tq (0+aq):=mkl_lit rfl
      have q0:=dQ 0 (by omega)
      (try dsimp only at q0)
      rw [hv] at vp ⊢
      have m0:=Int.emod_nonneg (S.val np (fun j=>tp (j+ap))) (show tq (0+aq)≠0 by omega)
      have m1:=Int.emod_lt_of_pos (S.val np (fun j=>tp (j+ap))) vp
      have c3:ap+np≤mp∧np≤1000∧S.okD np (fun j=>tp (j+ap))=true∧0<tq (0+aq)∧tq (0+aq)≤1000000:=⟨hp1,by omega,okG_D g1,vp,by omega⟩
      have hw:IntKind.u64.wrap ((S.val np (fun j=>tp (j+ap))) % tq (0+aq))=(S.val np (fun j=>tp (j+ap))) % tq (0+aq):=by rw [IntKind.wrap_u64]; omega
      unfold p54
      simp only [decide_eq_true c1,decide_eq_false h1',decide_eq_true c2,decide_eq_true c3,hw,cond_true,cond_false]
      repeat' (first|with_reducible refine goes_if (fun h=> ?_) (fun h=> ?_)<;>(try simp only [SH] at h)|exact goes_none.mpr (by omega))
      all_goals first|(exfalso; omega)|exact goes_inr.mpr rfl
    · have l1:=dQ (nq-1) (by omega)
      have e1:((nq:Int)-1).toNat=nq-1:=by omega
      (try dsimp only at l1)
      have ts:=tdiv_nn (X:=1000000) (Y:=tq (nq-1+aq)+1) (by omega) (by omega)
      have tf:0<Int.tdiv 1000000 (tq (nq-1+aq)+1):=by
        rcases Int.lt_or_eq_of_le ts.1 with h|h
        · exact h
        · rw [← h] at ts; omega
      obtain ⟨ts0,-,ts2⟩:=ts
      have l2:1≤tq (nq-1+aq):=by
        have:=(okG_iff.mp g2).2
        rcases this with h|h
        · omega
        · (try dsimp only at h); omega
      have ts5:Int.tdiv 1000000 (tq (nq-1+aq)+1)≤500000:=by
        rw [Int.tdiv_eq_ediv_of_nonneg (by omega)]
        have:=(Int.ediv_lt_iff_lt_mul (a:=1000000) (b:=500001) (c:=tq (nq-1+aq)+1) (by omega)).mpr (by omega)
        omega
      generalize hs:Int.tdiv 1000000 (tq (nq-1+aq)+1)=s at*
      have hv1:(S.val 1 fun j=>S.lit [s] 0 j)=s:=mkl_lit rfl
      have hkS:(S.okG 1 fun j=>S.lit [s] 0 j)=true:=okG_iff.mpr ⟨fun j hj=>by rw [lit_at hj]; omega,.inr (show s≠0 by omega)⟩
      have vq1:S.pw (nq-1)≤(S.val nq (fun j=>tq (j+aq))):=by
        have h:=valF_snoc (t:=(fun j=>tq (j+aq))) (i:=0) (k:=nq-1)
        rw [show nq-1+1=nq by omega,Nat.zero_add] at h
        have h':(S.val nq (fun j=>tq (j+aq)))=S.valF (fun j=>tq (j+aq)) 0 (nq-1)+S.pw (nq-1)*tq (nq-1+aq):=h
        have n0:=valF_nn (t:=(fun j=>tq (j+aq))) (k:=nq-1) (i:=0) fun j _ h=>(dQ j (by omega)).1
        have:S.pw (nq-1)*1≤S.pw (nq-1)*tq (nq-1+aq):=Int.mul_le_mul_of_nonneg_left (by omega) (by have:=pw_pos (k:=nq-1); omega)
        omega
      have vs1:(S.val nq (fun j=>tq (j+aq)))*1≤(S.val nq (fun j=>tq (j+aq)))*s:=Int.mul_le_mul_of_nonneg_left (by omega) (by omega)
      have us1:(S.val nq (fun j=>tq (j+aq)))*s≤(S.val np (fun j=>tp (j+ap)))*s:=Int.mul_le_mul_of_nonneg_right (by omega) (by omega)
      have pw1:S.pw 1=1000000:=rfl
      have uB:=(mul_lt (a:=np) (b:=1) ⟨up,val_lt (okG_D g1) (Nat.le_refl np)⟩ ⟨show 0≤s by omega,by omega⟩).2
      have vB:=(mul_lt (a:=nq) (b:=1) ⟨by omega,val_lt (okG_D g2) (Nat.le_refl nq)⟩ ⟨show 0≤s by omega,by omega⟩).2
      have lu:=grp_le uB
      have lv:=grp_le vB
      have lv2:=len_ge (k:=nq-1) (v:=(S.val nq (fun j=>tq (j+aq)))*s) (by omega)
      have hV:=val_grpL (v:=(S.val nq (fun j=>tq (j+aq)))*s) (by omega)
      have hU:S.valL (S.grp ((S.val np (fun j=>tp (j+ap)))*s))=(S.val np (fun j=>tp (j+ap)))*s:=val_grp (by omega)
      have lm:(S.grp ((S.val nq (fun j=>tq (j+aq)))*s)).length≤(S.grp ((S.val np (fun j=>tp (j+ap)))*s)).length:=by
        refine grp_le (Int.lt_of_le_of_lt us1 ?_)
        have:=val_lt (okG_D (grp_ok (v:=(S.val np (fun j=>tp (j+ap)))*s))) (Nat.le_refl _)
        rw [val_at,hU] at this
        exact this
      have lp:S.pw ((S.grp ((S.val nq (fun j=>tq (j+aq)))*s)).length-1)≤(S.val nq (fun j=>tq (j+aq)))*s:=by
        refine Int.not_lt.mp fun h=> ?_
        have:=grp_le h
        omega
      have hDk:(S.okG (S.grp ((S.val nq (fun j=>tq (j+aq)))*s)).length fun j=>S.at' (S.grp ((S.val nq (fun j=>tq (j+aq)))*s)) j)=true:=grp_ok
      obtain ⟨m,hmm⟩: ∃ m,m=(S.grp ((S.val np (fun j=>tp (j+ap)))*s)).length+1-(S.grp ((S.val nq (fun j=>tq (j+aq)))*s)).length:=⟨_,rfl⟩
      have hRl:(S.snoc (S.grp ((S.val np (fun j=>tp (j+ap)))*s)) 0).length=m+(S.grp ((S.val nq (fun j=>tq (j+aq)))*s)).length:=by rw [snoc_len]; omega
      have hRa: ∀ j,S.at' (S.snoc (S.grp ((S.val np (fun j=>tp (j+ap)))*s)) 0) j=S.at' (S.grp ((S.val np (fun j=>tp (j+ap)))*s)) j:=fun j=>by rw [snoc_eq]; exact at_zero
      have hdR: ∀ j,j<m+(S.grp ((S.val nq (fun j=>tq (j+aq)))*s)).length→0≤S.at' (S.snoc (S.grp ((S.val np (fun j=>tp (j+ap)))*s)) 0) j∧S.at' (S.snoc (S.grp ((S.val np (fun j=>tp (j+ap)))*s)) 0) j<1000000:=fun j _=>by rw [hRa]; exact grp_at
      have hRv:S.valF (fun j=>S.at' (S.snoc (S.grp ((S.val np (fun j=>tp (j+ap)))*s)) 0) j) 0 (m+(S.grp ((S.val nq (fun j=>tq (j+aq)))*s)).length)=(S.val np (fun j=>tp (j+ap)))*s:=by
        rw [show (fun j=>S.at' (S.snoc (S.grp ((S.val np (fun j=>tp (j+ap)))*s)) 0) j)=fun j=>S.at' (S.grp ((S.val np (fun j=>tp (j+ap)))*s)) j from funext hRa]
        exact grp_valF (by omega) (by have:=val_lt (okG_D (grp_ok (v:=(S.val np (fun j=>tp (j+ap)))*s))) (show (S.grp ((S.val np (fun j=>tp (j+ap)))*s)).length≤m+(S.grp ((S.val nq (fun j=>tq (j+aq)))*s)).length by omega); rw [val_at,hU] at this; exact this)
      have hRt:S.valF (fun j=>S.at' (S.snoc (S.grp ((S.val np (fun j=>tp (j+ap)))*s)) 0) j) m (m+(S.grp ((S.val nq (fun j=>tq (j+aq)))*s)).length-m)<(S.val nq (fun j=>tq (j+aq)))*s:=by
        rw [show (fun j=>S.at' (S.snoc (S.grp ((S.val np (fun j=>tp (j+ap)))*s)) 0) j)=fun j=>S.at' (S.grp ((S.val np (fun j=>tp (j+ap)))*s)) j from funext hRa]
        rw [show m+(S.grp ((S.val nq (fun j=>tq (j+aq)))*s)).length-m=(S.grp ((S.val nq (fun j=>tq (j+aq)))*s)).length-1+1 by omega,valF_snoc,show m+((S.grp ((S.val nq (fun j=>tq (j+aq)))*s)).length-1)=(S.grp ((S.val np (fun j=>tp (j+ap)))*s)).length by omega,at_end,Int.mul_zero,Int.add_zero]
        exact Int.lt_of_lt_of_le (valF_lt fun j _ _=>grp_at) lp
      have hz: ∀ j,S.at' (S.mkl m fun _=>(0:Int)) j=0:=fun j=>by
        by_cases h:j<m
        · exact at_mkl h
        · simp [S.at',List.getElem?_eq_none (show (S.mkl m fun _=>(0:Int)).length≤j by rw [mkl_len]; omega)]
      have hm:=s54' ap np mp tp aq nq mq tq hp' (S.grp ((S.val nq (fun j=>tq (j+aq)))*s)) hDk s ⟨tf,by omega⟩ hV ⟨by omega,by omega⟩ m ⟨by omega,by omega⟩ m (S.snoc (S.grp ((S.val np (fun j=>tp (j+ap)))*s)) 0) (S.mkl m fun _=>0) (Nat.le_refl _) hRl mkl_len hdR (fun j _=>by rw [hz]; omega) hRt (by rw [hRv,Nat.sub_self]; simp only [S.valF]; rw [Int.mul_zero,Int.zero_mul,Int.add_zero])
      have c4:(ap+np≤mp∧1≤1)∧(np≤1000∧1≤1000)∧S.okG np (fun j=>tp (j+ap))=true∧(S.okG 1 fun j=>S.lit [s] 0 j)=true:=⟨⟨hp1,by omega⟩,⟨by omega,by omega⟩,g1,hkS⟩
      have c5:(aq+nq≤mq∧1≤1)∧(nq≤1000∧1≤1000)∧S.okG nq (fun j=>tq (j+aq))=true∧(S.okG 1 fun j=>S.lit [s] 0 j)=true:=⟨⟨hp2,by omega⟩,⟨by omega,by omega⟩,g2,hkS⟩
      have e5:(((S.grp ((S.val np (fun j=>tp (j+ap)))*s)).length+1:Nat):Int)-((S.grp ((S.val nq (fun j=>tq (j+aq)))*s)).length:Int)=(m:Int):=by omega
      clear uB vB hRl hRa hdR hRv hRt hU hV lp lm
      unfold p54
      simp only [decide_eq_true c1,decide_eq_false h1',cond_true,cond_false,e1,hs,hv1,decide_eq_true c4,decide_eq_true c5,e5,Int.toNat_natCast]
      repeat' (first|with_reducible refine goes_if (fun h=> ?_) (fun h=> ?_)<;>(try simp only [SH] at h)|exact goes_none.mpr (by omega))
      all_goals first|(exfalso; omega)|exact hm
end Go.Ev
