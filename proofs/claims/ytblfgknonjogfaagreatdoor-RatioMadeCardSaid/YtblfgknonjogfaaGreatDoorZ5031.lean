/-
  The parts that the statement needs, 1 of 5.
-/
import Derived.Test.YtblfgknonjogfaaGreatDoorZ503R3
import Derived.LaidMore
import Derived.Laws.StandIn
import Derived.Lay
import Derived.SevenTiedAt
import Derived.Test.YtblfgknonjogfaaGreatDoorCards
import Derived.Test.YtblfgknonjogfaaGreatDoorTie
import Derived.WalkKit
import Derived.WalkLawsBesides
import Derived.WalkSpells
namespace Go.Ev
open Go.Proofs
open Go.RowKit
set_option linter.unusedVariables false
set_option linter.unusedSimpArgs false
set_option maxRecDepth 100000
theorem SH:type_of% (And.intro @lim64 (And.intro @imp_false (And.intro @decide_eq_true_eq (And.intro @decide_eq_false_iff_not (And.intro @Int.toNat_natCast (And.intro @toNat_pred (And.intro @toNat_succ (And.intro @Option.getD_some.{0} (And.intro @Option.getD_none.{0} (And.intro @Bool.not_eq_true' (And.intro @Bool.not_eq_false' (And.intro @Bool.and_eq_true (And.intro @Bool.or_eq_true (And.intro @Bool.and_eq_false_iff (And.intro @Bool.or_eq_false_iff (And.intro @bne_iff_ne.{0} (And.intro @beq_iff_eq.{0} (And.intro @bne_eq_false_iff_eq.{0} (And.intro @beq_eq_false_iff_ne.{0} (And.intro @ne_eq.{1} (And.intro @not_and (And.intro @Int.not_le (And.intro @Int.not_lt (And.intro @ge_iff_le.{0} (And.intro @gt_iff_lt.{0} (And.intro @Nat.not_lt (And.intro @Nat.not_le (And.intro @Bool.not_eq_true (And.intro @Bool.not_eq_false (And.intro @Bool.true_eq_false (And.intro @Bool.false_eq_true (And.intro @not_false_eq_true @not_true_eq_false)))))))))))))))))))))))))))))))):=
  (And.intro @lim64 (And.intro @imp_false (And.intro @decide_eq_true_eq (And.intro @decide_eq_false_iff_not (And.intro @Int.toNat_natCast (And.intro @toNat_pred (And.intro @toNat_succ (And.intro @Option.getD_some.{0} (And.intro @Option.getD_none.{0} (And.intro @Bool.not_eq_true' (And.intro @Bool.not_eq_false' (And.intro @Bool.and_eq_true (And.intro @Bool.or_eq_true (And.intro @Bool.and_eq_false_iff (And.intro @Bool.or_eq_false_iff (And.intro @bne_iff_ne.{0} (And.intro @beq_iff_eq.{0} (And.intro @bne_eq_false_iff_eq.{0} (And.intro @beq_eq_false_iff_ne.{0} (And.intro @ne_eq.{1} (And.intro @not_and (And.intro @Int.not_le (And.intro @Int.not_lt (And.intro @ge_iff_le.{0} (And.intro @gt_iff_lt.{0} (And.intro @Nat.not_lt (And.intro @Nat.not_le (And.intro @Bool.not_eq_true (And.intro @Bool.not_eq_false (And.intro @Bool.true_eq_false (And.intro @Bool.false_eq_true (And.intro @not_false_eq_true @not_true_eq_false))))))))))))))))))))))))))))))))
abbrev TT:=Bool→Prop→Prop→Prop
abbrev NI:=Nat→Int
namespace S
def any (p:Nat→Bool) (n:Nat):Bool:=(List.range n).any p
end S
theorem nbeq_no {i j:Nat} (h:j≠i):Nat.beq j i=false:=by
  cases hb:Nat.beq j i
  · rfl
  · exact absurd (Nat.eq_of_beq_eq_true hb) h
namespace S
def all (p:Nat→Bool) (n:Nat):Bool:=(List.range n).all p
end S
theorem all_iff {p:Nat→Bool} {n:Nat}:S.all p n=true↔ ∀ j,j<n→p j=true:=by simp [S.all]
namespace S
def valL:List Int→Int
  | []=>0
  |x::r=>x+1000000*valL r
def valF (t:Nat→Int):Nat→Nat→Int
  |_,0=>0
  |i,k+1=>t i+1000000*valF t (i+1) k
def val (n:Nat) (t:Nat→Int):Int:=valF t 0 n
def trim:List Int→List Int
  | []=> []
  |x::r=>match trim r with
    | []=>if x=0 then [] else [x]
    |y::s=>x::y::s
def grpF:Nat→Int→List Int
  |0,_=> []
  |k+1,v=>if v≤0 then [] else (v % 1000000)::grpF k (v / 1000000)
def grpI (v:Int):List Int:=grpF v.toNat v
theorem grp_ex: ∃ f:Int→List Int,f=grpI:=⟨grpI,rfl⟩
noncomputable def grp:Int→List Int:=Classical.choose grp_ex
theorem grp_def:grp=grpI:=Classical.choose_spec grp_ex
def digB (x:Int):Bool:=decide (0≤x∧x<1000000)
def okG (n:Nat) (t:Nat→Int):Bool:=all (fun j=>digB (t j)) n&&(decide (n=0)||decide (t (n-1)≠0))
def okD (n:Nat) (t:Nat→Int):Bool:=all (fun j=>digB (t j)) n
end S
theorem dig_iff {x:Int}:S.digB x=true↔0≤x∧x<1000000:=decide_eq_true_iff
theorem valL_mk {t:Nat→Int}: ∀ {k i:Nat},S.valL ((List.range' i k).map t)=S.valF t i k
  |0,_=>rfl
  |k+1,i=>by
    simp only [List.range'_succ,List.map_cons,S.valL,S.valF]
    rw [valL_mk]
theorem valL_mkl {n:Nat} {t:Nat→Int}:S.valL (S.mkl n t)=S.val n t:=by
  unfold S.mkl S.val
  rw [← valL_mk (t:=t) (k:=n) (i:=0),List.range_eq_range']
theorem valF_congr {t u:Nat→Int}: ∀ {k i:Nat},(∀ j,i≤j→j<i+k→t j=u j)→S.valF t i k=S.valF u i k
  |0,_,_=>rfl
  |k+1,i,h=>by
    simp only [S.valF]
    rw [h i (Nat.le_refl _) (by omega),valF_congr fun j h1 h2=>h j (by omega) (by omega)]
theorem val_at {L:List Int}:S.val L.length (S.at' L)=S.valL L:=by rw [← valL_mkl,mkl_at]
theorem valF_nn {t:Nat→Int}: ∀ {k i:Nat},(∀ j,i≤j→j<i+k→0≤t j)→0≤S.valF t i k
  |0,_,_=>Int.le_refl _
  |k+1,i,h=>by
    have h0:=h i (Nat.le_refl _) (by omega)
    have h1:=valF_nn (t:=t) (k:=k) (i:=i+1) fun j h1 h2=>h j (by omega) (by omega)
    simp only [S.valF]
    omega
theorem valL_nn: ∀ {L:List Int},(∀ x ∈ L,0≤x∧x<1000000)→0≤S.valL L
  | [],_=>Int.le_refl _
  |x::r,h=>by
    have h0:=h x (by simp)
    have h1:=valL_nn (L:=r) fun y hy=>h y (by simp [hy])
    simp only [S.valL]
    omega
theorem grpF_fuel: ∀ {k m:Nat} {v:Int},v.toNat≤k→v.toNat≤m→S.grpF k v=S.grpF m v
  |0,0,_,_,_=>rfl
  |0,m+1,v,h1,_=>by simp only [S.grpF]; rw [if_pos (by omega)]
  |k+1,0,v,_,h2=>by simp only [S.grpF]; rw [if_pos (by omega)]
  |k+1,m+1,v,h1,h2=>by
    simp only [S.grpF]
    split
    · rfl
    · rw [grpF_fuel (k:=k) (m:=m) (by omega) (by omega)]
theorem grp_zero:S.grp 0= []:=by rw [S.grp_def]; rfl
theorem grp_neg {v:Int} (h:v≤0):S.grp v= []:=by
  rw [S.grp_def]
  unfold S.grpI
  rw [show v.toNat=0 by omega]
  rfl
theorem grp_pos {v:Int} (h:0<v):S.grp v=(v % 1000000)::S.grp (v / 1000000):=by
  rw [S.grp_def]
  unfold S.grpI
  rw [show v.toNat=(v.toNat-1)+1 by omega]
  simp only [S.grpF]
  rw [if_neg (by omega),grpF_fuel (k:=v.toNat-1) (m:=(v / 1000000).toNat) (by omega) (Nat.le_refl _)]
theorem grp_step {x v:Int} (hx:0≤x∧x<1000000) (hv:0≤v) (h:x≠0∨0<v):S.grp (x+1000000*v)=x::S.grp v:=by
  rw [grp_pos (by omega),show (x+1000000*v) % 1000000=x by omega,show (x+1000000*v) / 1000000=v by omega]
theorem trim_grp: ∀ {L:List Int},(∀ x ∈ L,0≤x∧x<1000000)→S.trim L=S.grp (S.valL L)
  | [],_=>grp_zero.symm
  | x ::r,h=>by
    have h0:=h x (by simp)
    have hr: ∀ y ∈ r,0≤y∧y<1000000:=fun y hy=>h y (by simp [hy])
    have h1:=valL_nn hr
    have ih:=trim_grp hr
    simp only [S.trim,S.valL]
    rw [ih]
    rcases Int.lt_or_eq_of_le h1 with h2|h2
    · rw [grp_step h0 h1 (.inr h2),grp_pos h2]
    · rw [← h2,grp_zero]
      by_cases hx:x=0
      · subst hx; rw [show (0:Int)+1000000*0=0 from rfl,grp_zero]; rfl
      · simp only [if_neg hx]
        rw [grp_step h0 (Int.le_refl _) (.inl hx),grp_zero]
theorem val_grp {v:Int} (h:0≤v):S.valL (S.grp v)=v:=by
  have key: ∀ (n:Nat) (v:Int),0≤v→v.toNat≤n→S.valL (S.grp v)=v:=by
    intro n
    induction n with
    |zero=>intro v h0 h1; rw [grp_neg (by omega)]; simp only [S.valL]; omega
    | succ n ih=>
      intro v h0 h1
      rcases Int.lt_or_eq_of_le h0 with h2|h2
      · rw [grp_pos h2]
        simp only [S.valL]
        rw [ih _ (by omega) (by omega)]
        omega
      · rw [← h2,grp_zero]; rfl
  exact key _ v h (Nat.le_refl _)
theorem grp_dig {v:Int}: ∀ x ∈ S.grp v,0≤x∧x<1000000:=by
  have key: ∀ (n:Nat) (v:Int),v.toNat≤n→ ∀ x ∈ S.grp v,0≤x∧x<1000000:=by
    intro n
    induction n with
    |zero=>intro v h1 x hx; rw [grp_neg (by omega)] at hx; cases hx
    | succ n ih=>
      intro v h1 x hx
      by_cases h2:0<v
      · rw [grp_pos h2] at hx
        rcases List.mem_cons.mp hx with rfl|hx
        · omega
        · exact ih _ (by omega) x hx
      · rw [grp_neg (by omega)] at hx; cases hx
  exact key _ v (Nat.le_refl _)
theorem trim_snoc0: ∀ {L:List Int},S.trim (L++ [0])=S.trim L
  | []=>rfl
  |x::r=>by simp only [List.cons_append,S.trim]; rw [trim_snoc0]
theorem trim_snoc: ∀ {L:List Int} {x:Int},x≠0→S.trim (L++ [x])=L++ [x]
  | [],x,h=>by simp [S.trim,h]
  |y::r,x,h=>by
    simp only [List.cons_append,S.trim]
    rw [trim_snoc h]
    cases hr:r++ [x] with
    |nil=>simp at hr
    |cons a c=>rfl
theorem snoc_eq {L:List Int} {x:Int}:S.snoc L x=L++ [x]:=by simp [S.snoc]
theorem okG_iff {n:Nat} {t:Nat→Int}:S.okG n t=true↔(∀ j,j<n→0≤t j∧t j<1000000)∧(n=0∨t (n-1)≠0):=by
  unfold S.okG
  rw [Bool.and_eq_true,Bool.or_eq_true,all_iff,decide_eq_true_eq,decide_eq_true_eq]
  simp only [dig_iff]
theorem okD_iff {n:Nat} {t:Nat→Int}:S.okD n t=true↔ ∀ j,j<n→0≤t j∧t j<1000000:=by
  unfold S.okD
  rw [all_iff]
  simp only [dig_iff]
theorem okG_D {n:Nat} {t:Nat→Int} (h:S.okG n t=true):S.okD n t=true:=okD_iff.mpr (okG_iff.mp h).1
theorem mem_mkl {n:Nat} {t:Nat→Int} {x:Int} (h:x ∈ S.mkl n t): ∃ j,j<n∧x=t j:=by
  unfold S.mkl at h
  simp only [List.mem_map,List.mem_range] at h
  obtain ⟨j,h1,h2⟩:=h
  exact ⟨j,h1,h2.symm⟩
theorem ok_grp {n:Nat} {t:Nat→Int} (h:S.okG n t=true):S.mkl n t=S.grp (S.val n t):=by
  obtain ⟨h1,h2⟩:=okG_iff.mp h
  rw [← valL_mkl,← trim_grp fun x hx=>by obtain ⟨j,hj,rfl⟩:=mem_mkl hx; exact h1 j hj]
  rcases h2 with h2|h2
  · subst h2; rfl
  · cases n with
    |zero=>rfl
    |succ n=>rw [mkl_succ,snoc_eq,trim_snoc (by simpa using h2)]
theorem trim_mkl {n:Nat} {t:Nat→Int} (h:S.okD n t=true):S.trim (S.mkl n t)=S.grp (S.val n t):=by
  rw [← valL_mkl]
  exact trim_grp fun x hx=>by obtain ⟨j,hj,rfl⟩:=mem_mkl hx; exact okD_iff.mp h j hj
theorem val_nn {n:Nat} {t:Nat→Int} (h:S.okD n t=true):0≤S.val n t:=valF_nn fun j _ hj=>(okD_iff.mp h j (by omega)).1
theorem val_pos {n:Nat} {t:Nat→Int} (h:S.okG n t=true) (hn:0<n):0<S.val n t:=by
  rcases Int.lt_or_eq_of_le (val_nn (okG_D h)) with h1|h1
  · exact h1
  · have:=ok_grp h
    rw [← h1,grp_zero] at this
    have h2:=congrArg List.length this
    rw [mkl_len] at h2
    exact absurd h2 (by simp; omega)
theorem len_pos {v:Int} (h:0<v):0<(S.grp v).length:=by rw [grp_pos h]; simp
theorem grp_ok {v:Int}:S.okG (S.grp v).length (S.at' (S.grp v))=true:=by
  rw [okG_iff]
  refine ⟨fun j hj=>grp_dig _ (by rw [at_lt hj]; exact List.getElem_mem _),?_⟩
  by_cases hv:0<v
  · right
    have key: ∀ (n:Nat) (v:Int),0<v→v.toNat≤n→S.at' (S.grp v) ((S.grp v).length-1)≠0:=by
      intro n
      induction n with
      |zero=>intro v h0 h1; omega
      | succ n ih=>
        intro v h0 h1
        rw [grp_pos h0]
        by_cases h2:0<v / 1000000
        · have h3:=ih _ h2 (by omega)
          have h4:=len_pos h2
          have e:S.at' (v % 1000000::S.grp (v / 1000000)) ((v % 1000000::S.grp (v / 1000000)).length-1)=S.at' (S.grp (v / 1000000)) ((S.grp (v / 1000000)).length-1):=by
            simp only [List.length_cons,Nat.add_sub_cancel]
            rw [at_lt (by simp),at_lt (by omega)]
            rw [List.getElem_cons]
            rw [dif_neg (by omega)]
          rw [e]
          exact h3
        · rw [grp_neg (by omega)]
          simp [S.at']
          omega
    exact key _ v hv (Nat.le_refl _)
  · left
    rw [grp_neg (by omega)]
    rfl
namespace S
def trimN (n:Nat) (t:Nat→Int):Nat:=(trim (mkl n t)).length
def cmpS (a b:Int):Int:=if a<b then-1 else if a>b then 1 else 0
end S
theorem trim_take: ∀ {L:List Int},(S.trim L).length≤L.length∧S.trim L=L.take (S.trim L).length
  | []=>⟨Nat.le_refl _,rfl⟩
  | x ::r=>by
    obtain ⟨h1,h2⟩:=trim_take (L:=r)
    simp only [S.trim]
    cases hr:S.trim r with
    |nil=>
      simp only
      split
      · exact ⟨Nat.zero_le _,rfl⟩
      · exact ⟨by simp,by simp⟩
    |cons a c=>
      simp only
      rw [hr] at h1 h2
      refine ⟨by simpa using h1,?_⟩
      simp only [List.length_cons,List.take_succ_cons]
      rw [List.length_cons] at h2
      rw [← h2]
theorem trim_mk {n:Nat} {t:Nat→Int}:S.mkl (S.trimN n t) t=S.trim (S.mkl n t):=by
  have h:=(trim_take (L:=S.mkl n t)).2
  have hl:=(trim_take (L:=S.mkl n t)).1
  rw [mkl_len] at hl
  rw [h]
  unfold S.trimN
  generalize (S.trim (S.mkl n t)).length=k at*
  unfold S.mkl
  rw [← List.map_take,List.take_range]
  rw [Nat.min_eq_left hl]
theorem trim_mkl0 {n:Nat} {t:Nat→Int} (h:t n=0):S.trim (S.mkl (n+1) t)=S.trim (S.mkl n t):=by rw [mkl_succ,snoc_eq,h,trim_snoc0]
theorem trim_mkl1 {n:Nat} {t:Nat→Int} (h:t n≠0):S.trim (S.mkl (n+1) t)=S.mkl (n+1) t:=by rw [mkl_succ,snoc_eq,trim_snoc h]
theorem trim_at {L:List Int}:S.trim (S.mkl L.length (S.at' L))=S.trim L:=by rw [mkl_at]
theorem valF_short {t u:Nat→Int}: ∀ {m k i:Nat},m<k→(∀ j,i≤j→j<i+m→0≤t j∧t j<1000000)→(∀ j,i≤j→j<i+k→0≤u j∧u j<1000000)→u (i+k-1)≠0→S.valF t i m<S.valF u i k
  |m,0,i,h,_,_,_=>by omega
  | 0,k+1,i,_,_,hu,hl=>by
    simp only [S.valF]
    have h0:=hu i (Nat.le_refl _) (by omega)
    have h1:=valF_nn (t:=u) (k:=k) (i:=i+1) fun j h1 h2=>(hu j (by omega) (by omega)).1
    cases k with
    |zero=>simp only [Nat.zero_add,Nat.add_sub_cancel] at hl; omega
    |succ k=>
      have ih:=valF_short (t:=u) (u:=u) (m:=0) (k:=k+1) (i:=i+1) (by omega) (fun j h1 h2=>by omega) (fun j h1 h2=>hu j (by omega) (by omega)) (by rw [show i+1+(k+1)-1=i+(k+1+1)-1 by omega]; exact hl)
      simp only [S.valF] at ih ⊢
      omega
  |m+1,k+1,i,h,ht,hu,hl=>by
    have ih:=valF_short (t:=t) (u:=u) (m:=m) (k:=k) (i:=i+1) (by omega) (fun j h1 h2=>ht j (by omega) (by omega)) (fun j h1 h2=>hu j (by omega) (by omega)) (by rw [show i+1+k-1=i+(k+1)-1 by omega]; exact hl)
    have h0:=hu i (Nat.le_refl _) (by omega)
    have h1:=ht i (Nat.le_refl _) (by omega)
    simp only [S.valF]
    omega
theorem val_short {n m:Nat} {t u:Nat→Int} (h:m<n) (ht:S.okG m t=true) (hu:S.okG n u=true):S.val m t<S.val n u:=by
  obtain ⟨h1,h2⟩:=okG_iff.mp hu
  exact valF_short h (fun j _ hj=>(okG_iff.mp ht).1 j (by omega)) (fun j _ hj=>h1 j (by omega)) (by rw [Nat.zero_add]; exact h2.resolve_left (by omega))
theorem valF_down {t u:Nat→Int} {n:Nat} (ht: ∀ j,j<n→0≤t j∧t j<1000000) (hu: ∀ j,j<n→0≤u j∧u j<1000000): ∀ {i k:Nat},i+k=n→S.valF t i k<S.valF u i k→S.val n t<S.val n u
  |0,k,h,hl=>by rw [Nat.zero_add] at h; subst h; exact hl
  |i+1,k,h,hl=>by
    have h1:=ht i (by omega)
    have h2:=hu i (by omega)
    refine valF_down ht hu (i:=i) (k:=k+1) (by omega) ?_
    simp only [S.valF]
    omega
inductive St69 where
  |h0 (x0:List Int)
abbrev Rt69:=List Int
noncomputable def V69 (np mp:Nat) (tp:NI) (r:Rt69):PV:=PV.own (0) (1) (List.length r)
noncomputable def N69 (np mp:Nat) (tp:NI) (r:Rt69):List Blk:= []
noncomputable def W69 (np mp:Nat) (tp:Nat→Int) (r:Rt69):Nat→Blk:=fun n=>bif Nat.beq n 0 then Blk.cols (List.length r) [Col.int IntKind.i64 fun j=>S.at' r j] else .dead
noncomputable def I69 (np mp:Nat) (tp:NI):St69→Hd
  | .h0 x0=>⟨hd Tryz.f106 0,[PV.own (0) (1) (List.length x0)],[[],[(0,(true,Blk.cols (List.length x0) [Col.int .i64 fun j=>S.at' x0 j]))]],1⟩
noncomputable def q69 (np mp:Nat) (tp:NI):St69→Option (St69⊕Rt69)| .h0 x0=>bif (decide ((↑(List.length x0):Int)>0)) then (bif (lim .i64 ((↑(List.length x0):Int)-1)) then (bif (decide ((0:Int)≤(↑(List.length x0):Int)-1∧(↑(List.length x0):Int)-1<(↑(List.length x0):Int))) then (bif (decide (Int.toNat ((↑(List.length x0):Int)-1)<List.length x0)) then (bif (S.at' x0 (Int.toNat ((↑(List.length x0):Int)-1))==0) then (bif (decide ((0:Int)≤(↑(List.length x0):Int)-1∧(↑(List.length x0):Int)-1≤(↑(List.length x0):Int))) then (some (.inl (.h0 (S.mkl (Int.toNat ((↑(List.length x0):Int)-1)) fun j=>S.at' x0 j)))) else (none)) else (some (.inr (x0)))) else (none)) else (none)) else (none)) else (some (.inr (x0)))
noncomputable def p69 (np mp:Nat) (tp:NI):Option (St69⊕Rt69):=some (.inl (.h0 (S.mkl np fun j=>tp j)))
noncomputable def Te69 (test:TT) (Kst:KS) (Kret:KR) (np mp:Nat) (tp:NI):Prop:=Kst (hd Tryz.f106 0) ([PV.own (0) (1) np]) ([[(0,true,Blk.cols np [Col.int .i64 tp])]]) (1)
theorem te69 (test:TT) (Kst:KS) (Kret:KR) (np mp:Nat) (tp:NI):run test Tryz.env true noX true 400 ⟨106,[.cd (mkFn Tryz.f106).body],argT 0 [.own 0 1 np],[[],[(0,(true,.cols np [.int .i64 tp]))]],1⟩ (proj 1 [0] Kst Kret)=
  Te69 test Kst Kret np mp tp:=by kernel_rfl
noncomputable def T69_0 (test:TT) (Kst:KS) (Kret:KR) (np mp:Nat) (tp:NI) (x0:List Int):Prop:=test (decide ((↑(List.length x0):Int)>0)) (test (lim .i64 ((↑(List.length x0):Int)-1)) (test (decide ((0:Int)≤(↑(List.length x0):Int)-1∧(↑(List.length x0):Int)-1<(↑(List.length x0):Int))) (test (decide (Int.toNat ((↑(List.length x0):Int)-1)<List.length x0)) (test (S.at' x0 (Int.toNat ((↑(List.length x0):Int)-1))==0) (test (lim .i64 ((↑(List.length x0):Int)-1)) (test (decide ((0:Int)≤(↑(List.length x0):Int)-1∧(↑(List.length x0):Int)-1≤(↑(List.length x0):Int))) (Kst (hd Tryz.f106 0) ([PV.own (0) (1) (Int.toNat ((↑(List.length x0):Int)-1))]) ([[(0,true,Blk.cols (List.length x0) [Col.int .i64 fun j=>S.at' x0 j])]]) (1)) (False)) (False)) (Kret (PV.own (0) (1) (List.length x0)) ([[(0,true,Blk.cols (List.length x0) [Col.int .i64 fun j=>S.at' x0 j])]]) (1))) (False)) (False)) (False)) (Kret (PV.own (0) (1) (List.length x0)) ([[(0,true,Blk.cols (List.length x0) [Col.int .i64 fun j=>S.at' x0 j])]]) (1))
theorem t69_0 (test:TT) (Kst:KS) (Kret:KR) (np mp:Nat) (tp:NI) (x0:List Int):run test Tryz.env true noX true 400 ⟨106,hd Tryz.f106 0,zipT [0] [PV.own (0) (1) (List.length x0)],[[],[(0,(true,Blk.cols (List.length x0) [Col.int .i64 fun j=>S.at' x0 j]))]],1⟩ (proj 1 [0] Kst Kret)=
  T69_0 test Kst Kret np mp tp x0:=by kernel_rfl
noncomputable abbrev J69 (np mp:Nat) (tp:NI):Rt69→Heap:=fun r=> [newL (1+1) ((N69 np mp tp) r)++ [(0,(true,((W69 np mp tp) r 0)))]]
attribute [local irreducible] Int.subNatNat in
theorem be69 (np mp:Nat) (tp:NI) (Kst:KS) (Kret:KR) (x:St69⊕Rt69) (hS:HS 1 400 ((I69 np mp tp)) Kst x) (hR:HR 1 400 ((V69 np mp tp)) (J69 np mp tp) Kret x) (h:(some (.inl (.h0 (S.mkl np fun j=>tp j))):Option (St69⊕Rt69))=some x):Te69 cond Kst Kret np mp tp:=by
  unfold Te69
  exact stop_at hS _ h (fun n=>n) rfl rfl rfl ⟨(rn_own (use_lo rfl) rfl mkl_len),trivial⟩ rfl (entl_new (use_lo rfl) rfl (Nat.le_of_eq mkl_len) (rcs_int (fun _ hj=>col_mkl (fun (t:Int)=>t) hj) rcs_nil) entl_nil)
attribute [local irreducible] Int.subNatNat in
theorem b69_0 (np mp:Nat) (tp:NI) (Kst:KS) (Kret:KR) (x:St69⊕Rt69) (hS:HS 1 400 ((I69 np mp tp)) Kst x) (hR:HR 1 400 ((V69 np mp tp)) (J69 np mp tp) Kret x) (x0:List Int) (h:q69 np mp tp (.h0 x0)=some x):T69_0 cond Kst Kret np mp tp x0:=by
  unfold T69_0
  rw [q69] at h
  exact bif_split h (fun c0 h=>bif_split h (fun c1 h=>bif_split h (fun c2 h=>bif_split h (fun c3 h=>bif_split h (fun c4 h=>cond_yes c1 (bif_split h (fun c5 h=>stop_at hS _ h (fun n=>n) rfl rfl rfl ⟨(rn_own (use_lo rfl) rfl mkl_len),trivial⟩ rfl (entl_new (use_lo rfl) rfl (by first|exact Nat.le_of_eq mkl_len|(simp only [mkl_len,snoc_len]; omega)) (rcs_int (fun _ hj=>col_mkl (fun (t:Int)=>t) hj) rcs_nil) entl_nil)) (fun c5 h=>no_some h))) (fun c4 h=>ret_at hR _ h (fun n=>n) rfl rfl rfl (rn_own (use_lo rfl) rfl rfl) rfl (entl_new (use_lo rfl) rfl (Nat.le_of_eq rfl) (rcs_int (fun _ _=>rfl) rcs_nil) entl_nil))) (fun c3 h=>no_some h)) (fun c2 h=>no_some h)) (fun c1 h=>no_some h)) (fun c0 h=>ret_at hR _ h (fun n=>n) rfl rfl rfl (rn_own (use_lo rfl) rfl rfl) rfl (entl_new (use_lo rfl) rfl (Nat.le_of_eq rfl) (rcs_int (fun _ _=>rfl) rcs_nil) entl_nil))
theorem a69 (np mp:Nat) (tp:NI) {r:Rt69} (h:Goes ((q69 np mp tp)) ((p69 np mp tp)) r):CallR Tryz.prog 106 [.own 0 1 np] [[(0,(true,.cols np [.int .i64 tp]))]] 1 ((V69 np mp tp) r) ((J69 np mp tp) r) 400∧ ∃ F,Tryz.prog.funcs[106]? =some F∧F.body.isSome=true∧(F.name== "runtime.NumGoroutine")=false:=by
  refine dec_calls (f:=106) (lo:=1) (hi:=400) Tryz.envOk Tryz.mixed noX_ok ((I69 np mp tp)) ((V69 np mp tp)) (J69 np mp tp) (fn:=mkFn Tryz.f106) (ts:= [0]) (n:=400) rfl (by decide) (by simp) (names_of rfl) ?_ ?_ ?_ h
  · intro s; cases s<;>exact ⟨hd_ok _ _,by simp [I69],names_of rfl,Nat.le_of_ble_eq_true rfl⟩
  · intro Kst Kret x hS hR h
    exact Holds.eq (te69 cond Kst Kret np mp tp) (be69 np mp tp Kst Kret x hS hR h)
  · intro Kst Kret x hS hR s h
    cases s with
    |h0 x0=>exact Holds.eq (t69_0 cond Kst Kret np mp tp x0) (b69_0 np mp tp Kst Kret x hS hR x0 h)
noncomputable abbrev w69 {α:Type} (g:Nat→Nat→(Nat→Int)→α) (x:(Nat×Nat×(Nat→Int)×Unit)×Unit):α:=g x.1.1 x.1.2.1 x.1.2.2.1
noncomputable def k69:Con:=⟨106,[.one (.own [.int .i64])],w69 (fun np mp tp=>decide (np≤1000000)),w69 (fun np mp tp=>(V69 np mp tp) (S.trim (S.mkl np tp))),w69 (fun np mp tp=>(N69 np mp tp) (S.trim (S.mkl np tp))),w69 (fun np mp tp=>(W69 np mp tp) (S.trim (S.mkl np tp)))⟩
theorem s69' (np mp:Nat) (tp:Nat→Int): ∀ (n:Nat) (L:List Int),L.length=n→n≤1000000→Comes (q69 np mp tp) (.h0 L) (S.trim L):=by
  intro n
  induction n with
  |zero=>
    intro L hL hn
    obtain rfl:L= []:=List.length_eq_zero_iff.mp hL
    apply Comes.of
    show Goes _ _ _
    (first|rw [q69]|unfold q69)
    repeat' (first|with_reducible refine goes_if (fun h=> ?_) (fun h=> ?_)<;>(try simp only [SH] at h)|exact goes_none.mpr (by omega))
    all_goals first|(exfalso; simp at*; done)|exact goes_inr.mpr rfl
  | succ n ih=>
    intro L hL hn
    have e1:((L.length:Int)-1).toNat=n:=by omega
    have ih:=ih (S.mkl n (S.at' L)) mkl_len (by omega)
    have e2:S.trim L=S.trim (S.mkl (n+1) (S.at' L)):=by rw [← hL,mkl_at]
    rw [e2]
    by_cases h0:S.at' L n=0
    · rw [trim_mkl0 h0]
      apply Comes.of
      show Goes _ _ _
      (first|rw [q69]|unfold q69)
      repeat' (first|with_reducible refine goes_if (fun h=> ?_) (fun h=> ?_)<;>(try simp only [SH,e1] at h)|exact goes_none.mpr (by omega))
      all_goals first|(exfalso; omega)|(rw [e1]; exact ih)
    · rw [trim_mkl1 h0,← hL,mkl_at]
      apply Comes.of
      show Goes _ _ _
      (first|rw [q69]|unfold q69)
      repeat' (first|with_reducible refine goes_if (fun h=> ?_) (fun h=> ?_)<;>(try simp only [SH,e1] at h)|exact goes_none.mpr (by omega))
      all_goals first|(exfalso; omega)|exact goes_inr.mpr rfl
theorem s69 (np mp:Nat) (tp:Nat→Int) (hp:np≤1000000):Goes ((q69 np mp tp)) ((p69 np mp tp)) (S.trim (S.mkl np tp)):=by
  exact s69' np mp tp np (S.mkl np tp) mkl_len hp
theorem k69_ok:k69.ok Tryz.prog:=by
  intro x hx
  obtain ⟨⟨np,mp,tp,_⟩,_⟩:=x
  obtain ⟨h1,h2⟩:=a69 np mp tp (s69 np mp tp (of_dec hx rfl))
  exact ⟨⟨400,(by decide:1+1+0≤400),h1⟩,h2⟩
inductive St69v where
  |h0 (x0:Nat) (x1:Nat)
abbrev Rt69v:=Nat×Nat
noncomputable def V69v (ap np mp:Nat) (tp:NI) (r:Rt69v):PV:=PV.loose (PA.mk (0) (1) r.1 (0)) r.2
noncomputable def N69v (ap np mp:Nat) (tp:NI) (r:Rt69v):List Blk:= []
noncomputable def I69v (ap np mp:Nat) (tp:NI):St69v→Hd
  | .h0 x0 x1=>⟨hd Tryz.f106 0,[PV.loose (PA.mk (0) (1) x0 (0)) x1],[[],[(0,(false,.cols mp [.int .i64 tp]))]],1⟩
noncomputable def q69v (ap np mp:Nat) (tp:NI):St69v→Option (St69v⊕Rt69v)| .h0 x0 x1=>bif (decide ((↑x1:Int)>0)) then (bif (lim .i64 ((↑x1:Int)-1)) then (bif (decide ((0:Int)≤(↑x1:Int)-1∧(↑x1:Int)-1<(↑x1:Int))) then (bif (decide (Int.toNat ((↑x1:Int)-1)+x0<mp)) then (bif (tp (Int.toNat ((↑x1:Int)-1)+x0)==0) then (bif (decide ((0:Int)≤Option.getD Option.none (0:Int)∧(0:Int)≤(↑x1:Int)-1∧(↑x1:Int)-1≤(↑x1:Int))) then (some (.inl (.h0 (0+x0) (Int.toNat ((↑x1:Int)-1))))) else (none)) else (some (.inr (x0,x1)))) else (none)) else (none)) else (none)) else (some (.inr (x0,x1)))
noncomputable def p69v (ap np mp:Nat) (tp:NI):Option (St69v⊕Rt69v):=some (.inl (.h0 (ap) (np)))
noncomputable def Te69v (test:TT) (Kst:KS) (Kret:KR) (ap np mp:Nat) (tp:NI):Prop:=Kst (hd Tryz.f106 0) ([PV.loose (PA.mk (0) (1) ap (0)) np]) ([[(0,false,Blk.cols mp [Col.int .i64 tp])]]) (1)
theorem te69v (test:TT) (Kst:KS) (Kret:KR) (ap np mp:Nat) (tp:NI):run test Tryz.env true noX true 400 ⟨106,[.cd (mkFn Tryz.f106).body],argT 0 [.loose ⟨0,1,ap,0⟩ np],[[],[(0,(false,.cols mp [.int .i64 tp]))]],1⟩ (proj 1 [0] Kst Kret)=
  Te69v test Kst Kret ap np mp tp:=by kernel_rfl
noncomputable def T69v_0 (test:TT) (Kst:KS) (Kret:KR) (ap np mp:Nat) (tp:NI) (x0 x1:Nat):Prop:=test (decide ((↑x1:Int)>0)) (test (lim .i64 ((↑x1:Int)-1)) (test (decide ((0:Int)≤(↑x1:Int)-1∧(↑x1:Int)-1<(↑x1:Int))) (test (decide (Int.toNat ((↑x1:Int)-1)+x0<mp)) (test (tp (Int.toNat ((↑x1:Int)-1)+x0)==0) (test (lim .i64 ((↑x1:Int)-1)) (test (decide ((0:Int)≤Option.getD Option.none (0:Int)∧(0:Int)≤(↑x1:Int)-1∧(↑x1:Int)-1≤(↑x1:Int))) (Kst (hd Tryz.f106 0) ([PV.loose (PA.mk (0) (1) (0+x0) (0)) (Int.toNat ((↑x1:Int)-1))]) ([[(0,false,Blk.cols mp [Col.int .i64 tp])]]) (1)) (False)) (False)) (Kret (PV.loose (PA.mk (0) (1) x0 (0)) x1) ([[(0,false,Blk.cols mp [Col.int .i64 tp])]]) (1))) (False)) (False)) (False)) (Kret (PV.loose (PA.mk (0) (1) x0 (0)) x1) ([[(0,false,Blk.cols mp [Col.int .i64 tp])]]) (1))
theorem t69v_0 (test:TT) (Kst:KS) (Kret:KR) (ap np mp:Nat) (tp:NI) (x0 x1:Nat):run test Tryz.env true noX true 400 ⟨106,hd Tryz.f106 0,zipT [0] [PV.loose (PA.mk (0) (1) x0 (0)) x1],[[],[(0,(false,.cols mp [.int .i64 tp]))]],1⟩ (proj 1 [0] Kst Kret)=
  T69v_0 test Kst Kret ap np mp tp x0 x1:=by kernel_rfl
noncomputable abbrev J69v (ap np mp:Nat) (tp:NI):Rt69v→Heap:=fun r=> [newL (1+1) ((N69v ap np mp tp) r)++ [(0,(false,.cols mp [.int .i64 tp]))]]
attribute [local irreducible] Int.subNatNat in
theorem be69v (ap np mp:Nat) (tp:NI) (Kst:KS) (Kret:KR) (x:St69v⊕Rt69v) (hS:HS 1 400 ((I69v ap np mp tp)) Kst x) (hR:HR 1 400 ((V69v ap np mp tp)) (J69v ap np mp tp) Kret x) (h:(some (.inl (.h0 (ap) (np))):Option (St69v⊕Rt69v))=some x):Te69v cond Kst Kret ap np mp tp:=by
  unfold Te69v
  exact stop_at hS _ h (fun n=>n) rfl rfl rfl ⟨(rn_loose (use_lo rfl) rfl rfl rfl),trivial⟩ rfl (entl_bor (use_lo rfl) rfl rfl entl_nil)
attribute [local irreducible] Int.subNatNat in
theorem b69v_0 (ap np mp:Nat) (tp:NI) (Kst:KS) (Kret:KR) (x:St69v⊕Rt69v) (hS:HS 1 400 ((I69v ap np mp tp)) Kst x) (hR:HR 1 400 ((V69v ap np mp tp)) (J69v ap np mp tp) Kret x) (x0 x1:Nat) (h:q69v ap np mp tp (.h0 x0 x1)=some x):T69v_0 cond Kst Kret ap np mp tp x0 x1:=by
  unfold T69v_0
  rw [q69v] at h
  exact bif_split h (fun c0 h=>bif_split h (fun c1 h=>bif_split h (fun c2 h=>bif_split h (fun c3 h=>bif_split h (fun c4 h=>cond_yes c1 (bif_split h (fun c5 h=>stop_at hS _ h (fun n=>n) rfl rfl rfl ⟨(rn_loose (use_lo rfl) rfl rfl rfl),trivial⟩ rfl (entl_bor (use_lo rfl) rfl rfl entl_nil)) (fun c5 h=>no_some h))) (fun c4 h=>ret_at hR _ h (fun n=>n) rfl rfl rfl (rn_loose (use_lo rfl) rfl rfl rfl) rfl (entl_bor (use_lo rfl) rfl rfl entl_nil))) (fun c3 h=>no_some h)) (fun c2 h=>no_some h)) (fun c1 h=>no_some h)) (fun c0 h=>ret_at hR _ h (fun n=>n) rfl rfl rfl (rn_loose (use_lo rfl) rfl rfl rfl) rfl (entl_bor (use_lo rfl) rfl rfl entl_nil))
theorem a69v (ap np mp:Nat) (tp:NI) {r:Rt69v} (h:Goes ((q69v ap np mp tp)) ((p69v ap np mp tp)) r):CallR Tryz.prog 106 [.loose ⟨0,1,ap,0⟩ np] [[(0,(false,.cols mp [.int .i64 tp]))]] 1 ((V69v ap np mp tp) r) ((J69v ap np mp tp) r) 400∧ ∃ F,Tryz.prog.funcs[106]? =some F∧F.body.isSome=true∧(F.name== "runtime.NumGoroutine")=false:=by
  refine dec_calls (f:=106) (lo:=1) (hi:=400) Tryz.envOk Tryz.mixed noX_ok ((I69v ap np mp tp)) ((V69v ap np mp tp)) (J69v ap np mp tp) (fn:=mkFn Tryz.f106) (ts:= [0]) (n:=400) rfl (by decide) (by simp) (names_of rfl) ?_ ?_ ?_ h
  · intro s; cases s<;>exact ⟨hd_ok _ _,by simp [I69v],names_of rfl,Nat.le_of_ble_eq_true rfl⟩
  · intro Kst Kret x hS hR h
    exact Holds.eq (te69v cond Kst Kret ap np mp tp) (be69v ap np mp tp Kst Kret x hS hR h)
  · intro Kst Kret x hS hR s h
    cases s with
    |h0 x0 x1=>exact Holds.eq (t69v_0 cond Kst Kret ap np mp tp x0 x1) (b69v_0 ap np mp tp Kst Kret x hS hR x0 x1 h)
noncomputable abbrev w69v {α:Type} (g:Nat→Nat→Nat→(Nat→Int)→α) (x:(Nat×Nat×Nat×(Nat→Int)×Unit)×Unit):α:=g x.1.1 x.1.2.1 x.1.2.2.1 x.1.2.2.2.1
noncomputable def k69v:Con:=⟨106,[.one (.list [.int .i64])],w69v (fun ap np mp tp=>decide (ap+np≤mp∧np≤1000000)),w69v (fun ap np mp tp=>(V69v ap np mp tp) ((ap,S.trimN np (fun j=>tp (j+ap))))),w69v (fun ap np mp tp=>(N69v ap np mp tp) ((ap,S.trimN np (fun j=>tp (j+ap))))),fun _ _=> .dead⟩
theorem s69v' (ap np mp:Nat) (tp:Nat→Int) (hp:ap+np≤mp∧np≤1000000): ∀ (n:Nat),n≤np→Comes (q69v ap np mp tp) (.h0 ap n) (ap,S.trimN n (fun j=>tp (j+ap))):=by
  obtain ⟨hp1,hp2⟩:=hp
  intro n
  induction n with
  |zero=>
    intro hn
    apply Comes.of
    show Goes _ _ _
    (first|rw [q69v]|unfold q69v)
    repeat' (first|with_reducible refine goes_if (fun h=> ?_) (fun h=> ?_)<;>(try simp only [SH] at h)|exact goes_none.mpr (by omega))
    all_goals first|(exfalso; omega)|exact goes_inr.mpr rfl
  | succ n ih=>
    intro hn
    have ih:=ih (by omega)
    have e1:(((n+1:Nat):Int)-1).toNat=n:=by omega
    unfold S.trimN at ih ⊢
    by_cases h0:tp (n+ap)=0
    · rw [trim_mkl0 (t:=fun j=>tp (j+ap)) h0]
      apply Comes.of
      show Goes _ _ _
      (first|rw [q69v]|unfold q69v)
      repeat' (first|with_reducible refine goes_if (fun h=> ?_) (fun h=> ?_)<;>(try simp only [SH,e1] at h)|exact goes_none.mpr (by omega))
      all_goals first|(exfalso; omega)|(rw [Nat.zero_add,e1]; exact ih)
    · rw [trim_mkl1 (t:=fun j=>tp (j+ap)) h0,mkl_len]
      apply Comes.of
      show Goes _ _ _
      (first|rw [q69v]|unfold q69v)
      repeat' (first|with_reducible refine goes_if (fun h=> ?_) (fun h=> ?_)<;>(try simp only [SH,e1] at h)|exact goes_none.mpr (by omega))
      all_goals first|(exfalso; omega)|exact goes_inr.mpr rfl
theorem s69v (ap np mp:Nat) (tp:Nat→Int) (hp:ap+np≤mp∧np≤1000000):Goes ((q69v ap np mp tp)) ((p69v ap np mp tp)) ((ap,S.trimN np (fun j=>tp (j+ap)))):=by
  exact s69v' ap np mp tp hp np (Nat.le_refl _)
theorem k69v_ok:k69v.ok Tryz.prog:=by
  intro x hx
  obtain ⟨⟨ap,np,mp,tp,_⟩,_⟩:=x
  obtain ⟨h1,h2⟩:=a69v ap np mp tp (s69v ap np mp tp (of_dec hx rfl))
  exact ⟨⟨400,(by decide:1+1+0≤400),h1⟩,h2⟩
inductive St65 where
  |h0 (x0:List Int)
abbrev Rt65:=List Int
noncomputable def V65 (np mp:Nat) (tp:NI) (r:Rt65):PV:=PV.own (0) (1) (List.length r)
noncomputable def N65 (np mp:Nat) (tp:NI) (r:Rt65):List Blk:= []
noncomputable def W65 (np mp:Nat) (tp:Nat→Int) (r:Rt65):Nat→Blk:=fun n=>bif Nat.beq n 0 then Blk.cols (List.length r) [Col.int IntKind.i64 fun j=>S.at' r j] else .dead
noncomputable def I65 (np mp:Nat) (tp:NI):St65→Hd
  | .h0 x0=>⟨hd Tryz.f120 0,[PV.own (0) (1) (List.length x0)],[[],[(0,(true,Blk.cols (List.length x0) [Col.int .i64 fun j=>S.at' x0 j]))]],1⟩
noncomputable def q65 (np mp:Nat) (tp:NI):St65→Option (St65⊕Rt65)| .h0 x0=>bif (decide ((↑(List.length x0):Int)>0)) then (bif (lim .i64 ((↑(List.length x0):Int)-1)) then (bif (decide ((0:Int)≤(↑(List.length x0):Int)-1∧(↑(List.length x0):Int)-1<(↑(List.length x0):Int))) then (bif (decide (Int.toNat ((↑(List.length x0):Int)-1)<List.length x0)) then (bif (S.at' x0 (Int.toNat ((↑(List.length x0):Int)-1))==0) then (bif (decide ((0:Int)≤(↑(List.length x0):Int)-1∧(↑(List.length x0):Int)-1≤(↑(List.length x0):Int))) then (some (.inl (.h0 (S.mkl (Int.toNat ((↑(List.length x0):Int)-1)) fun j=>S.at' x0 j)))) else (none)) else (some (.inr (x0)))) else (none)) else (none)) else (none)) else (some (.inr (x0)))
noncomputable def p65 (np mp:Nat) (tp:NI):Option (St65⊕Rt65):=some (.inl (.h0 (S.mkl np fun j=>tp j)))
noncomputable def Te65 (test:TT) (Kst:KS) (Kret:KR) (np mp:Nat) (tp:NI):Prop:=Kst (hd Tryz.f120 0) ([PV.own (0) (1) np]) ([[(0,true,Blk.cols np [Col.int .i64 tp])]]) (1)
theorem te65 (test:TT) (Kst:KS) (Kret:KR) (np mp:Nat) (tp:NI):run test Tryz.env true noX true 400 ⟨120,[.cd (mkFn Tryz.f120).body],argT 0 [.own 0 1 np],[[],[(0,(true,.cols np [.int .i64 tp]))]],1⟩ (proj 1 [0] Kst Kret)=
  Te65 test Kst Kret np mp tp:=by kernel_rfl
noncomputable def T65_0 (test:TT) (Kst:KS) (Kret:KR) (np mp:Nat) (tp:NI) (x0:List Int):Prop:=test (decide ((↑(List.length x0):Int)>0)) (test (lim .i64 ((↑(List.length x0):Int)-1)) (test (decide ((0:Int)≤(↑(List.length x0):Int)-1∧(↑(List.length x0):Int)-1<(↑(List.length x0):Int))) (test (decide (Int.toNat ((↑(List.length x0):Int)-1)<List.length x0)) (test (S.at' x0 (Int.toNat ((↑(List.length x0):Int)-1))==0) (test (lim .i64 ((↑(List.length x0):Int)-1)) (test (decide ((0:Int)≤(↑(List.length x0):Int)-1∧(↑(List.length x0):Int)-1≤(↑(List.length x0):Int))) (Kst (hd Tryz.f120 0) ([PV.own (0) (1) (Int.toNat ((↑(List.length x0):Int)-1))]) ([[(0,true,Blk.cols (List.length x0) [Col.int .i64 fun j=>S.at' x0 j])]]) (1)) (False)) (False)) (Kret (PV.own (0) (1) (List.length x0)) ([[(0,true,Blk.cols (List.length x0) [Col.int .i64 fun j=>S.at' x0 j])]]) (1))) (False)) (False)) (False)) (Kret (PV.own (0) (1) (List.length x0)) ([[(0,true,Blk.cols (List.length x0) [Col.int .i64 fun j=>S.at' x0 j])]]) (1))
theorem t65_0 (test:TT) (Kst:KS) (Kret:KR) (np mp:Nat) (tp:NI) (x0:List Int):run test Tryz.env true noX true 400 ⟨120,hd Tryz.f120 0,zipT [0] [PV.own (0) (1) (List.length x0)],[[],[(0,(true,Blk.cols (List.length x0) [Col.int .i64 fun j=>S.at' x0 j]))]],1⟩ (proj 1 [0] Kst Kret)=
  T65_0 test Kst Kret np mp tp x0:=by kernel_rfl
noncomputable abbrev J65 (np mp:Nat) (tp:NI):Rt65→Heap:=fun r=> [newL (1+1) ((N65 np mp tp) r)++ [(0,(true,((W65 np mp tp) r 0)))]]
attribute [local irreducible] Int.subNatNat in
theorem be65 (np mp:Nat) (tp:NI) (Kst:KS) (Kret:KR) (x:St65⊕Rt65) (hS:HS 1 400 ((I65 np mp tp)) Kst x) (hR:HR 1 400 ((V65 np mp tp)) (J65 np mp tp) Kret x) (h:(some (.inl (.h0 (S.mkl np fun j=>tp j))):Option (St65⊕Rt65))=some x):Te65 cond Kst Kret np mp tp:=by
  unfold Te65
  exact stop_at hS _ h (fun n=>n) rfl rfl rfl ⟨(rn_own (use_lo rfl) rfl mkl_len),trivial⟩ rfl (entl_new (use_lo rfl) rfl (Nat.le_of_eq mkl_len) (rcs_int (fun _ hj=>col_mkl (fun (t:Int)=>t) hj) rcs_nil) entl_nil)
attribute [local irreducible] Int.subNatNat in
theorem b65_0 (np mp:Nat) (tp:NI) (Kst:KS) (Kret:KR) (x:St65⊕Rt65) (hS:HS 1 400 ((I65 np mp tp)) Kst x) (hR:HR 1 400 ((V65 np mp tp)) (J65 np mp tp) Kret x) (x0:List Int) (h:q65 np mp tp (.h0 x0)=some x):T65_0 cond Kst Kret np mp tp x0:=by
  unfold T65_0
  rw [q65] at h
  exact bif_split h (fun c0 h=>bif_split h (fun c1 h=>bif_split h (fun c2 h=>bif_split h (fun c3 h=>bif_split h (fun c4 h=>cond_yes c1 (bif_split h (fun c5 h=>stop_at hS _ h (fun n=>n) rfl rfl rfl ⟨(rn_own (use_lo rfl) rfl mkl_len),trivial⟩ rfl (entl_new (use_lo rfl) rfl (by first|exact Nat.le_of_eq mkl_len|(simp only [mkl_len,snoc_len]; omega)) (rcs_int (fun _ hj=>col_mkl (fun (t:Int)=>t) hj) rcs_nil) entl_nil)) (fun c5 h=>no_some h))) (fun c4 h=>ret_at hR _ h (fun n=>n) rfl rfl rfl (rn_own (use_lo rfl) rfl rfl) rfl (entl_new (use_lo rfl) rfl (Nat.le_of_eq rfl) (rcs_int (fun _ _=>rfl) rcs_nil) entl_nil))) (fun c3 h=>no_some h)) (fun c2 h=>no_some h)) (fun c1 h=>no_some h)) (fun c0 h=>ret_at hR _ h (fun n=>n) rfl rfl rfl (rn_own (use_lo rfl) rfl rfl) rfl (entl_new (use_lo rfl) rfl (Nat.le_of_eq rfl) (rcs_int (fun _ _=>rfl) rcs_nil) entl_nil))
theorem a65 (np mp:Nat) (tp:NI) {r:Rt65} (h:Goes ((q65 np mp tp)) ((p65 np mp tp)) r):CallR Tryz.prog 120 [.own 0 1 np] [[(0,(true,.cols np [.int .i64 tp]))]] 1 ((V65 np mp tp) r) ((J65 np mp tp) r) 400∧ ∃ F,Tryz.prog.funcs[120]? =some F∧F.body.isSome=true∧(F.name== "runtime.NumGoroutine")=false:=by
  refine dec_calls (f:=120) (lo:=1) (hi:=400) Tryz.envOk Tryz.mixed noX_ok ((I65 np mp tp)) ((V65 np mp tp)) (J65 np mp tp) (fn:=mkFn Tryz.f120) (ts:= [0]) (n:=400) rfl (by decide) (by simp) (names_of rfl) ?_ ?_ ?_ h
  · intro s; cases s<;>exact ⟨hd_ok _ _,by simp [I65],names_of rfl,Nat.le_of_ble_eq_true rfl⟩
  · intro Kst Kret x hS hR h
    exact Holds.eq (te65 cond Kst Kret np mp tp) (be65 np mp tp Kst Kret x hS hR h)
  · intro Kst Kret x hS hR s h
    cases s with
    |h0 x0=>exact Holds.eq (t65_0 cond Kst Kret np mp tp x0) (b65_0 np mp tp Kst Kret x hS hR x0 h)
noncomputable abbrev w65 {α:Type} (g:Nat→Nat→(Nat→Int)→α) (x:(Nat×Nat×(Nat→Int)×Unit)×Unit):α:=g x.1.1 x.1.2.1 x.1.2.2.1
noncomputable def k65:Con:=⟨120,[.one (.own [.int .i64])],w65 (fun np mp tp=>decide (np≤1000000)),w65 (fun np mp tp=>(V65 np mp tp) (S.trim (S.mkl np tp))),w65 (fun np mp tp=>(N65 np mp tp) (S.trim (S.mkl np tp))),w65 (fun np mp tp=>(W65 np mp tp) (S.trim (S.mkl np tp)))⟩
theorem s65' (np mp:Nat) (tp:Nat→Int): ∀ (n:Nat) (L:List Int),L.length=n→n≤1000000→Comes (q65 np mp tp) (.h0 L) (S.trim L):=by
  intro n
  induction n with
  |zero=>
    intro L hL hn
    obtain rfl:L= []:=List.length_eq_zero_iff.mp hL
    apply Comes.of
    show Goes _ _ _
    (first|rw [q65]|unfold q65)
    repeat' (first|with_reducible refine goes_if (fun h=> ?_) (fun h=> ?_)<;>(try simp only [SH] at h)|exact goes_none.mpr (by omega))
    all_goals first|(exfalso; simp at*; done)|exact goes_inr.mpr rfl
  | succ n ih=>
    intro L hL hn
    have e1:((L.length:Int)-1).toNat=n:=by omega
    have ih:=ih (S.mkl n (S.at' L)) mkl_len (by omega)
    have e2:S.trim L=S.trim (S.mkl (n+1) (S.at' L)):=by rw [← hL,mkl_at]
    rw [e2]
    by_cases h0:S.at' L n=0
    · rw [trim_mkl0 h0]
      apply Comes.of
      show Goes _ _ _
      (first|rw [q65]|unfold q65)
      repeat' (first|with_reducible refine goes_if (fun h=> ?_) (fun h=> ?_)<;>(try simp only [SH,e1] at h)|exact goes_none.mpr (by omega))
      all_goals first|(exfalso; omega)|(rw [e1]; exact ih)
    · rw [trim_mkl1 h0,← hL,mkl_at]
      apply Comes.of
      show Goes _ _ _
      (first|rw [q65]|unfold q65)
      repeat' (first|with_reducible refine goes_if (fun h=> ?_) (fun h=> ?_)<;>(try simp only [SH,e1] at h)|exact goes_none.mpr (by omega))
      all_goals first|(exfalso; omega)|exact goes_inr.mpr rfl
theorem s65 (np mp:Nat) (tp:Nat→Int) (hp:np≤1000000):Goes ((q65 np mp tp)) ((p65 np mp tp)) (S.trim (S.mkl np tp)):=by
  exact s65' np mp tp np (S.mkl np tp) mkl_len hp
theorem k65_ok:k65.ok Tryz.prog:=by
  intro x hx
  obtain ⟨⟨np,mp,tp,_⟩,_⟩:=x
  obtain ⟨h1,h2⟩:=a65 np mp tp (s65 np mp tp (of_dec hx rfl))
  exact ⟨⟨400,(by decide:1+1+0≤400),h1⟩,h2⟩
inductive St65v where
  |h0 (x0:Nat) (x1:Nat)
abbrev Rt65v:=Nat×Nat
noncomputable def V65v (ap np mp:Nat) (tp:NI) (r:Rt65v):PV:=PV.loose (PA.mk (0) (1) r.1 (0)) r.2
noncomputable def N65v (ap np mp:Nat) (tp:NI) (r:Rt65v):List Blk:= []
noncomputable def I65v (ap np mp:Nat) (tp:NI):St65v→Hd
  | .h0 x0 x1=>⟨hd Tryz.f120 0,[PV.loose (PA.mk (0) (1) x0 (0)) x1],[[],[(0,(false,.cols mp [.int .i64 tp]))]],1⟩
noncomputable def q65v (ap np mp:Nat) (tp:NI):St65v→Option (St65v⊕Rt65v)| .h0 x0 x1=>bif (decide ((↑x1:Int)>0)) then (bif (lim .i64 ((↑x1:Int)-1)) then (bif (decide ((0:Int)≤(↑x1:Int)-1∧(↑x1:Int)-1<(↑x1:Int))) then (bif (decide (Int.toNat ((↑x1:Int)-1)+x0<mp)) then (bif (tp (Int.toNat ((↑x1:Int)-1)+x0)==0) then (bif (decide ((0:Int)≤Option.getD Option.none (0:Int)∧(0:Int)≤(↑x1:Int)-1∧(↑x1:Int)-1≤(↑x1:Int))) then (some (.inl (.h0 (0+x0) (Int.toNat ((↑x1:Int)-1))))) else (none)) else (some (.inr (x0,x1)))) else (none)) else (none)) else (none)) else (some (.inr (x0,x1)))
noncomputable def p65v (ap np mp:Nat) (tp:NI):Option (St65v⊕Rt65v):=some (.inl (.h0 (ap) (np)))
noncomputable def Te65v (test:TT) (Kst:KS) (Kret:KR) (ap np mp:Nat) (tp:NI):Prop:=Kst (hd Tryz.f120 0) ([PV.loose (PA.mk (0) (1) ap (0)) np]) ([[(0,false,Blk.cols mp [Col.int .i64 tp])]]) (1)
theorem te65v (test:TT) (Kst:KS) (Kret:KR) (ap np mp:Nat) (tp:NI):run test Tryz.env true noX true 400 ⟨120,[.cd (mkFn Tryz.f120).body],argT 0 [.loose ⟨0,1,ap,0⟩ np],[[],[(0,(false,.cols mp [.int .i64 tp]))]],1⟩ (proj 1 [0] Kst Kret)=
  Te65v test Kst Kret ap np mp tp:=by kernel_rfl
noncomputable def T65v_0 (test:TT) (Kst:KS) (Kret:KR) (ap np mp:Nat) (tp:NI) (x0 x1:Nat):Prop:=test (decide ((↑x1:Int)>0)) (test (lim .i64 ((↑x1:Int)-1)) (test (decide ((0:Int)≤(↑x1:Int)-1∧(↑x1:Int)-1<(↑x1:Int))) (test (decide (Int.toNat ((↑x1:Int)-1)+x0<mp)) (test (tp (Int.toNat ((↑x1:Int)-1)+x0)==0) (test (lim .i64 ((↑x1:Int)-1)) (test (decide ((0:Int)≤Option.getD Option.none (0:Int)∧(0:Int)≤(↑x1:Int)-1∧(↑x1:Int)-1≤(↑x1:Int))) (Kst (hd Tryz.f120 0) ([PV.loose (PA.mk (0) (1) (0+x0) (0)) (Int.toNat ((↑x1:Int)-1))]) ([[(0,false,Blk.cols mp [Col.int .i64 tp])]]) (1)) (False)) (False)) (Kret (PV.loose (PA.mk (0) (1) x0 (0)) x1) ([[(0,false,Blk.cols mp [Col.int .i64 tp])]]) (1))) (False)) (False)) (False)) (Kret (PV.loose (PA.mk (0) (1) x0 (0)) x1) ([[(0,false,Blk.cols mp [Col.int .i64 tp])]]) (1))
theorem t65v_0 (test:TT) (Kst:KS) (Kret:KR) (ap np mp:Nat) (tp:NI) (x0 x1:Nat):run test Tryz.env true noX true 400 ⟨120,hd Tryz.f120 0,zipT [0] [PV.loose (PA.mk (0) (1) x0 (0)) x1],[[],[(0,(false,.cols mp [.int .i64 tp]))]],1⟩ (proj 1 [0] Kst Kret)=
  T65v_0 test Kst Kret ap np mp tp x0 x1:=by kernel_rfl
noncomputable abbrev J65v (ap np mp:Nat) (tp:NI):Rt65v→Heap:=fun r=> [newL (1+1) ((N65v ap np mp tp) r)++ [(0,(false,.cols mp [.int .i64 tp]))]]
attribute [local irreducible] Int.subNatNat in
theorem be65v (ap np mp:Nat) (tp:NI) (Kst:KS) (Kret:KR) (x:St65v⊕Rt65v) (hS:HS 1 400 ((I65v ap np mp tp)) Kst x) (hR:HR 1 400 ((V65v ap np mp tp)) (J65v ap np mp tp) Kret x) (h:(some (.inl (.h0 (ap) (np))):Option (St65v⊕Rt65v))=some x):Te65v cond Kst Kret ap np mp tp:=by
  unfold Te65v
  exact stop_at hS _ h (fun n=>n) rfl rfl rfl ⟨(rn_loose (use_lo rfl) rfl rfl rfl),trivial⟩ rfl (entl_bor (use_lo rfl) rfl rfl entl_nil)
attribute [local irreducible] Int.subNatNat in
theorem b65v_0 (ap np mp:Nat) (tp:NI) (Kst:KS) (Kret:KR) (x:St65v⊕Rt65v) (hS:HS 1 400 ((I65v ap np mp tp)) Kst x) (hR:HR 1 400 ((V65v ap np mp tp)) (J65v ap np mp tp) Kret x) (x0 x1:Nat) (h:q65v ap np mp tp (.h0 x0 x1)=some x):T65v_0 cond Kst Kret ap np mp tp x0 x1:=by
  unfold T65v_0
  rw [q65v] at h
  exact bif_split h (fun c0 h=>bif_split h (fun c1 h=>bif_split h (fun c2 h=>bif_split h (fun c3 h=>bif_split h (fun c4 h=>cond_yes c1 (bif_split h (fun c5 h=>stop_at hS _ h (fun n=>n) rfl rfl rfl ⟨(rn_loose (use_lo rfl) rfl rfl rfl),trivial⟩ rfl (entl_bor (use_lo rfl) rfl rfl entl_nil)) (fun c5 h=>no_some h))) (fun c4 h=>ret_at hR _ h (fun n=>n) rfl rfl rfl (rn_loose (use_lo rfl) rfl rfl rfl) rfl (entl_bor (use_lo rfl) rfl rfl entl_nil))) (fun c3 h=>no_some h)) (fun c2 h=>no_some h)) (fun c1 h=>no_some h)) (fun c0 h=>ret_at hR _ h (fun n=>n) rfl rfl rfl (rn_loose (use_lo rfl) rfl rfl rfl) rfl (entl_bor (use_lo rfl) rfl rfl entl_nil))
theorem a65v (ap np mp:Nat) (tp:NI) {r:Rt65v} (h:Goes ((q65v ap np mp tp)) ((p65v ap np mp tp)) r):CallR Tryz.prog 120 [.loose ⟨0,1,ap,0⟩ np] [[(0,(false,.cols mp [.int .i64 tp]))]] 1 ((V65v ap np mp tp) r) ((J65v ap np mp tp) r) 400∧ ∃ F,Tryz.prog.funcs[120]? =some F∧F.body.isSome=true∧(F.name== "runtime.NumGoroutine")=false:=by
  refine dec_calls (f:=120) (lo:=1) (hi:=400) Tryz.envOk Tryz.mixed noX_ok ((I65v ap np mp tp)) ((V65v ap np mp tp)) (J65v ap np mp tp) (fn:=mkFn Tryz.f120) (ts:= [0]) (n:=400) rfl (by decide) (by simp) (names_of rfl) ?_ ?_ ?_ h
  · intro s; cases s<;>exact ⟨hd_ok _ _,by simp [I65v],names_of rfl,Nat.le_of_ble_eq_true rfl⟩
  · intro Kst Kret x hS hR h
    exact Holds.eq (te65v cond Kst Kret ap np mp tp) (be65v ap np mp tp Kst Kret x hS hR h)
  · intro Kst Kret x hS hR s h
    cases s with
    |h0 x0 x1=>exact Holds.eq (t65v_0 cond Kst Kret ap np mp tp x0 x1) (b65v_0 ap np mp tp Kst Kret x hS hR x0 x1 h)
noncomputable abbrev w65v {α:Type} (g:Nat→Nat→Nat→(Nat→Int)→α) (x:(Nat×Nat×Nat×(Nat→Int)×Unit)×Unit):α:=g x.1.1 x.1.2.1 x.1.2.2.1 x.1.2.2.2.1
noncomputable def k65v:Con:=⟨120,[.one (.list [.int .i64])],w65v (fun ap np mp tp=>decide (ap+np≤mp∧np≤1000000)),w65v (fun ap np mp tp=>(V65v ap np mp tp) ((ap,S.trimN np (fun j=>tp (j+ap))))),w65v (fun ap np mp tp=>(N65v ap np mp tp) ((ap,S.trimN np (fun j=>tp (j+ap))))),fun _ _=> .dead⟩
theorem s65v' (ap np mp:Nat) (tp:Nat→Int) (hp:ap+np≤mp∧np≤1000000): ∀ (n:Nat),n≤np→Comes (q65v ap np mp tp) (.h0 ap n) (ap,S.trimN n (fun j=>tp (j+ap))):=by
  obtain ⟨hp1,hp2⟩:=hp
  intro n
  induction n with
  |zero=>
    intro hn
    apply Comes.of
    show Goes _ _ _
    (first|rw [q65v]|unfold q65v)
    repeat' (first|with_reducible refine goes_if (fun h=> ?_) (fun h=> ?_)<;>(try simp only [SH] at h)|exact goes_none.mpr (by omega))
    all_goals first|(exfalso; omega)|exact goes_inr.mpr rfl
  | succ n ih=>
    intro hn
    have ih:=ih (by omega)
    have e1:(((n+1:Nat):Int)-1).toNat=n:=by omega
    unfold S.trimN at ih ⊢
    by_cases h0:tp (n+ap)=0
    · rw [trim_mkl0 (t:=fun j=>tp (j+ap)) h0]
      apply Comes.of
      show Goes _ _ _
      (first|rw [q65v]|unfold q65v)
      repeat' (first|with_reducible refine goes_if (fun h=> ?_) (fun h=> ?_)<;>(try simp only [SH,e1] at h)|exact goes_none.mpr (by omega))
      all_goals first|(exfalso; omega)|(rw [Nat.zero_add,e1]; exact ih)
    · rw [trim_mkl1 (t:=fun j=>tp (j+ap)) h0,mkl_len]
      apply Comes.of
      show Goes _ _ _
      (first|rw [q65v]|unfold q65v)
      repeat' (first|with_reducible refine goes_if (fun h=> ?_) (fun h=> ?_)<;>(try simp only [SH,e1] at h)|exact goes_none.mpr (by omega))
      all_goals first|(exfalso; omega)|exact goes_inr.mpr rfl
theorem s65v (ap np mp:Nat) (tp:Nat→Int) (hp:ap+np≤mp∧np≤1000000):Goes ((q65v ap np mp tp)) ((p65v ap np mp tp)) ((ap,S.trimN np (fun j=>tp (j+ap)))):=by
  exact s65v' ap np mp tp hp np (Nat.le_refl _)
theorem k65v_ok:k65v.ok Tryz.prog:=by
  intro x hx
  obtain ⟨⟨ap,np,mp,tp,_⟩,_⟩:=x
  obtain ⟨h1,h2⟩:=a65v ap np mp tp (s65v ap np mp tp (of_dec hx rfl))
  exact ⟨⟨400,(by decide:1+1+0≤400),h1⟩,h2⟩
inductive St60 where
  |h0 (x0:Int)
abbrev Rt60:=Int
noncomputable def V60 (ap np mp:Nat) (tp:NI) (aq nq mq:Nat) (tq:NI) (r:Rt60):PV:=PV.int .i64 r
noncomputable def N60 (ap np mp:Nat) (tp:NI) (aq nq mq:Nat) (tq:NI) (r:Rt60):List Blk:= []
noncomputable def I60 (ap np mp:Nat) (tp:NI) (aq nq mq:Nat) (tq:NI):St60→Hd
  | .h0 x0=>⟨hd Tryz.f113 0,[PV.loose (PA.mk (0) (1) ap (0)) np,
 PV.loose (PA.mk (1) (1) aq (0)) nq,PV.int .i64 x0],[[],[(0,(false,.cols mp [.int .i64 tp])),(1,(false,.cols mq [.int .i64 tq]))]],2⟩
noncomputable def q60 (ap np mp:Nat) (tp:NI) (aq nq mq:Nat) (tq:NI):St60→Option (St60⊕Rt60)| .h0 x0=>bif (decide (x0≥0)) then (bif (decide ((0:Int)≤x0∧x0<(↑np:Int))) then (bif (decide (Int.toNat x0+ap<mp)) then (bif (decide ((0:Int)≤x0∧x0<(↑nq:Int))) then (bif (decide (Int.toNat x0+aq<mq)) then (bif (decide (tp (Int.toNat x0+ap)<tq (Int.toNat x0+aq))) then (some (.inr ((-1:Int)))) else (bif (decide (tp (Int.toNat x0+ap)>tq (Int.toNat x0+aq))) then (some (.inr ((1:Int)))) else (bif (lim .i64 (x0-1)) then (some (.inl (.h0 (x0-1)))) else (none)))) else (none)) else (none)) else (none)) else (none)) else (some (.inr ((0:Int))))
noncomputable def p60 (ap np mp:Nat) (tp:NI) (aq nq mq:Nat) (tq:NI):Option (St60⊕Rt60):=bif ((↑np:Int) != (↑nq:Int)) then (bif (decide ((↑np:Int)<(↑nq:Int))) then (some (.inr ((-1:Int)))) else (some (.inr ((1:Int))))) else (bif (lim .i64 ((↑np:Int)-1)) then (some (.inl (.h0 ((↑np:Int)-1)))) else (none))
noncomputable def Te60 (test:TT) (Kst:KS) (Kret:KR) (ap np mp:Nat) (tp:NI) (aq nq mq:Nat) (tq:NI):Prop:=test ((↑np:Int) != (↑nq:Int)) (test (decide ((↑np:Int)<(↑nq:Int))) (Kret (PV.int .i64 (-1:Int)) ([[(1,false,Blk.cols mq [Col.int .i64 tq]),(0,false,Blk.cols mp [Col.int .i64 tp])]]) (2)) (Kret (PV.int .i64 (1:Int)) ([[(1,false,Blk.cols mq [Col.int .i64 tq]),(0,false,Blk.cols mp [Col.int .i64 tp])]]) (2))) (test (lim .i64 ((↑np:Int)-1)) (Kst (hd Tryz.f113 0) ([PV.loose (PA.mk (0) (1) ap (0)) np,PV.loose (PA.mk (1) (1) aq (0)) nq,PV.int .i64 ((↑np:Int)-1)]) ([[(1,false,Blk.cols mq [Col.int .i64 tq]),(0,false,Blk.cols mp [Col.int .i64 tp])]]) (2)) (False))
theorem te60 (test:TT) (Kst:KS) (Kret:KR) (ap np mp:Nat) (tp:NI) (aq nq mq:Nat) (tq:NI):run test Tryz.env true noX true 400 ⟨113,[.cd (mkFn Tryz.f113).body],argT 0 [.loose ⟨0,1,ap,0⟩ np,.loose ⟨1,1,aq,0⟩ nq],[[],[(0,(false,.cols mp [.int .i64 tp])),(1,(false,.cols mq [.int .i64 tq]))]],2⟩ (proj 2 [0,1,5] Kst Kret)=
  Te60 test Kst Kret ap np mp tp aq nq mq tq:=by kernel_rfl
noncomputable abbrev u60_0_0 (mp:Nat) (tp:NI) (mq:Nat) (tq:NI):=([[(1,false,Blk.cols mq [Col.int .i64 tq]),(0,false,Blk.cols mp [Col.int .i64 tp])]])
noncomputable def T60_0 (test:TT) (Kst:KS) (Kret:KR) (ap np mp:Nat) (tp:NI) (aq nq mq:Nat) (tq:NI) (x0:Int):Prop:=test (decide (x0≥0)) (test (decide ((0:Int)≤x0∧x0<(↑np:Int))) (test (decide (Int.toNat x0+ap<mp)) (test (decide ((0:Int)≤x0∧x0<(↑nq:Int))) (test (decide (Int.toNat x0+aq<mq)) (test (decide (tp (Int.toNat x0+ap)<tq (Int.toNat x0+aq))) (Kret (PV.int .i64 (-1:Int)) (u60_0_0 mp tp mq tq) (2)) (test (decide ((0:Int)≤x0∧x0<(↑np:Int))) (test (decide (Int.toNat x0+ap<mp)) (test (decide ((0:Int)≤x0∧x0<(↑nq:Int))) (test (decide (Int.toNat x0+aq<mq)) (test (decide (tp (Int.toNat x0+ap)>tq (Int.toNat x0+aq))) (Kret (PV.int .i64 (1:Int)) (u60_0_0 mp tp mq tq) (2)) (test (lim .i64 (x0-1)) (Kst (hd Tryz.f113 0) ([PV.loose (PA.mk (0) (1) ap (0)) np,PV.loose (PA.mk (1) (1) aq (0)) nq,PV.int .i64 (x0-1)]) (u60_0_0 mp tp mq tq) (2)) (False))) (False)) (False)) (False)) (False))) (False)) (False)) (False)) (False)) (Kret (PV.int .i64 (0:Int)) (u60_0_0 mp tp mq tq) (2))
theorem t60_0 (test:TT) (Kst:KS) (Kret:KR) (ap np mp:Nat) (tp:NI) (aq nq mq:Nat) (tq:NI) (x0:Int):run test Tryz.env true noX true 400 ⟨113,hd Tryz.f113 0,zipT [0,1,5] [PV.loose (PA.mk (0) (1) ap (0)) np,
 PV.loose (PA.mk (1) (1) aq (0)) nq,PV.int .i64 x0],[[],[(0,(false,.cols mp [.int .i64 tp])),(1,(false,.cols mq [.int .i64 tq]))]],2⟩ (proj 2 [0,1,5] Kst Kret)=
  T60_0 test Kst Kret ap np mp tp aq nq mq tq x0:=by kernel_rfl
noncomputable abbrev J60 (ap np mp:Nat) (tp:NI) (aq nq mq:Nat) (tq:NI):Rt60→Heap:=fun r=> [newL (2+1) ((N60 ap np mp tp aq nq mq tq) r)++ [(0,(false,.cols mp [.int .i64 tp])),(1,(false,.cols mq [.int .i64 tq]))]]
attribute [local irreducible] Int.subNatNat in
theorem be60 (ap np mp:Nat) (tp:NI) (aq nq mq:Nat) (tq:NI) (Kst:KS) (Kret:KR) (x:St60⊕Rt60) (hS:HS 2 400 ((I60 ap np mp tp aq nq mq tq)) Kst x) (hR:HR 2 400 ((V60 ap np mp tp aq nq mq tq)) (J60 ap np mp tp aq nq mq tq) Kret x) (h:p60 ap np mp tp aq nq mq tq=some x):Te60 cond Kst Kret ap np mp tp aq nq mq tq:=by
  unfold Te60
  unfold p60 at h
  exact bif_split h (fun c0 h=>bif_split h (fun c1 h=>ret_at hR _ h (fun n=>n) rfl rfl rfl (rn_int rfl) rfl (entl_bor (use_lo rfl) rfl rfl (entl_bor (use_lo rfl) rfl rfl entl_nil))) (fun c1 h=>ret_at hR _ h (fun n=>n) rfl rfl rfl (rn_int rfl) rfl (entl_bor (use_lo rfl) rfl rfl (entl_bor (use_lo rfl) rfl rfl entl_nil)))) (fun c0 h=>bif_split h (fun c1 h=>stop_at hS _ h (fun n=>n) rfl rfl rfl ⟨(rn_loose (use_lo rfl) rfl rfl rfl),⟨(rn_loose (use_lo rfl) rfl rfl rfl),⟨(rn_int rfl),trivial⟩⟩⟩ rfl (entl_bor (use_lo rfl) rfl rfl (entl_bor (use_lo rfl) rfl rfl entl_nil))) (fun c1 h=>no_some h))
attribute [local irreducible] Int.subNatNat in
theorem b60_0 (ap np mp:Nat) (tp:NI) (aq nq mq:Nat) (tq:NI) (Kst:KS) (Kret:KR) (x:St60⊕Rt60) (hS:HS 2 400 ((I60 ap np mp tp aq nq mq tq)) Kst x) (hR:HR 2 400 ((V60 ap np mp tp aq nq mq tq)) (J60 ap np mp tp aq nq mq tq) Kret x) (x0:Int) (h:q60 ap np mp tp aq nq mq tq (.h0 x0)=some x):T60_0 cond Kst Kret ap np mp tp aq nq mq tq x0:=by
  unfold T60_0
  rw [q60] at h
  exact bif_split h (fun c0 h=>bif_split h (fun c1 h=>bif_split h (fun c2 h=>bif_split h (fun c3 h=>bif_split h (fun c4 h=>bif_split h (fun c5 h=>ret_at hR _ h (fun n=>n) rfl rfl rfl (rn_int rfl) rfl (entl_bor (use_lo rfl) rfl rfl (entl_bor (use_lo rfl) rfl rfl entl_nil))) (fun c5 h=>cond_yes c1 (cond_yes c2 (cond_yes c3 (cond_yes c4 (bif_split h (fun c6 h=>ret_at hR _ h (fun n=>n) rfl rfl rfl (rn_int rfl) rfl (entl_bor (use_lo rfl) rfl rfl (entl_bor (use_lo rfl) rfl rfl entl_nil))) (fun c6 h=>bif_split h (fun c7 h=>stop_at hS _ h (fun n=>n) rfl rfl rfl ⟨(rn_loose (use_lo rfl) rfl rfl rfl),⟨(rn_loose (use_lo rfl) rfl rfl rfl),⟨(rn_int rfl),trivial⟩⟩⟩ rfl (entl_bor (use_lo rfl) rfl rfl (entl_bor (use_lo rfl) rfl rfl entl_nil))) (fun c7 h=>no_some h)))))))) (fun c4 h=>no_some h)) (fun c3 h=>no_some h)) (fun c2 h=>no_some h)) (fun c1 h=>no_some h)) (fun c0 h=>ret_at hR _ h (fun n=>n) rfl rfl rfl (rn_int rfl) rfl (entl_bor (use_lo rfl) rfl rfl (entl_bor (use_lo rfl) rfl rfl entl_nil)))
theorem a60 (ap np mp:Nat) (tp:NI) (aq nq mq:Nat) (tq:NI) {r:Rt60} (h:Goes ((q60 ap np mp tp aq nq mq tq)) ((p60 ap np mp tp aq nq mq tq)) r):CallR Tryz.prog 113 [.loose ⟨0,1,ap,0⟩ np,.loose ⟨1,1,aq,0⟩ nq] [[(0,(false,.cols mp [.int .i64 tp])),(1,(false,.cols mq [.int .i64 tq]))]] 2 ((V60 ap np mp tp aq nq mq tq) r) ((J60 ap np mp tp aq nq mq tq) r) 400∧ ∃ F,Tryz.prog.funcs[113]? =some F∧F.body.isSome=true∧(F.name== "runtime.NumGoroutine")=false:=by
  refine dec_calls (f:=113) (lo:=2) (hi:=400) Tryz.envOk Tryz.mixed noX_ok ((I60 ap np mp tp aq nq mq tq)) ((V60 ap np mp tp aq nq mq tq)) (J60 ap np mp tp aq nq mq tq) (fn:=mkFn Tryz.f113) (ts:= [0,1,5]) (n:=400) rfl (by decide) (by simp) (names_of rfl) ?_ ?_ ?_ h
  · intro s; cases s<;>exact ⟨hd_ok _ _,by simp [I60],names_of rfl,Nat.le_of_ble_eq_true rfl⟩
  · intro Kst Kret x hS hR h
    exact Holds.eq (te60 cond Kst Kret ap np mp tp aq nq mq tq) (be60 ap np mp tp aq nq mq tq Kst Kret x hS hR h)
  · intro Kst Kret x hS hR s h
    cases s with
    |h0 x0=>exact Holds.eq (t60_0 cond Kst Kret ap np mp tp aq nq mq tq x0) (b60_0 ap np mp tp aq nq mq tq Kst Kret x hS hR x0 h)
noncomputable abbrev w60 {α:Type} (g:Nat→Nat→Nat→(Nat→Int)→Nat→Nat→Nat→(Nat→Int)→α) (x:(Nat×Nat×Nat×(Nat→Int)×Unit)×(Nat×Nat×Nat×(Nat→Int)×Unit)×Unit):α:=g x.1.1 x.1.2.1 x.1.2.2.1 x.1.2.2.2.1 x.2.1.1 x.2.1.2.1 x.2.1.2.2.1 x.2.1.2.2.2.1
noncomputable def k60:Con:=⟨113,[.one (.list [.int .i64]),.one (.list [.int .i64])],w60 (fun ap np mp tp aq nq mq tq=>decide (ap+np≤mp∧np≤1000000∧aq+nq≤mq∧nq≤1000000∧S.okG np (fun j=>tp (j+ap))=true∧S.okG nq (fun j=>tq (j+aq))=true)),w60 (fun ap np mp tp aq nq mq tq=>(V60 ap np mp tp aq nq mq tq) (S.cmpS (S.val np (fun j=>tp (j+ap))) (S.val nq (fun j=>tq (j+aq))))),w60 (fun ap np mp tp aq nq mq tq=>(N60 ap np mp tp aq nq mq tq) (S.cmpS (S.val np (fun j=>tp (j+ap))) (S.val nq (fun j=>tq (j+aq))))),fun _ _=> .dead⟩
theorem s60' (ap np mp:Nat) (tp:Nat→Int) (aq nq mq:Nat) (tq:Nat→Int) (hp:ap+np≤mp∧np≤1000000∧aq+nq≤mq∧nq≤1000000∧S.okG np (fun j=>tp (j+ap))=true∧S.okG nq (fun j=>tq (j+aq))=true) (hn:np=nq): ∀ (i:Nat),i≤np→S.valF (fun j=>tp (j+ap)) i (np-i)=S.valF (fun j=>tq (j+aq)) i (np-i)→Comes (q60 ap np mp tp aq nq mq tq) (.h0 ((i:Int)-1)) (S.cmpS (S.val np (fun j=>tp (j+ap))) (S.val nq (fun j=>tq (j+aq)))):=by
  obtain ⟨hp1,hp2,hp3,hp4,g1,g2⟩:=hp
  subst hn
  have d1:=(okG_iff.mp g1).1
  have d2:=(okG_iff.mp g2).1
  intro i
  induction i with
  | zero=>
    intro hi he
    have e:S.cmpS (S.val np (fun j=>tp (j+ap))) (S.val np (fun j=>tq (j+aq)))=0:=by
      have he:S.val np (fun j=>tp (j+ap))=S.val np (fun j=>tq (j+aq)):=he
      rw [he]
      unfold S.cmpS
      rw [if_neg (by omega),if_neg (by omega)]
    rw [e]
    apply Comes.of
    show Goes _ _ _
    (first|rw [q60]|unfold q60)
    repeat' (first|with_reducible refine goes_if (fun h=> ?_) (fun h=> ?_)<;>(try simp only [SH] at h)|exact goes_none.mpr (by omega))
    all_goals first|(exfalso; omega)|exact goes_inr.mpr rfl
  | succ i ih=>
    intro hi he
    have ih:=ih (by omega)
    have e1:(((i+1:Nat):Int)-1)=i:=by omega
    rw [e1]
    have s1:S.valF (fun j=>tp (j+ap)) i (np-i)=tp (i+ap)+1000000*S.valF (fun j=>tp (j+ap)) (i+1) (np-(i+1)):=by rw [show np-i=(np-(i+1))+1 by omega]; rfl
    have s2:S.valF (fun j=>tq (j+aq)) i (np-i)=tq (i+aq)+1000000*S.valF (fun j=>tq (j+aq)) (i+1) (np-(i+1)):=by rw [show np-i=(np-(i+1))+1 by omega]; rfl
    rw [s1,s2,he] at ih
    have l1:=valF_down d1 d2 (i:=i) (k:=np-i) (by omega)
    have l2:=valF_down d2 d1 (i:=i) (k:=np-i) (by omega)
    rw [s1,s2,he] at l1 l2
    unfold S.cmpS at*
    generalize S.valF (fun j=>tq (j+aq)) (i+1) (np-(i+1))=v at*
    apply Comes.of
    show Goes _ _ _
    (first|rw [q60]|unfold q60)
    repeat' (first|with_reducible refine goes_if (fun h=> ?_) (fun h=> ?_)<;>(try simp only [SH] at h)|exact goes_none.mpr (by omega))
    all_goals first
      |(exfalso; omega)
      |exact ih (by omega)
      |(rw [if_pos (by omega)]; exact goes_inr.mpr rfl)
      |(rw [if_neg (by omega),if_pos (by omega)]; exact goes_inr.mpr rfl)
theorem s60 (ap np mp:Nat) (tp:Nat→Int) (aq nq mq:Nat) (tq:Nat→Int) (hp:ap+np≤mp∧np≤1000000∧aq+nq≤mq∧nq≤1000000∧S.okG np (fun j=>tp (j+ap))=true∧S.okG nq (fun j=>tq (j+aq))=true):Goes ((q60 ap np mp tp aq nq mq tq)) ((p60 ap np mp tp aq nq mq tq)) (S.cmpS (S.val np (fun j=>tp (j+ap))) (S.val nq (fun j=>tq (j+aq)))):=by
  by_cases hn:np=nq
  · have hm:=s60' ap np mp tp aq nq mq tq hp hn np (Nat.le_refl _) (by rw [Nat.sub_self]; rfl)
    show Goes _ _ _
    unfold p60
    repeat' (first|with_reducible refine goes_if (fun h=> ?_) (fun h=> ?_)<;>(try simp only [SH] at h)|exact goes_none.mpr (by omega))
    all_goals first|(exfalso; omega)|exact hm
  · obtain ⟨hp1,hp2,hp3,hp4,g1,g2⟩:=hp
    rcases Nat.lt_or_gt_of_ne hn with h|h
    · have hv:=val_short h g1 g2
      unfold S.cmpS
      rw [if_pos hv]
      show Goes _ _ _
      unfold p60
      repeat' (first|with_reducible refine goes_if (fun h=> ?_) (fun h=> ?_)<;>(try simp only [SH] at h)|exact goes_none.mpr (by omega))
      all_goals first|(exfalso; omega)|exact goes_inr.mpr rfl
    · have hv:=val_short h g2 g1
      unfold S.cmpS
      rw [if_neg (by omega),if_pos hv]
      show Goes _ _ _
      unfold p60
      repeat' (first|with_reducible refine goes_if (fun h=> ?_) (fun h=> ?_)<;>(try simp only [SH] at h)|exact goes_none.mpr (by omega))
      all_goals first|(exfalso; omega)|exact goes_inr.mpr rfl
theorem k60_ok:k60.ok Tryz.prog:=by
  intro x hx
  obtain ⟨⟨ap,np,mp,tp,_⟩,⟨aq,nq,mq,tq,_⟩,_⟩:=x
  obtain ⟨h1,h2⟩:=a60 ap np mp tp aq nq mq tq (s60 ap np mp tp aq nq mq tq (of_dec hx rfl))
  exact ⟨⟨400,(by decide:2+1+0≤400),h1⟩,h2⟩
inductive St61 where
  |h0 (x0:Int)
abbrev Rt61:=Int
noncomputable def V61 (ap np mp:Nat) (tp:NI) (aq nq mq:Nat) (tq:NI) (r:Rt61):PV:=PV.int .i64 r
noncomputable def N61 (ap np mp:Nat) (tp:NI) (aq nq mq:Nat) (tq:NI) (r:Rt61):List Blk:= []
noncomputable def I61 (ap np mp:Nat) (tp:NI) (aq nq mq:Nat) (tq:NI):St61→Hd
  | .h0 x0=>⟨hd Tryz.f119 0,[PV.loose (PA.mk (0) (1) ap (0)) np,
 PV.loose (PA.mk (1) (1) aq (0)) nq,PV.int .i64 x0],[[],[(0,(false,.cols mp [.int .i64 tp])),(1,(false,.cols mq [.int .i64 tq]))]],2⟩
noncomputable def q61 (ap np mp:Nat) (tp:NI) (aq nq mq:Nat) (tq:NI):St61→Option (St61⊕Rt61)| .h0 x0=>bif (decide (x0≥0)) then (bif (decide ((0:Int)≤x0∧x0<(↑np:Int))) then (bif (decide (Int.toNat x0+ap<mp)) then (bif (decide ((0:Int)≤x0∧x0<(↑nq:Int))) then (bif (decide (Int.toNat x0+aq<mq)) then (bif (decide (tp (Int.toNat x0+ap)<tq (Int.toNat x0+aq))) then (some (.inr ((-1:Int)))) else (bif (decide (tp (Int.toNat x0+ap)>tq (Int.toNat x0+aq))) then (some (.inr ((1:Int)))) else (bif (lim .i64 (x0-1)) then (some (.inl (.h0 (x0-1)))) else (none)))) else (none)) else (none)) else (none)) else (none)) else (some (.inr ((0:Int))))
noncomputable def p61 (ap np mp:Nat) (tp:NI) (aq nq mq:Nat) (tq:NI):Option (St61⊕Rt61):=bif (decide ((↑np:Int)<(↑nq:Int))) then (some (.inr ((-1:Int)))) else (bif (decide ((↑np:Int)>(↑nq:Int))) then (some (.inr ((1:Int)))) else (bif (lim .i64 ((↑np:Int)-1)) then (some (.inl (.h0 ((↑np:Int)-1)))) else (none)))
noncomputable def Te61 (test:TT) (Kst:KS) (Kret:KR) (ap np mp:Nat) (tp:NI) (aq nq mq:Nat) (tq:NI):Prop:=test (decide ((↑np:Int)<(↑nq:Int))) (Kret (PV.int .i64 (-1:Int)) ([[(1,false,Blk.cols mq [Col.int .i64 tq]),(0,false,Blk.cols mp [Col.int .i64 tp])]]) (2)) (test (decide ((↑np:Int)>(↑nq:Int))) (Kret (PV.int .i64 (1:Int)) ([[(1,false,Blk.cols mq [Col.int .i64 tq]),(0,false,Blk.cols mp [Col.int .i64 tp])]]) (2)) (test (lim .i64 ((↑np:Int)-1)) (Kst (hd Tryz.f119 0) ([PV.loose (PA.mk (0) (1) ap (0)) np,PV.loose (PA.mk (1) (1) aq (0)) nq,PV.int .i64 ((↑np:Int)-1)]) ([[(1,false,Blk.cols mq [Col.int .i64 tq]),(0,false,Blk.cols mp [Col.int .i64 tp])]]) (2)) (False)))
theorem te61 (test:TT) (Kst:KS) (Kret:KR) (ap np mp:Nat) (tp:NI) (aq nq mq:Nat) (tq:NI):run test Tryz.env true noX true 400 ⟨119,[.cd (mkFn Tryz.f119).body],argT 0 [.loose ⟨0,1,ap,0⟩ np,.loose ⟨1,1,aq,0⟩ nq],[[],[(0,(false,.cols mp [.int .i64 tp])),(1,(false,.cols mq [.int .i64 tq]))]],2⟩ (proj 2 [0,1,5] Kst Kret)=
  Te61 test Kst Kret ap np mp tp aq nq mq tq:=by kernel_rfl
noncomputable abbrev u61_0_0 (mp:Nat) (tp:NI) (mq:Nat) (tq:NI):=([[(1,false,Blk.cols mq [Col.int .i64 tq]),(0,false,Blk.cols mp [Col.int .i64 tp])]])
noncomputable def T61_0 (test:TT) (Kst:KS) (Kret:KR) (ap np mp:Nat) (tp:NI) (aq nq mq:Nat) (tq:NI) (x0:Int):Prop:=test (decide (x0≥0)) (test (decide ((0:Int)≤x0∧x0<(↑np:Int))) (test (decide (Int.toNat x0+ap<mp)) (test (decide ((0:Int)≤x0∧x0<(↑nq:Int))) (test (decide (Int.toNat x0+aq<mq)) (test (decide (tp (Int.toNat x0+ap)<tq (Int.toNat x0+aq))) (Kret (PV.int .i64 (-1:Int)) (u61_0_0 mp tp mq tq) (2)) (test (decide ((0:Int)≤x0∧x0<(↑np:Int))) (test (decide (Int.toNat x0+ap<mp)) (test (decide ((0:Int)≤x0∧x0<(↑nq:Int))) (test (decide (Int.toNat x0+aq<mq)) (test (decide (tp (Int.toNat x0+ap)>tq (Int.toNat x0+aq))) (Kret (PV.int .i64 (1:Int)) (u61_0_0 mp tp mq tq) (2)) (test (lim .i64 (x0-1)) (Kst (hd Tryz.f119 0) ([PV.loose (PA.mk (0) (1) ap (0)) np,PV.loose (PA.mk (1) (1) aq (0)) nq,PV.int .i64 (x0-1)]) (u61_0_0 mp tp mq tq) (2)) (False))) (False)) (False)) (False)) (False))) (False)) (False)) (False)) (False)) (Kret (PV.int .i64 (0:Int)) (u61_0_0 mp tp mq tq) (2))
theorem t61_0 (test:TT) (Kst:KS) (Kret:KR) (ap np mp:Nat) (tp:NI) (aq nq mq:Nat) (tq:NI) (x0:Int):run test Tryz.env true noX true 400 ⟨119,hd Tryz.f119 0,zipT [0,1,5] [PV.loose (PA.mk (0) (1) ap (0)) np,
 PV.loose (PA.mk (1) (1) aq (0)) nq,PV.int .i64 x0],[[],[(0,(false,.cols mp [.int .i64 tp])),(1,(false,.cols mq [.int .i64 tq]))]],2⟩ (proj 2 [0,1,5] Kst Kret)=
  T61_0 test Kst Kret ap np mp tp aq nq mq tq x0:=by kernel_rfl
noncomputable abbrev J61 (ap np mp:Nat) (tp:NI) (aq nq mq:Nat) (tq:NI):Rt61→Heap:=fun r=> [newL (2+1) ((N61 ap np mp tp aq nq mq tq) r)++ [(0,(false,.cols mp [.int .i64 tp])),(1,(false,.cols mq [.int .i64 tq]))]]
attribute [local irreducible] Int.subNatNat in
theorem be61 (ap np mp:Nat) (tp:NI) (aq nq mq:Nat) (tq:NI) (Kst:KS) (Kret:KR) (x:St61⊕Rt61) (hS:HS 2 400 ((I61 ap np mp tp aq nq mq tq)) Kst x) (hR:HR 2 400 ((V61 ap np mp tp aq nq mq tq)) (J61 ap np mp tp aq nq mq tq) Kret x) (h:p61 ap np mp tp aq nq mq tq=some x):Te61 cond Kst Kret ap np mp tp aq nq mq tq:=by
  unfold Te61
  unfold p61 at h
  exact bif_split h (fun c0 h=>ret_at hR _ h (fun n=>n) rfl rfl rfl (rn_int rfl) rfl (entl_bor (use_lo rfl) rfl rfl (entl_bor (use_lo rfl) rfl rfl entl_nil))) (fun c0 h=>bif_split h (fun c1 h=>ret_at hR _ h (fun n=>n) rfl rfl rfl (rn_int rfl) rfl (entl_bor (use_lo rfl) rfl rfl (entl_bor (use_lo rfl) rfl rfl entl_nil))) (fun c1 h=>bif_split h (fun c2 h=>stop_at hS _ h (fun n=>n) rfl rfl rfl ⟨(rn_loose (use_lo rfl) rfl rfl rfl),⟨(rn_loose (use_lo rfl) rfl rfl rfl),⟨(rn_int rfl),trivial⟩⟩⟩ rfl (entl_bor (use_lo rfl) rfl rfl (entl_bor (use_lo rfl) rfl rfl entl_nil))) (fun c2 h=>no_some h)))
attribute [local irreducible] Int.subNatNat in
theorem b61_0 (ap np mp:Nat) (tp:NI) (aq nq mq:Nat) (tq:NI) (Kst:KS) (Kret:KR) (x:St61⊕Rt61) (hS:HS 2 400 ((I61 ap np mp tp aq nq mq tq)) Kst x) (hR:HR 2 400 ((V61 ap np mp tp aq nq mq tq)) (J61 ap np mp tp aq nq mq tq) Kret x) (x0:Int) (h:q61 ap np mp tp aq nq mq tq (.h0 x0)=some x):T61_0 cond Kst Kret ap np mp tp aq nq mq tq x0:=by
  unfold T61_0
  rw [q61] at h
  exact bif_split h (fun c0 h=>bif_split h (fun c1 h=>bif_split h (fun c2 h=>bif_split h (fun c3 h=>bif_split h (fun c4 h=>bif_split h (fun c5 h=>ret_at hR _ h (fun n=>n) rfl rfl rfl (rn_int rfl) rfl (entl_bor (use_lo rfl) rfl rfl (entl_bor (use_lo rfl) rfl rfl entl_nil))) (fun c5 h=>cond_yes c1 (cond_yes c2 (cond_yes c3 (cond_yes c4 (bif_split h (fun c6 h=>ret_at hR _ h (fun n=>n) rfl rfl rfl (rn_int rfl) rfl (entl_bor (use_lo rfl) rfl rfl (entl_bor (use_lo rfl) rfl rfl entl_nil))) (fun c6 h=>bif_split h (fun c7 h=>stop_at hS _ h (fun n=>n) rfl rfl rfl ⟨(rn_loose (use_lo rfl) rfl rfl rfl),⟨(rn_loose (use_lo rfl) rfl rfl rfl),⟨(rn_int rfl),trivial⟩⟩⟩ rfl (entl_bor (use_lo rfl) rfl rfl (entl_bor (use_lo rfl) rfl rfl entl_nil))) (fun c7 h=>no_some h)))))))) (fun c4 h=>no_some h)) (fun c3 h=>no_some h)) (fun c2 h=>no_some h)) (fun c1 h=>no_some h)) (fun c0 h=>ret_at hR _ h (fun n=>n) rfl rfl rfl (rn_int rfl) rfl (entl_bor (use_lo rfl) rfl rfl (entl_bor (use_lo rfl) rfl rfl entl_nil)))
theorem a61 (ap np mp:Nat) (tp:NI) (aq nq mq:Nat) (tq:NI) {r:Rt61} (h:Goes ((q61 ap np mp tp aq nq mq tq)) ((p61 ap np mp tp aq nq mq tq)) r):CallR Tryz.prog 119 [.loose ⟨0,1,ap,0⟩ np,.loose ⟨1,1,aq,0⟩ nq] [[(0,(false,.cols mp [.int .i64 tp])),(1,(false,.cols mq [.int .i64 tq]))]] 2 ((V61 ap np mp tp aq nq mq tq) r) ((J61 ap np mp tp aq nq mq tq) r) 400∧ ∃ F,Tryz.prog.funcs[119]? =some F∧F.body.isSome=true∧(F.name== "runtime.NumGoroutine")=false:=by
  refine dec_calls (f:=119) (lo:=2) (hi:=400) Tryz.envOk Tryz.mixed noX_ok ((I61 ap np mp tp aq nq mq tq)) ((V61 ap np mp tp aq nq mq tq)) (J61 ap np mp tp aq nq mq tq) (fn:=mkFn Tryz.f119) (ts:= [0,1,5]) (n:=400) rfl (by decide) (by simp) (names_of rfl) ?_ ?_ ?_ h
  · intro s; cases s<;>exact ⟨hd_ok _ _,by simp [I61],names_of rfl,Nat.le_of_ble_eq_true rfl⟩
  · intro Kst Kret x hS hR h
    exact Holds.eq (te61 cond Kst Kret ap np mp tp aq nq mq tq) (be61 ap np mp tp aq nq mq tq Kst Kret x hS hR h)
  · intro Kst Kret x hS hR s h
    cases s with
    |h0 x0=>exact Holds.eq (t61_0 cond Kst Kret ap np mp tp aq nq mq tq x0) (b61_0 ap np mp tp aq nq mq tq Kst Kret x hS hR x0 h)
noncomputable abbrev w61 {α:Type} (g:Nat→Nat→Nat→(Nat→Int)→Nat→Nat→Nat→(Nat→Int)→α) (x:(Nat×Nat×Nat×(Nat→Int)×Unit)×(Nat×Nat×Nat×(Nat→Int)×Unit)×Unit):α:=g x.1.1 x.1.2.1 x.1.2.2.1 x.1.2.2.2.1 x.2.1.1 x.2.1.2.1 x.2.1.2.2.1 x.2.1.2.2.2.1
noncomputable def k61:Con:=⟨119,[.one (.list [.int .i64]),.one (.list [.int .i64])],w61 (fun ap np mp tp aq nq mq tq=>decide (ap+np≤mp∧np≤1000000∧aq+nq≤mq∧nq≤1000000∧S.okG np (fun j=>tp (j+ap))=true∧S.okG nq (fun j=>tq (j+aq))=true)),w61 (fun ap np mp tp aq nq mq tq=>(V61 ap np mp tp aq nq mq tq) (S.cmpS (S.val np (fun j=>tp (j+ap))) (S.val nq (fun j=>tq (j+aq))))),w61 (fun ap np mp tp aq nq mq tq=>(N61 ap np mp tp aq nq mq tq) (S.cmpS (S.val np (fun j=>tp (j+ap))) (S.val nq (fun j=>tq (j+aq))))),fun _ _=> .dead⟩
theorem s61' (ap np mp:Nat) (tp:Nat→Int) (aq nq mq:Nat) (tq:Nat→Int) (hp:ap+np≤mp∧np≤1000000∧aq+nq≤mq∧nq≤1000000∧S.okG np (fun j=>tp (j+ap))=true∧S.okG nq (fun j=>tq (j+aq))=true) (hn:np=nq): ∀ (i:Nat),i≤np→S.valF (fun j=>tp (j+ap)) i (np-i)=S.valF (fun j=>tq (j+aq)) i (np-i)→Comes (q61 ap np mp tp aq nq mq tq) (.h0 ((i:Int)-1)) (S.cmpS (S.val np (fun j=>tp (j+ap))) (S.val nq (fun j=>tq (j+aq)))):=by
  obtain ⟨hp1,hp2,hp3,hp4,g1,g2⟩:=hp
  subst hn
  have d1:=(okG_iff.mp g1).1
  have d2:=(okG_iff.mp g2).1
  intro i
  induction i with
  | zero=>
    intro hi he
    have e:S.cmpS (S.val np (fun j=>tp (j+ap))) (S.val np (fun j=>tq (j+aq)))=0:=by
      have he:S.val np (fun j=>tp (j+ap))=S.val np (fun j=>tq (j+aq)):=he
      rw [he]
      unfold S.cmpS
      rw [if_neg (by omega),if_neg (by omega)]
    rw [e]
    apply Comes.of
    show Goes _ _ _
    (first|rw [q61]|unfold q61)
    repeat' (first|with_reducible refine goes_if (fun h=> ?_) (fun h=> ?_)<;>(try simp only [SH] at h)|exact goes_none.mpr (by omega))
    all_goals first|(exfalso; omega)|exact goes_inr.mpr rfl
  | succ i ih=>
    intro hi he
    have ih:=ih (by omega)
    have e1:(((i+1:Nat):Int)-1)=i:=by omega
    rw [e1]
    have s1:S.valF (fun j=>tp (j+ap)) i (np-i)=tp (i+ap)+1000000*S.valF (fun j=>tp (j+ap)) (i+1) (np-(i+1)):=by rw [show np-i=(np-(i+1))+1 by omega]; rfl
    have s2:S.valF (fun j=>tq (j+aq)) i (np-i)=tq (i+aq)+1000000*S.valF (fun j=>tq (j+aq)) (i+1) (np-(i+1)):=by rw [show np-i=(np-(i+1))+1 by omega]; rfl
    rw [s1,s2,he] at ih
    have l1:=valF_down d1 d2 (i:=i) (k:=np-i) (by omega)
    have l2:=valF_down d2 d1 (i:=i) (k:=np-i) (by omega)
    rw [s1,s2,he] at l1 l2
    unfold S.cmpS at*
    generalize S.valF (fun j=>tq (j+aq)) (i+1) (np-(i+1))=v at*
    apply Comes.of
    show Goes _ _ _
    (first|rw [q61]|unfold q61)
    repeat' (first|with_reducible refine goes_if (fun h=> ?_) (fun h=> ?_)<;>(try simp only [SH] at h)|exact goes_none.mpr (by omega))
    all_goals first
      |(exfalso; omega)
      |exact ih (by omega)
      |(rw [if_pos (by omega)]; exact goes_inr.mpr rfl)
      |(rw [if_neg (by omega),if_pos (by omega)]; exact goes_inr.mpr rfl)
theorem s61 (ap np mp:Nat) (tp:Nat→Int) (aq nq mq:Nat) (tq:Nat→Int) (hp:ap+np≤mp∧np≤1000000∧aq+nq≤mq∧nq≤1000000∧S.okG np (fun j=>tp (j+ap))=true∧S.okG nq (fun j=>tq (j+aq))=true):Goes ((q61 ap np mp tp aq nq mq tq)) ((p61 ap np mp tp aq nq mq tq)) (S.cmpS (S.val np (fun j=>tp (j+ap))) (S.val nq (fun j=>tq (j+aq)))):=by
  by_cases hn:np=nq
  · have hm:=s61' ap np mp tp aq nq mq tq hp hn np (Nat.le_refl _) (by rw [Nat.sub_self]; rfl)
    show Goes _ _ _
    unfold p61
    repeat' (first|with_reducible refine goes_if (fun h=> ?_) (fun h=> ?_)<;>(try simp only [SH] at h)|exact goes_none.mpr (by omega))
    all_goals first|(exfalso; omega)|exact hm
  · obtain ⟨hp1,hp2,hp3,hp4,g1,g2⟩:=hp
    rcases Nat.lt_or_gt_of_ne hn with h|h
    · have hv:=val_short h g1 g2
      unfold S.cmpS
      rw [if_pos hv]
      show Goes _ _ _
      unfold p61
      repeat' (first|with_reducible refine goes_if (fun h=> ?_) (fun h=> ?_)<;>(try simp only [SH] at h)|exact goes_none.mpr (by omega))
      all_goals first|(exfalso; omega)|exact goes_inr.mpr rfl
    · have hv:=val_short h g2 g1
      unfold S.cmpS
      rw [if_neg (by omega),if_pos hv]
      show Goes _ _ _
      unfold p61
      repeat' (first|with_reducible refine goes_if (fun h=> ?_) (fun h=> ?_)<;>(try simp only [SH] at h)|exact goes_none.mpr (by omega))
      all_goals first|(exfalso; omega)|exact goes_inr.mpr rfl
theorem k61_ok:k61.ok Tryz.prog:=by
  intro x hx
  obtain ⟨⟨ap,np,mp,tp,_⟩,⟨aq,nq,mq,tq,_⟩,_⟩:=x
  obtain ⟨h1,h2⟩:=a61 ap np mp tp aq nq mq tq (s61 ap np mp tp aq nq mq tq (of_dec hx rfl))
  exact ⟨⟨400,(by decide:2+1+0≤400),h1⟩,h2⟩
namespace S
def pw:Nat→Int
  |0=>1
  |k+1=>1000000*pw k
def ext (n:Nat) (t:Nat→Int) (j:Nat):Int:=if j<n then t j else 0
end S
theorem tdB {x:Int} (h:0≤x):Int.tdiv x 1000000=x / 1000000:=Int.tdiv_eq_ediv_of_nonneg h
theorem tmB {x:Int} (h:0≤x):Int.tmod x 1000000=x % 1000000:=Int.tmod_eq_emod_of_nonneg h
theorem limu {x:Int}:lim .u64 x=decide (0≤x∧x≤18446744073709551615):=rfl
theorem grp_one:S.grp 1= [1]:=by rw [grp_pos (by decide),show (1:Int) % 1000000=1 from by decide,show (1:Int) / 1000000=0 from by decide,grp_zero]
theorem wr64 {x:Int} (h:0≤x∧x<1000000):IntKind.i64.wrap x=x:=by rw [IntKind.wrap_i64]; omega
theorem suf_pos {n:Nat} {t:Nat→Int} (h:S.okG n t=true) {i:Nat} (hi:i<n):0<S.valF t i (n-i):=by
  obtain ⟨h1,h2⟩:=okG_iff.mp h
  exact valF_short (t:=t) (m:=0) (by omega) (fun j h1 h2=>by omega) (fun j _ hj=>h1 j (by omega)) (by rw [show i+(n-i)-1=n-1 by omega]; exact h2.resolve_left (by omega))
theorem suf_step {t:Nat→Int} {n i:Nat} (hi:i<n):S.valF t i (n-i)=t i+1000000*S.valF t (i+1) (n-(i+1)):=by
  rw [show n-i=(n-(i+1))+1 by omega]; rfl
theorem suf_nn {n:Nat} {t:Nat→Int} (h: ∀ j,j<n→0≤t j∧t j<1000000) {i:Nat}:0≤S.valF t i (n-i):=by
  by_cases hi:i≤n
  · exact valF_nn fun j h1 h2=>(h j (by omega)).1
  · rw [show n-i=0 by omega]; exact Int.le_refl _
theorem ext_val {n:Nat} {t:Nat→Int}: ∀ {k i:Nat},S.valF (S.ext n t) i k=S.valF t i (min k (n-i))
  |0,i=>by rw [Nat.zero_min]; rfl
  | k +1,i=>by
    simp only [S.valF]
    rw [ext_val]
    by_cases h:i<n
    · rw [show min (k+1) (n-i)=(min k (n-(i+1)))+1 by omega]
      simp only [S.valF,S.ext,if_pos h]
    · rw [show min (k+1) (n-i)=0 by omega,show min k (n-(i+1))=0 by omega]
      simp only [S.valF,S.ext,if_neg h]
      rfl
theorem ext_dig {n:Nat} {t:Nat→Int} (h: ∀ j,j<n→0≤t j∧t j<1000000) (j:Nat):0≤S.ext n t j∧S.ext n t j<1000000:=by
  unfold S.ext
  split
  · rename_i hj; exact h j hj
  · omega
theorem snoc_app {L D:List Int} {x:Int}:S.snoc L x++D=L++(x::D):=by simp [S.snoc]
theorem mk_snoc {L:List Int} {c:Int}:(S.mkl (L.length+1) fun j=>bif Nat.blt j L.length then S.at' L j else c)=L++ [c]:=by
  rw [mkl_succ,snoc_eq]
  congr 1
  · rw [mkl_congr (g:=S.at' L) fun j hj=>by rw [Nat.blt_eq.mpr hj,cond_true],mkl_at]
  · rw [show Nat.blt L.length L.length=false by rw [Bool.eq_false_iff]; exact fun e=>absurd (Nat.blt_eq.mp e) (Nat.lt_irrefl _),cond_false]
theorem dig_cons {x:Int} {D:List Int} (hx:0≤x∧x<1000000) (h: ∀ y ∈ D,0≤y∧y<1000000): ∀ y ∈ x::D,0≤y∧y<1000000:=fun y hy=>by
  rcases List.mem_cons.mp hy with rfl|hy
  · exact hx
  · exact h y hy
noncomputable abbrev w45 {α:Type} (g:Nat→Nat→Nat→(Nat→Int)→α) (x:(Nat×Nat×Nat×(Nat→Int)×Unit)×Unit):α:=g x.1.1 x.1.2.1 x.1.2.2.1 x.1.2.2.2.1
noncomputable def k45:Con:=⟨138,[.one (.list [.int .i64])],w45 (fun aa na ma ta=>decide (aa+na≤ma∧na≤1000000)),w45 (fun aa na ma ta=> .own 2 1 na),w45 (fun aa na ma ta=> [.cols na [.int .i64 (fun j=>ta (j+aa))]]),fun _ _=> .dead⟩
theorem e45s (test:Bool→Prop→Prop→Prop) (Kst:List It→List PV→Heap→Nat→Prop) (Kret:PV→Heap→Nat→Prop) (aa na ma:Nat) (ta:Nat→Int):
  (run test Tryz.env true noX true 300 ⟨138,[.cd (mkFn Tryz.f138).body],argT 0 [.sl ⟨0,1,aa,0⟩ na],[[],[(0,(false,.cols ma [.int .i64 ta]))]],1⟩ (proj 1 [] Kst Kret))=
  (test (decide (0+na≤1000000))
  (test true
    (test (decide (aa+na≤ma))
      (Kret (PV.own (2) (1) (0+na))
        [[(0,false,Blk.cols ma [Col.int IntKind.i64 ta]),
            (2,true,Blk.cols (0+na) [Col.int IntKind.i64 fun j=>ta (j+aa)])]]
        (3))
      False)
    False)
  False):=by kernel_rfl
theorem c45s (aa na ma:Nat) (ta:NI) (hp:aa+na≤ma∧na≤1000000) (h0:0<na):CallR Tryz.prog 138 [.sl ⟨0,1,aa,0⟩ na] [[(0,(false,.cols ma [.int .i64 ta]))]] 1 (.own 2 1 na) [(2,(true,.cols na [.int .i64 (fun j=>ta (j+aa))])):: [(0,(false,.cols ma [.int .i64 ta]))]] 40∧ ∃ F,Tryz.prog.funcs[138]? =some F∧F.body.isSome=true∧(F.name== "runtime.NumGoroutine")=false:=by
  refine @ret_eq _ _ Tryz.envOk Tryz.mixed _ noX_ok 138 (mkFn Tryz.f138) [.sl ⟨0,1,aa,0⟩ na] [[(0,(false,.cols ma [.int .i64 ta]))]] [(2,(true,.cols na [.int .i64 (fun j=>ta (j+aa))])):: [(0,(false,.cols ma [.int .i64 ta]))]] 1 40 (.own 2 1 na) true 300 rfl (by decide) (by simp) (names_of rfl) _ (e45s cond _ _ aa na ma ta) ?_
  repeat' first
    |with_reducible refine cond_yes rfl ?_
    |with_reducible refine cond_no rfl ?_
    |(with_reducible refine cond_intro (fun h=> ?_) (fun h=> ?_))<;>(try simp only [lim64,decide_eq_true_eq,decide_eq_false_iff_not,reduceCtorEq,Int.toNat_natCast,Bool.not_eq_true',Bool.not_eq_false',Bool.and_eq_true,Bool.or_eq_true,Bool.and_eq_false_iff,Bool.or_eq_false_iff,bne_iff_ne,beq_iff_eq,bne_eq_false_iff_eq,beq_eq_false_iff_ne,ne_eq] at h)
  all_goals first
    |with_reducible apply ret_k
    |omega
  repeat' first
    |with_reducible exact rns_nil
    |with_reducible refine rns_cons ?_ ?_
    |with_reducible refine rn_tup ?_
    |with_reducible refine rn_agg ?_
    |with_reducible refine rn_int ?_
    |with_reducible refine rn_tf ?_
    |with_reducible refine rn_bool_tf ?_
    |with_reducible refine rn_bool ?_
    |with_reducible refine rn_str ?_
    |with_reducible exact rn_nils
    |with_reducible refine rn_own_nils ?_
    |with_reducible refine rn_own ?_ ?_ ?_
    |with_reducible refine rn_own_sl ?_ ?_ ?_ ?_ ?_
    |with_reducible refine rn_own_loose ?_ ?_ ?_ ?_
    |with_reducible refine rn_loose ?_ ?_ ?_ ?_
    |with_reducible refine rn_loose_sl ?_ ?_ ?_ ?_
    |exact use_lo rfl
    |exact use_own rfl
    |exact nm_k rfl
    |exact nm_lo rfl
    |((with_reducible refine (id:pos _=pos _→_) ?_); exact rfl)
    |((with_reducible refine (id:pos _=0→_) ?_); exact rfl)
    |((with_reducible refine (id:Nat.ble _ _=true→_) ?_); exact rfl)
    |((with_reducible refine (id:injL _ _=true→_) ?_); exact rfl)
    |((with_reducible refine (id:plainC _=true→_) ?_); exact rfl)
    |((with_reducible refine (id:hget _ _=some _→_) ?_); exact rfl)
    |with_reducible exact (id:(_:Bool)=true→_=true)
    |with_reducible exact entl_nil
    |with_reducible refine entl_bor ?_ ?_ ?_ ?_
    |refine entl_new (use_own rfl) (by rfl) ?_ ?_ ?_
    |refine entl_rows (use_own rfl) (by rfl) rfl ?_ (nthc_all ?_) ?_
    |refine entl_zero (use_own rfl) (by rfl) (by simp) (by omega) ?_
    |with_reducible exact rcs_nil
    |with_reducible refine rcs_int (fun j hj=> ?_) ?_
    |with_reducible refine rcs_bool (fun j hj=> ?_) ?_
    |with_reducible refine rcs_str (fun j hj=> ?_) ?_
    |refine entl_fresh (k:=2) (use_own rfl) (fresh_ok (n:=39) rfl) ?_
    |with_reducible rfl
  all_goals try exact (0:Nat)
  all_goals try ((with_reducible refine (id:injL _ _=true→_) ?_); exact rfl)
  all_goals first
    |omega
    |skip
theorem e45z (test:Bool→Prop→Prop→Prop) (Kst:List It→List PV→Heap→Nat→Prop) (Kret:PV→Heap→Nat→Prop) (aa na ma:Nat) (ta:Nat→Int):
  (run test Tryz.env true noX true 300 ⟨138,[.cd (mkFn Tryz.f138).body],argT 0 [.zer true],[[],[(0,(false,.cols ma [.int .i64 ta]))]],1⟩ (proj 1 [] Kst Kret))=
  (Kret (PV.own (1) (1) (0))
  [[(0,false,Blk.cols ma [Col.int IntKind.i64 ta]),(1,true,Blk.cells [])]] (2)):=by kernel_rfl
theorem c45z (aa na ma:Nat) (ta:NI) (hp:aa+na≤ma∧na≤1000000) (h0:na=0):CallR Tryz.prog 138 [.zer true] [[(0,(false,.cols ma [.int .i64 ta]))]] 1 (.own 2 1 na) [(2,(true,.cols na [.int .i64 (fun j=>ta (j+aa))])):: [(0,(false,.cols ma [.int .i64 ta]))]] 40∧ ∃ F,Tryz.prog.funcs[138]? =some F∧F.body.isSome=true∧(F.name== "runtime.NumGoroutine")=false:=by
  refine @ret_eq _ _ Tryz.envOk Tryz.mixed _ noX_ok 138 (mkFn Tryz.f138) [.zer true] [[(0,(false,.cols ma [.int .i64 ta]))]] [(2,(true,.cols na [.int .i64 (fun j=>ta (j+aa))])):: [(0,(false,.cols ma [.int .i64 ta]))]] 1 40 (.own 2 1 na) true 300 rfl (by decide) (by simp) (names_of rfl) _ (e45z cond _ _ aa na ma ta) ?_
  repeat' first
    |with_reducible refine cond_yes rfl ?_
    |with_reducible refine cond_no rfl ?_
    |(with_reducible refine cond_intro (fun h=> ?_) (fun h=> ?_))<;>(try simp only [lim64,decide_eq_true_eq,decide_eq_false_iff_not,reduceCtorEq,Int.toNat_natCast,Bool.not_eq_true',Bool.not_eq_false',Bool.and_eq_true,Bool.or_eq_true,Bool.and_eq_false_iff,Bool.or_eq_false_iff,bne_iff_ne,beq_iff_eq,bne_eq_false_iff_eq,beq_eq_false_iff_ne,ne_eq] at h)
  all_goals first
    |with_reducible apply ret_k
    |omega
  repeat' first
    |with_reducible exact rns_nil
    |with_reducible refine rns_cons ?_ ?_
    |with_reducible refine rn_tup ?_
    |with_reducible refine rn_agg ?_
    |with_reducible refine rn_int ?_
    |with_reducible refine rn_tf ?_
    |with_reducible refine rn_bool_tf ?_
    |with_reducible refine rn_bool ?_
    |with_reducible refine rn_str ?_
    |with_reducible exact rn_nils
    |with_reducible refine rn_own_nils ?_
    |with_reducible refine rn_own ?_ ?_ ?_
    |with_reducible refine rn_own_sl ?_ ?_ ?_ ?_ ?_
    |with_reducible refine rn_own_loose ?_ ?_ ?_ ?_
    |with_reducible refine rn_loose ?_ ?_ ?_ ?_
    |with_reducible refine rn_loose_sl ?_ ?_ ?_ ?_
    |exact use_lo rfl
    |exact use_own rfl
    |exact nm_k rfl
    |exact nm_lo rfl
    |((with_reducible refine (id:pos _=pos _→_) ?_); exact rfl)
    |((with_reducible refine (id:pos _=0→_) ?_); exact rfl)
    |((with_reducible refine (id:Nat.ble _ _=true→_) ?_); exact rfl)
    |((with_reducible refine (id:injL _ _=true→_) ?_); exact rfl)
    |((with_reducible refine (id:plainC _=true→_) ?_); exact rfl)
    |((with_reducible refine (id:hget _ _=some _→_) ?_); exact rfl)
    |with_reducible exact (id:(_:Bool)=true→_=true)
    |with_reducible exact entl_nil
    |with_reducible refine entl_bor ?_ ?_ ?_ ?_
    |refine entl_new (use_own rfl) (by rfl) ?_ ?_ ?_
    |refine entl_rows (use_own rfl) (by rfl) rfl ?_ (nthc_all ?_) ?_
    |refine entl_zero (use_own rfl) (by rfl) (by simp) (by omega) ?_
    |with_reducible exact rcs_nil
    |with_reducible refine rcs_int (fun j hj=> ?_) ?_
    |with_reducible refine rcs_bool (fun j hj=> ?_) ?_
    |with_reducible refine rcs_str (fun j hj=> ?_) ?_
    |refine entl_fresh (k:=2) (use_own rfl) (fresh_ok (n:=39) rfl) ?_
    |with_reducible rfl
  all_goals try exact (0:Nat)
  all_goals try ((with_reducible refine (id:injL _ _=true→_) ?_); exact rfl)
  all_goals first
    |omega
    |skip
theorem e45y (test:Bool→Prop→Prop→Prop) (Kst:List It→List PV→Heap→Nat→Prop) (Kret:PV→Heap→Nat→Prop) (aa na ma:Nat) (ta:Nat→Int):
  (run test Tryz.env true noX true 300 ⟨138,[.cd (mkFn Tryz.f138).body],argT 0 [.zer false],[[],[(0,(false,.cols ma [.int .i64 ta]))]],1⟩ (proj 1 [] Kst Kret))=
  (Kret PV.nils [[(0,false,Blk.cols ma [Col.int IntKind.i64 ta])]] (1)):=by kernel_rfl
theorem c45y (aa na ma:Nat) (ta:NI) (hp:aa+na≤ma∧na≤1000000) (h0:na=0):CallR Tryz.prog 138 [.zer false] [[(0,(false,.cols ma [.int .i64 ta]))]] 1 (.own 2 1 na) [(2,(true,.cols na [.int .i64 (fun j=>ta (j+aa))])):: [(0,(false,.cols ma [.int .i64 ta]))]] 40∧ ∃ F,Tryz.prog.funcs[138]? =some F∧F.body.isSome=true∧(F.name== "runtime.NumGoroutine")=false:=by
  refine @ret_eq _ _ Tryz.envOk Tryz.mixed _ noX_ok 138 (mkFn Tryz.f138) [.zer false] [[(0,(false,.cols ma [.int .i64 ta]))]] [(2,(true,.cols na [.int .i64 (fun j=>ta (j+aa))])):: [(0,(false,.cols ma [.int .i64 ta]))]] 1 40 (.own 2 1 na) true 300 rfl (by decide) (by simp) (names_of rfl) _ (e45y cond _ _ aa na ma ta) ?_
  repeat' first
    |with_reducible refine cond_yes rfl ?_
    |with_reducible refine cond_no rfl ?_
    |(with_reducible refine cond_intro (fun h=> ?_) (fun h=> ?_))<;>(try simp only [lim64,decide_eq_true_eq,decide_eq_false_iff_not,reduceCtorEq,Int.toNat_natCast,Bool.not_eq_true',Bool.not_eq_false',Bool.and_eq_true,Bool.or_eq_true,Bool.and_eq_false_iff,Bool.or_eq_false_iff,bne_iff_ne,beq_iff_eq,bne_eq_false_iff_eq,beq_eq_false_iff_ne,ne_eq] at h)
  all_goals first
    |with_reducible apply ret_k
    |omega
  repeat' first
    |with_reducible exact rns_nil
    |with_reducible refine rns_cons ?_ ?_
    |with_reducible refine rn_tup ?_
    |with_reducible refine rn_agg ?_
    |with_reducible refine rn_int ?_
    |with_reducible refine rn_tf ?_
    |with_reducible refine rn_bool_tf ?_
    |with_reducible refine rn_bool ?_
    |with_reducible refine rn_str ?_
    |with_reducible exact rn_nils
    |with_reducible refine rn_own_nils ?_
    |with_reducible refine rn_own ?_ ?_ ?_
    |with_reducible refine rn_own_sl ?_ ?_ ?_ ?_ ?_
    |with_reducible refine rn_own_loose ?_ ?_ ?_ ?_
    |with_reducible refine rn_loose ?_ ?_ ?_ ?_
    |with_reducible refine rn_loose_sl ?_ ?_ ?_ ?_
    |exact use_lo rfl
    |exact use_own rfl
    |exact nm_k rfl
    |exact nm_lo rfl
    |((with_reducible refine (id:pos _=pos _→_) ?_); exact rfl)
    |((with_reducible refine (id:pos _=0→_) ?_); exact rfl)
    |((with_reducible refine (id:Nat.ble _ _=true→_) ?_); exact rfl)
    |((with_reducible refine (id:injL _ _=true→_) ?_); exact rfl)
    |((with_reducible refine (id:plainC _=true→_) ?_); exact rfl)
    |((with_reducible refine (id:hget _ _=some _→_) ?_); exact rfl)
    |with_reducible exact (id:(_:Bool)=true→_=true)
    |with_reducible exact entl_nil
    |with_reducible refine entl_bor ?_ ?_ ?_ ?_
    |refine entl_new (use_own rfl) (by rfl) ?_ ?_ ?_
    |refine entl_rows (use_own rfl) (by rfl) rfl ?_ (nthc_all ?_) ?_
    |refine entl_zero (use_own rfl) (by rfl) (by simp) (by omega) ?_
    |with_reducible exact rcs_nil
    |with_reducible refine rcs_int (fun j hj=> ?_) ?_
    |with_reducible refine rcs_bool (fun j hj=> ?_) ?_
    |with_reducible refine rcs_str (fun j hj=> ?_) ?_
    |refine entl_fresh (k:=2) (use_own rfl) (fresh_ok (n:=39) rfl) ?_
    |with_reducible rfl
  all_goals try exact (0:Nat)
  all_goals try ((with_reducible refine (id:injL _ _=true→_) ?_); exact rfl)
  all_goals first
    |omega
    |skip
theorem c45 (aa na ma:Nat) (ta:NI) (hp:aa+na≤ma∧na≤1000000):CallR Tryz.prog 138 [.loose ⟨0,1,aa,0⟩ na] [[(0,(false,.cols ma [.int .i64 ta]))]] 1 (.own 2 1 na) [(2,(true,.cols na [.int .i64 (fun j=>ta (j+aa))])):: [(0,(false,.cols ma [.int .i64 ta]))]] 40∧ ∃ F,Tryz.prog.funcs[138]? =some F∧F.body.isSome=true∧(F.name== "runtime.NumGoroutine")=false:=
  ⟨loose_cases (fun h=>(c45s aa na ma ta hp h).1) (fun h b=>by cases b; exact (c45y aa na ma ta hp h).1; exact (c45z aa na ma ta hp h).1),by
    rcases Nat.eq_zero_or_pos na with h|h
    · exact (c45y aa na ma ta hp h).2
    · exact (c45s aa na ma ta hp h).2⟩
theorem k45_ok:k45.ok Tryz.prog:=by
  intro x hx
  obtain ⟨⟨aa,na,ma,ta,_⟩,_⟩:=x
  have hp:aa+na≤ma∧na≤1000000:=of_decide_eq_true hx
  obtain ⟨h1,h2⟩:=c45 aa na ma ta hp
  exact ⟨⟨40,(by decide:1+1+1≤40),h1⟩,h2⟩
inductive St44 where
  |h0 (x0:Int) (x1:List Int)
abbrev Rt44:=List Int
noncomputable def V44 (v:Int) (r:Rt44):PV:=PV.own (1) (1) (List.length r)
noncomputable def N44 (v:Int) (r:Rt44):List Blk:= [Blk.cols (List.length r) [Col.int .i64 fun j=>S.at' r j]]
noncomputable def I44 (v:Int):St44→Hd
  | .h0 x0 x1=>⟨hd Tryz.f98 0,[PV.int .u64 x0,PV.own (0) (1) (List.length x1)],[[(0,(true,Blk.cols (List.length x1) [Col.int .i64 fun j=>S.at' x1 j]))],[]],1⟩
noncomputable def q44 (v:Int):St44→Option (St44⊕Rt44)| .h0 x0 x1=>bif (decide (x0>0)) then (bif (decide (List.length x1+1≤1000000)) then (bif (decide (List.length x1≤List.length x1)) then (bif (lim .u64 (Int.tdiv x0 (1000000:Int))) then (some (.inl (.h0 (Int.tdiv x0 (1000000:Int)) (S.snoc x1 (IntKind.wrap .i64 (Int.tmod x0 (1000000:Int))))))) else (none)) else (none)) else (none)) else (some (.inr (x1)))
noncomputable def p44 (v:Int):Option (St44⊕Rt44):=some (.inl (.h0 (v) ([])))
noncomputable def Te44 (test:TT) (Kst:KS) (Kret:KR) (v:Int):Prop:=Kst (hd Tryz.f98 0) ([PV.int .u64 v,PV.nils]) ([[]]) (0)
theorem te44 (test:TT) (Kst:KS) (Kret:KR) (v:Int):run test Tryz.env true noX true 400 ⟨98,[.cd (mkFn Tryz.f98).body],argT 0 [.int .u64 v],[[],[]],0⟩ (proj 0 [0,3] Kst Kret)=
  Te44 test Kst Kret v:=by kernel_rfl
noncomputable def T44_0 (test:TT) (Kst:KS) (Kret:KR) (v x0:Int) (x1:List Int):Prop:=test (decide (x0>0)) (test (false) (False) (test (decide (List.length x1+1≤1000000)) (test (decide (List.length x1≤List.length x1)) (test (true) (test (false) (False) (test (lim .u64 (Int.tdiv x0 (1000000:Int))) (Kst (hd Tryz.f98 0) ([PV.int .u64 (Int.tdiv x0 (1000000:Int)),PV.own (2) (1) (List.length x1+1)]) ([[(2,true,Blk.cols (List.length x1+1) [Col.int .i64 fun j=>bif Nat.blt j (List.length x1) then S.at' x1 j else IntKind.wrap .i64 (Int.tmod x0 (1000000:Int))])]]) (3)) (False))) (False)) (False)) (False))) (Kret (PV.own (0) (1) (List.length x1)) ([[(0,true,Blk.cols (List.length x1) [Col.int .i64 fun j=>S.at' x1 j])]]) (1))
theorem t44_0 (test:TT) (Kst:KS) (Kret:KR) (v x0:Int) (x1:List Int):run test Tryz.env true noX true 400 ⟨98,hd Tryz.f98 0,zipT [0,3] [PV.int .u64 x0,PV.own (0) (1) (List.length x1)],[[(0,(true,Blk.cols (List.length x1) [Col.int .i64 fun j=>S.at' x1 j]))],[]],1⟩ (proj 0 [0,3] Kst Kret)=
  T44_0 test Kst Kret v x0 x1:=by kernel_rfl
noncomputable abbrev J44 (v:Int):Rt44→Heap:=fun r=> [newL (0+1) ((N44 v) r)++ []]
attribute [local irreducible] Int.subNatNat in
theorem be44 (v:Int) (Kst:KS) (Kret:KR) (x:St44⊕Rt44) (hS:HS 0 400 ((I44 v)) Kst x) (hR:HR 0 400 ((V44 v)) (J44 v) Kret x) (h:(some (.inl (.h0 (v) ([]))):Option (St44⊕Rt44))=some x):Te44 cond Kst Kret v:=by
  unfold Te44
  exact stop_at hS _ h (fun n=>bif Nat.beq n 0 then 399 else n) rfl rfl rfl ⟨(rn_int rfl),⟨(rn_own_nils rfl),trivial⟩⟩ rfl (entl_fresh (use_own rfl) (fresh_ok rfl) entl_nil)
attribute [local irreducible] Int.subNatNat in
theorem b44_0 (v:Int) (Kst:KS) (Kret:KR) (x:St44⊕Rt44) (hS:HS 0 400 ((I44 v)) Kst x) (hR:HR 0 400 ((V44 v)) (J44 v) Kret x) (x0:Int) (x1:List Int) (h:q44 v (.h0 x0 x1)=some x):T44_0 cond Kst Kret v x0 x1:=by
  unfold T44_0
  rw [q44] at h
  exact bif_split h (fun c0 h=>cond_no rfl (bif_split h (fun c1 h=>bif_split h (fun c2 h=>cond_yes rfl (cond_no rfl (bif_split h (fun c3 h=>stop_at hS _ h (fun n=>bif Nat.beq n 0 then 2 else n) rfl rfl rfl ⟨(rn_int rfl),⟨(rn_own (use_own rfl) rfl (snoc_len' rfl)),trivial⟩⟩ rfl (entl_new (use_own rfl) rfl (Nat.le_of_eq (snoc_len' rfl)) (rcs_int (col_snoc' (fun (t:Int)=>t) rfl (fun _ _=>rfl)) rcs_nil) entl_nil)) (fun c3 h=>no_some h)))) (fun c2 h=>no_some h)) (fun c1 h=>no_some h))) (fun c0 h=>ret_at hR _ h (fun n=>bif Nat.beq n 1 then 0 else n) rfl rfl rfl (rn_own (use_own rfl) rfl rfl) rfl (entl_new (use_own rfl) rfl (Nat.le_of_eq rfl) (rcs_int (fun _ _=>rfl) rcs_nil) entl_nil))
theorem a44 (v:Int) {r:Rt44} (h:Goes ((q44 v)) ((p44 v)) r):CallR Tryz.prog 98 [.int .u64 v] [[]] 0 ((V44 v) r) ((J44 v) r) 400∧ ∃ F,Tryz.prog.funcs[98]? =some F∧F.body.isSome=true∧(F.name== "runtime.NumGoroutine")=false:=by
  refine dec_calls (f:=98) (lo:=0) (hi:=400) Tryz.envOk Tryz.mixed noX_ok ((I44 v)) ((V44 v)) (J44 v) (fn:=mkFn Tryz.f98) (ts:= [0,3]) (n:=400) rfl (by decide) (by simp) (names_of rfl) ?_ ?_ ?_ h
  · intro s; cases s<;>exact ⟨hd_ok _ _,by simp [I44],names_of rfl,Nat.le_of_ble_eq_true rfl⟩
  · intro Kst Kret x hS hR h
    exact Holds.eq (te44 cond Kst Kret v) (be44 v Kst Kret x hS hR h)
  · intro Kst Kret x hS hR s h
    cases s with
    |h0 x0 x1=>exact Holds.eq (t44_0 cond Kst Kret v x0 x1) (b44_0 v Kst Kret x hS hR x0 x1 h)
noncomputable abbrev w44 {α:Type} (g:Int→α) (x:Int×Unit):α:=g x.1
noncomputable def k44:Con:=⟨98,[.one (.plain (.int .u64))],w44 (fun v=>decide (0≤v∧v≤9223372036854775808)),w44 (fun v=>(V44 v) (S.grp v)),w44 (fun v=>(N44 v) (S.grp v)),fun _ _=> .dead⟩
theorem s44' (v:Int): ∀ (k:Nat) (x:Int) (L:List Int),0≤x→x<S.pw k→x≤9223372036854775808→L.length+k≤1000→Comes (q44 v) (.h0 x L) (L++S.grp x):=by
  intro k
  induction k with
  |zero=>
    intro x L h0 h1 h2 hl
    have:x<1:=h1
    rw [grp_neg (by omega),List.append_nil]
    apply Comes.of
    show Goes _ _ _
    (first|rw [q44]|unfold q44)
    repeat' (first|with_reducible refine goes_if (fun h=> ?_) (fun h=> ?_)<;>(try simp only [SH] at h)|exact goes_none.mpr (by omega))
    all_goals first|(exfalso; omega)|exact goes_inr.mpr rfl
  | succ k ih=>
    intro x L h0 h1 h2 hl
    have h1:x<1000000*S.pw k:=h1
    by_cases hx:0<x
    · have ih:=ih (x / 1000000) (S.snoc L (x % 1000000)) (by omega) (by omega) (by omega) (by rw [snoc_len]; omega)
      rw [snoc_app,← grp_pos hx] at ih
      apply Comes.of
      show Goes _ _ _
      rw [q44,tdB h0,tmB h0,wr64 (x:=x % 1000000) (by omega)]
      repeat' (first|with_reducible refine goes_if (fun h=> ?_) (fun h=> ?_)<;>(try simp only [SH,limu] at h)|exact goes_none.mpr (by omega))
      all_goals first|(exfalso; omega)|exact ih
    · rw [grp_neg (by omega),List.append_nil]
      apply Comes.of
      show Goes _ _ _
      (first|rw [q44]|unfold q44)
      repeat' (first|with_reducible refine goes_if (fun h=> ?_) (fun h=> ?_)<;>(try simp only [SH] at h)|exact goes_none.mpr (by omega))
      all_goals first|(exfalso; omega)|exact goes_inr.mpr rfl
theorem s44 (v:Int) (hp:0≤v∧v≤9223372036854775808):Goes ((q44 v)) ((p44 v)) (S.grp v):=by
  exact s44' v 4 v [] hp.1 (by have:S.pw 4=1000000000000000000000000:=rfl; omega) (by omega) (by decide)
theorem k44_ok:k44.ok Tryz.prog:=by
  intro x hx
  obtain ⟨v,_⟩:=x
  obtain ⟨h1,h2⟩:=a44 v (s44 v (of_dec hx rfl))
  exact ⟨⟨400,(by decide:0+1+1≤400),h1⟩,h2⟩
inductive St73 where
  |h0 (x0:Int) (x1:List Int)
abbrev Rt73:=List Int
noncomputable def V73 (v:Int) (r:Rt73):PV:=PV.own (1) (1) (List.length r)
noncomputable def N73 (v:Int) (r:Rt73):List Blk:= [Blk.cols (List.length r) [Col.int .i64 fun j=>S.at' r j]]
noncomputable def I73 (v:Int):St73→Hd
  | .h0 x0 x1=>⟨hd Tryz.f131 0,[PV.int .i64 x0,PV.own (0) (1) (List.length x1)],[[(0,(true,Blk.cols (List.length x1) [Col.int .i64 fun j=>S.at' x1 j]))],[]],1⟩
noncomputable def q73 (v:Int):St73→Option (St73⊕Rt73)| .h0 x0 x1=>bif (decide (x0>0)) then (bif (decide (List.length x1+1≤1000000)) then (bif (decide (List.length x1≤List.length x1)) then (bif (lim .i64 (Int.tdiv x0 (1000000:Int))) then (some (.inl (.h0 (Int.tdiv x0 (1000000:Int)) (S.snoc x1 (Int.tmod x0 (1000000:Int)))))) else (none)) else (none)) else (none)) else (some (.inr (x1)))
noncomputable def p73 (v:Int):Option (St73⊕Rt73):=some (.inl (.h0 (v) ([])))
noncomputable def Te73 (test:TT) (Kst:KS) (Kret:KR) (v:Int):Prop:=Kst (hd Tryz.f131 0) ([PV.int .i64 v,PV.nils]) ([[]]) (0)
theorem te73 (test:TT) (Kst:KS) (Kret:KR) (v:Int):run test Tryz.env true noX true 400 ⟨131,[.cd (mkFn Tryz.f131).body],argT 0 [.int .i64 v],[[],[]],0⟩ (proj 0 [0,3] Kst Kret)=
  Te73 test Kst Kret v:=by kernel_rfl
noncomputable def T73_0 (test:TT) (Kst:KS) (Kret:KR) (v x0:Int) (x1:List Int):Prop:=test (decide (x0>0)) (test (false) (False) (test (decide (List.length x1+1≤1000000)) (test (decide (List.length x1≤List.length x1)) (test (true) (test (false) (False) (test (lim .i64 (Int.tdiv x0 (1000000:Int))) (Kst (hd Tryz.f131 0) ([PV.int .i64 (Int.tdiv x0 (1000000:Int)),PV.own (2) (1) (List.length x1+1)]) ([[(2,true,Blk.cols (List.length x1+1) [Col.int .i64 fun j=>bif Nat.blt j (List.length x1) then S.at' x1 j else Int.tmod x0 (1000000:Int)])]]) (3)) (False))) (False)) (False)) (False))) (Kret (PV.own (0) (1) (List.length x1)) ([[(0,true,Blk.cols (List.length x1) [Col.int .i64 fun j=>S.at' x1 j])]]) (1))
theorem t73_0 (test:TT) (Kst:KS) (Kret:KR) (v x0:Int) (x1:List Int):run test Tryz.env true noX true 400 ⟨131,hd Tryz.f131 0,zipT [0,3] [PV.int .i64 x0,PV.own (0) (1) (List.length x1)],[[(0,(true,Blk.cols (List.length x1) [Col.int .i64 fun j=>S.at' x1 j]))],[]],1⟩ (proj 0 [0,3] Kst Kret)=
  T73_0 test Kst Kret v x0 x1:=by kernel_rfl
noncomputable abbrev J73 (v:Int):Rt73→Heap:=fun r=> [newL (0+1) ((N73 v) r)++ []]
attribute [local irreducible] Int.subNatNat in
theorem be73 (v:Int) (Kst:KS) (Kret:KR) (x:St73⊕Rt73) (hS:HS 0 400 ((I73 v)) Kst x) (hR:HR 0 400 ((V73 v)) (J73 v) Kret x) (h:(some (.inl (.h0 (v) ([]))):Option (St73⊕Rt73))=some x):Te73 cond Kst Kret v:=by
  unfold Te73
  exact stop_at hS _ h (fun n=>bif Nat.beq n 0 then 399 else n) rfl rfl rfl ⟨(rn_int rfl),⟨(rn_own_nils rfl),trivial⟩⟩ rfl (entl_fresh (use_own rfl) (fresh_ok rfl) entl_nil)
attribute [local irreducible] Int.subNatNat in
theorem b73_0 (v:Int) (Kst:KS) (Kret:KR) (x:St73⊕Rt73) (hS:HS 0 400 ((I73 v)) Kst x) (hR:HR 0 400 ((V73 v)) (J73 v) Kret x) (x0:Int) (x1:List Int) (h:q73 v (.h0 x0 x1)=some x):T73_0 cond Kst Kret v x0 x1:=by
  unfold T73_0
  rw [q73] at h
  exact bif_split h (fun c0 h=>cond_no rfl (bif_split h (fun c1 h=>bif_split h (fun c2 h=>cond_yes rfl (cond_no rfl (bif_split h (fun c3 h=>stop_at hS _ h (fun n=>bif Nat.beq n 0 then 2 else n) rfl rfl rfl ⟨(rn_int rfl),⟨(rn_own (use_own rfl) rfl (snoc_len' rfl)),trivial⟩⟩ rfl (entl_new (use_own rfl) rfl (Nat.le_of_eq (snoc_len' rfl)) (rcs_int (col_snoc' (fun (t:Int)=>t) rfl (fun _ _=>rfl)) rcs_nil) entl_nil)) (fun c3 h=>no_some h)))) (fun c2 h=>no_some h)) (fun c1 h=>no_some h))) (fun c0 h=>ret_at hR _ h (fun n=>bif Nat.beq n 1 then 0 else n) rfl rfl rfl (rn_own (use_own rfl) rfl rfl) rfl (entl_new (use_own rfl) rfl (Nat.le_of_eq rfl) (rcs_int (fun _ _=>rfl) rcs_nil) entl_nil))
theorem a73 (v:Int) {r:Rt73} (h:Goes ((q73 v)) ((p73 v)) r):CallR Tryz.prog 131 [.int .i64 v] [[]] 0 ((V73 v) r) ((J73 v) r) 400∧ ∃ F,Tryz.prog.funcs[131]? =some F∧F.body.isSome=true∧(F.name== "runtime.NumGoroutine")=false:=by
  refine dec_calls (f:=131) (lo:=0) (hi:=400) Tryz.envOk Tryz.mixed noX_ok ((I73 v)) ((V73 v)) (J73 v) (fn:=mkFn Tryz.f131) (ts:= [0,3]) (n:=400) rfl (by decide) (by simp) (names_of rfl) ?_ ?_ ?_ h
  · intro s; cases s<;>exact ⟨hd_ok _ _,by simp [I73],names_of rfl,Nat.le_of_ble_eq_true rfl⟩
  · intro Kst Kret x hS hR h
    exact Holds.eq (te73 cond Kst Kret v) (be73 v Kst Kret x hS hR h)
  · intro Kst Kret x hS hR s h
    cases s with
    |h0 x0 x1=>exact Holds.eq (t73_0 cond Kst Kret v x0 x1) (b73_0 v Kst Kret x hS hR x0 x1 h)
noncomputable abbrev w73 {α:Type} (g:Int→α) (x:Int×Unit):α:=g x.1
noncomputable def k73:Con:=⟨131,[.one (.plain (.int .i64))],w73 (fun v=>decide (0≤v∧v≤9223372036854775807)),w73 (fun v=>(V73 v) (S.grp v)),w73 (fun v=>(N73 v) (S.grp v)),fun _ _=> .dead⟩
theorem s73' (v:Int): ∀ (k:Nat) (x:Int) (L:List Int),0≤x→x<S.pw k→x≤9223372036854775808→L.length+k≤1000→Comes (q73 v) (.h0 x L) (L++S.grp x):=by
  intro k
  induction k with
  |zero=>
    intro x L h0 h1 h2 hl
    have:x<1:=h1
    rw [grp_neg (by omega),List.append_nil]
    apply Comes.of
    show Goes _ _ _
    (first|rw [q73]|unfold q73)
    repeat' (first|with_reducible refine goes_if (fun h=> ?_) (fun h=> ?_)<;>(try simp only [SH] at h)|exact goes_none.mpr (by omega))
    all_goals first|(exfalso; omega)|exact goes_inr.mpr rfl
  | succ k ih=>
    intro x L h0 h1 h2 hl
    have h1:x<1000000*S.pw k:=h1
    by_cases hx:0<x
    · have ih:=ih (x / 1000000) (S.snoc L (x % 1000000)) (by omega) (by omega) (by omega) (by rw [snoc_len]; omega)
      rw [snoc_app,← grp_pos hx] at ih
      apply Comes.of
      show Goes _ _ _
      rw [q73,tdB h0,tmB h0]
      repeat' (first|with_reducible refine goes_if (fun h=> ?_) (fun h=> ?_)<;>(try simp only [SH] at h)|exact goes_none.mpr (by omega))
      all_goals first|(exfalso; omega)|exact ih
    · rw [grp_neg (by omega),List.append_nil]
      apply Comes.of
      show Goes _ _ _
      (first|rw [q73]|unfold q73)
      repeat' (first|with_reducible refine goes_if (fun h=> ?_) (fun h=> ?_)<;>(try simp only [SH] at h)|exact goes_none.mpr (by omega))
      all_goals first|(exfalso; omega)|exact goes_inr.mpr rfl
theorem s73 (v:Int) (hp:0≤v∧v≤9223372036854775807):Goes ((q73 v)) ((p73 v)) (S.grp v):=by
  exact s73' v 4 v [] hp.1 (by have:S.pw 4=1000000000000000000000000:=rfl; omega) (by omega) (by decide)
theorem k73_ok:k73.ok Tryz.prog:=by
  intro x hx
  obtain ⟨v,_⟩:=x
  obtain ⟨h1,h2⟩:=a73 v (s73 v (of_dec hx rfl))
  exact ⟨⟨400,(by decide:0+1+1≤400),h1⟩,h2⟩
inductive St55 where
  |h0 (x0:Int) (x1:Int) (x2:List Int)
  |h1 (x0:Int) (x1:Int) (x2:List Int)
abbrev Rt55:=List Int
noncomputable def V55 (ap np mp:Nat) (tp:NI) (aq nq mq:Nat) (tq:NI) (r:Rt55):PV:=PV.own (3) (1) (List.length r)
noncomputable def N55 (ap np mp:Nat) (tp:NI) (aq nq mq:Nat) (tq:NI) (r:Rt55):List Blk:= [Blk.cols (List.length r) [Col.int .i64 fun j=>S.at' r j]]
noncomputable def I55 (ap np mp:Nat) (tp:NI) (aq nq mq:Nat) (tq:NI):St55→Hd
  | .h0 x0 x1 x2=>⟨hd Tryz.f115 0,[PV.loose (PA.mk (0) (1) ap (0)) np,
 PV.own (2) (1) (List.length x2),PV.int .i64 x0,
 PV.loose (PA.mk (1) (1) aq (0)) nq,PV.int .i64 (↑nq:Int),
 PV.int .i64 x1],[[(2,(true,Blk.cols (List.length x2) [Col.int .i64 fun j=>S.at' x2 j]))],[(0,(false,.cols mp [.int .i64 tp])),(1,(false,.cols mq [.int .i64 tq]))]],3⟩
  | .h1 x0 x1 x2=>⟨hd Tryz.f115 0,[PV.loose (PA.mk (1) (1) aq (0)) nq,
 PV.own (2) (1) (List.length x2),PV.int .i64 x0,
 PV.loose (PA.mk (0) (1) ap (0)) np,PV.int .i64 (↑np:Int),
 PV.int .i64 x1],[[(2,(true,Blk.cols (List.length x2) [Col.int .i64 fun j=>S.at' x2 j]))],[(0,(false,.cols mp [.int .i64 tp])),(1,(false,.cols mq [.int .i64 tq]))]],3⟩
noncomputable def q55 (ap np mp:Nat) (tp:NI) (aq nq mq:Nat) (tq:NI):St55→Option (St55⊕Rt55)| .h0 x0 x1 x2=>bif (decide (x1<(↑nq:Int))) then (bif (decide ((0:Int)≤x1∧x1<(↑nq:Int))) then (bif (decide (Int.toNat x1+aq<mq)) then (bif (lim .i64 (tq (Int.toNat x1+aq)+x0)) then (bif (decide (x1<(↑np:Int))) then (bif (decide ((0:Int)≤x1∧x1<(↑np:Int))) then (bif (decide (Int.toNat x1+ap<mp)) then (bif (lim .i64 (tq (Int.toNat x1+aq)+x0+tp (Int.toNat x1+ap))) then (bif (decide (tq (Int.toNat x1+aq)+x0+tp (Int.toNat x1+ap)≥1000000)) then (bif (lim .i64 (tq (Int.toNat x1+aq)+x0+tp (Int.toNat x1+ap)-1000000)) then (bif (decide (List.length x2+1≤1000000)) then (bif (decide (List.length x2≤List.length x2)) then (bif (lim .i64 (x1+1)) then (some (.inl (.h0 ((1:Int)) (x1+1) (S.snoc x2 (tq (Int.toNat x1+aq)+x0+tp (Int.toNat x1+ap)-1000000))))) else (none)) else (none)) else (none)) else (none)) else (bif (decide (List.length x2+1≤1000000)) then (bif (decide (List.length x2≤List.length x2)) then (bif (lim .i64 (x1+1)) then (some (.inl (.h0 ((0:Int)) (x1+1) (S.snoc x2 (tq (Int.toNat x1+aq)+x0+tp (Int.toNat x1+ap)))))) else (none)) else (none)) else (none))) else (none)) else (none)) else (none)) else (bif (decide (tq (Int.toNat x1+aq)+x0≥1000000)) then (bif (lim .i64 (tq (Int.toNat x1+aq)+x0-1000000)) then (bif (decide (List.length x2+1≤1000000)) then (bif (decide (List.length x2≤List.length x2)) then (bif (lim .i64 (x1+1)) then (some (.inl (.h0 ((1:Int)) (x1+1) (S.snoc x2 (tq (Int.toNat x1+aq)+x0-1000000))))) else (none)) else (none)) else (none)) else (none)) else (bif (decide (List.length x2+1≤1000000)) then (bif (decide (List.length x2≤List.length x2)) then (bif (lim .i64 (x1+1)) then (some (.inl (.h0 ((0:Int)) (x1+1) (S.snoc x2 (tq (Int.toNat x1+aq)+x0))))) else (none)) else (none)) else (none)))) else (none)) else (none)) else (none)) else (bif (decide (x0>0)) then (bif (decide (List.length x2+1≤1000000)) then (bif (decide (List.length x2≤List.length x2)) then (some (.inr (S.snoc x2 x0))) else (none)) else (none)) else (some (.inr (x2))))| .h1 x0 x1 x2=>bif (decide (x1<(↑np:Int))) then (bif (decide ((0:Int)≤x1∧x1<(↑np:Int))) then (bif (decide (Int.toNat x1+ap<mp)) then (bif (lim .i64 (tp (Int.toNat x1+ap)+x0)) then (bif (decide (x1<(↑nq:Int))) then (bif (decide ((0:Int)≤x1∧x1<(↑nq:Int))) then (bif (decide (Int.toNat x1+aq<mq)) then (bif (lim .i64 (tp (Int.toNat x1+ap)+x0+tq (Int.toNat x1+aq))) then (bif (decide (tp (Int.toNat x1+ap)+x0+tq (Int.toNat x1+aq)≥1000000)) then (bif (lim .i64 (tp (Int.toNat x1+ap)+x0+tq (Int.toNat x1+aq)-1000000)) then (bif (decide (List.length x2+1≤1000000)) then (bif (decide (List.length x2≤List.length x2)) then (bif (lim .i64 (x1+1)) then (some (.inl (.h1 ((1:Int)) (x1+1) (S.snoc x2 (tp (Int.toNat x1+ap)+x0+tq (Int.toNat x1+aq)-1000000))))) else (none)) else (none)) else (none)) else (none)) else (bif (decide (List.length x2+1≤1000000)) then (bif (decide (List.length x2≤List.length x2)) then (bif (lim .i64 (x1+1)) then (some (.inl (.h1 ((0:Int)) (x1+1) (S.snoc x2 (tp (Int.toNat x1+ap)+x0+tq (Int.toNat x1+aq)))))) else (none)) else (none)) else (none))) else (none)) else (none)) else (none)) else (bif (decide (tp (Int.toNat x1+ap)+x0≥1000000)) then (bif (lim .i64 (tp (Int.toNat x1+ap)+x0-1000000)) then (bif (decide (List.length x2+1≤1000000)) then (bif (decide (List.length x2≤List.length x2)) then (bif (lim .i64 (x1+1)) then (some (.inl (.h1 ((1:Int)) (x1+1) (S.snoc x2 (tp (Int.toNat x1+ap)+x0-1000000))))) else (none)) else (none)) else (none)) else (none)) else (bif (decide (List.length x2+1≤1000000)) then (bif (decide (List.length x2≤List.length x2)) then (bif (lim .i64 (x1+1)) then (some (.inl (.h1 ((0:Int)) (x1+1) (S.snoc x2 (tp (Int.toNat x1+ap)+x0))))) else (none)) else (none)) else (none)))) else (none)) else (none)) else (none)) else (bif (decide (x0>0)) then (bif (decide (List.length x2+1≤1000000)) then (bif (decide (List.length x2≤List.length x2)) then (some (.inr (S.snoc x2 x0))) else (none)) else (none)) else (some (.inr (x2))))
noncomputable def p55 (ap np mp:Nat) (tp:NI) (aq nq mq:Nat) (tq:NI):Option (St55⊕Rt55):=bif (decide ((↑np:Int)<(↑nq:Int))) then (bif (lim .i64 ((↑nq:Int)+1)) then (bif (decide ((0:Int)≤0∧(0:Int)≤(↑nq:Int)+1∧(↑nq:Int)+1≤1000000)) then (some (.inl (.h0 ((0:Int)) ((0:Int)) (S.mkl (0) fun j=>0)))) else (none)) else (none)) else (bif (lim .i64 ((↑np:Int)+1)) then (bif (decide ((0:Int)≤0∧(0:Int)≤(↑np:Int)+1∧(↑np:Int)+1≤1000000)) then (some (.inl (.h1 ((0:Int)) ((0:Int)) (S.mkl (0) fun j=>0)))) else (none)) else (none))
noncomputable def Te55 (test:TT) (Kst:KS) (Kret:KR) (ap np mp:Nat) (tp:NI) (aq nq mq:Nat) (tq:NI):Prop:=test (decide ((↑np:Int)<(↑nq:Int))) (test (lim .i64 ((↑nq:Int)+1)) (test (decide ((0:Int)≤0∧(0:Int)≤(↑nq:Int)+1∧(↑nq:Int)+1≤1000000)) (Kst (hd Tryz.f115 0) ([PV.loose (PA.mk (0) (1) ap (0)) np,PV.own (2) (1) (0),PV.int .i64 (0:Int),PV.loose (PA.mk (1) (1) aq (0)) nq,PV.int .i64 (↑nq:Int),PV.int .i64 (0:Int)]) ([[(1,false,Blk.cols mq [Col.int .i64 tq]),(0,false,Blk.cols mp [Col.int .i64 tp]),(2,true,Blk.cols (0) [Col.int .i64 fun (x:Nat)=>0])]]) (3)) (False)) (False)) (test (lim .i64 ((↑np:Int)+1)) (test (decide ((0:Int)≤0∧(0:Int)≤(↑np:Int)+1∧(↑np:Int)+1≤1000000)) (Kst (hd Tryz.f115 0) ([PV.loose (PA.mk (1) (1) aq (0)) nq,PV.own (2) (1) (0),PV.int .i64 (0:Int),PV.loose (PA.mk (0) (1) ap (0)) np,PV.int .i64 (↑np:Int),PV.int .i64 (0:Int)]) ([[(1,false,Blk.cols mq [Col.int .i64 tq]),(0,false,Blk.cols mp [Col.int .i64 tp]),(2,true,Blk.cols (0) [Col.int .i64 fun (x:Nat)=>0])]]) (3)) (False)) (False))
theorem te55 (test:TT) (Kst:KS) (Kret:KR) (ap np mp:Nat) (tp:NI) (aq nq mq:Nat) (tq:NI):run test Tryz.env true noX true 400 ⟨115,[.cd (mkFn Tryz.f115).body],argT 0 [.loose ⟨0,1,ap,0⟩ np,.loose ⟨1,1,aq,0⟩ nq],[[],[(0,(false,.cols mp [.int .i64 tp])),(1,(false,.cols mq [.int .i64 tq]))]],2⟩ (proj 2 [1,5,6,20,21,22] Kst Kret)=
  Te55 test Kst Kret ap np mp tp aq nq mq tq:=by kernel_rfl
noncomputable def T55_0 (test:TT) (Kst:KS) (Kret:KR) (ap np mp:Nat) (tp:NI) (aq nq mq:Nat) (tq:NI) (x0 x1:Int) (x2:List Int):Prop:=test (decide (x1<(↑nq:Int))) (test (decide ((0:Int)≤x1∧x1<(↑nq:Int))) (test (decide (Int.toNat x1+aq<mq)) (test (lim .i64 (tq (Int.toNat x1+aq)+x0)) (test (decide (x1<(↑np:Int))) (test (decide ((0:Int)≤x1∧x1<(↑np:Int))) (test (decide (Int.toNat x1+ap<mp)) (test (lim .i64 (tq (Int.toNat x1+aq)+x0+tp (Int.toNat x1+ap))) (test (decide (tq (Int.toNat x1+aq)+x0+tp (Int.toNat x1+ap)≥1000000)) (test (lim .i64 (tq (Int.toNat x1+aq)+x0+tp (Int.toNat x1+ap)-1000000)) (test (decide (List.length x2+1≤1000000)) (test (decide (List.length x2≤List.length x2)) (test (true) (test (lim .i64 (x1+1)) (Kst (hd Tryz.f115 0) ([PV.loose (PA.mk (0) (1) ap (0)) np,PV.own (4) (1) (List.length x2+1),PV.int .i64 (1:Int),PV.loose (PA.mk (1) (1) aq (0)) nq,PV.int .i64 (↑nq:Int),PV.int .i64 (x1+1)]) ([[(1,false,Blk.cols mq [Col.int .i64 tq]),(0,false,Blk.cols mp [Col.int .i64 tp]),(4,true,Blk.cols (List.length x2+1) [Col.int .i64 fun j=>bif Nat.blt j (List.length x2) then S.at' x2 j else tq (Int.toNat x1+aq)+x0+tp (Int.toNat x1+ap)-1000000])]]) (5)) (False)) (False)) (False)) (False)) (False)) (test (decide (List.length x2+1≤1000000)) (test (decide (List.length x2≤List.length x2)) (test (true) (test (lim .i64 (x1+1)) (Kst (hd Tryz.f115 0) ([PV.loose (PA.mk (0) (1) ap (0)) np,PV.own (4) (1) (List.length x2+1),PV.int .i64 (0:Int),PV.loose (PA.mk (1) (1) aq (0)) nq,PV.int .i64 (↑nq:Int),PV.int .i64 (x1+1)]) ([[(1,false,Blk.cols mq [Col.int .i64 tq]),(0,false,Blk.cols mp [Col.int .i64 tp]),(4,true,Blk.cols (List.length x2+1) [Col.int .i64 fun j=>bif Nat.blt j (List.length x2) then S.at' x2 j else tq (Int.toNat x1+aq)+x0+tp (Int.toNat x1+ap)])]]) (5)) (False)) (False)) (False)) (False))) (False)) (False)) (False)) (test (decide (tq (Int.toNat x1+aq)+x0≥1000000)) (test (lim .i64 (tq (Int.toNat x1+aq)+x0-1000000)) (test (decide (List.length x2+1≤1000000)) (test (decide (List.length x2≤List.length x2)) (test (true) (test (lim .i64 (x1+1)) (Kst (hd Tryz.f115 0) ([PV.loose (PA.mk (0) (1) ap (0)) np,PV.own (4) (1) (List.length x2+1),PV.int .i64 (1:Int),PV.loose (PA.mk (1) (1) aq (0)) nq,PV.int .i64 (↑nq:Int),PV.int .i64 (x1+1)]) ([[(1,false,Blk.cols mq [Col.int .i64 tq]),(0,false,Blk.cols mp [Col.int .i64 tp]),(4,true,Blk.cols (List.length x2+1) [Col.int .i64 fun j=>bif Nat.blt j (List.length x2) then S.at' x2 j else tq (Int.toNat x1+aq)+x0-1000000])]]) (5)) (False)) (False)) (False)) (False)) (False)) (test (decide (List.length x2+1≤1000000)) (test (decide (List.length x2≤List.length x2)) (test (true) (test (lim .i64 (x1+1)) (Kst (hd Tryz.f115 0) ([PV.loose (PA.mk (0) (1) ap (0)) np,PV.own (4) (1) (List.length x2+1),PV.int .i64 (0:Int),PV.loose (PA.mk (1) (1) aq (0)) nq,PV.int .i64 (↑nq:Int),PV.int .i64 (x1+1)]) ([[(1,false,Blk.cols mq [Col.int .i64 tq]),(0,false,Blk.cols mp [Col.int .i64 tp]),(4,true,Blk.cols (List.length x2+1) [Col.int .i64 fun j=>bif Nat.blt j (List.length x2) then S.at' x2 j else tq (Int.toNat x1+aq)+x0])]]) (5)) (False)) (False)) (False)) (False)))) (False)) (False)) (False)) (test (decide (x0>0)) (test (decide (List.length x2+1≤1000000)) (test (decide (List.length x2≤List.length x2)) (test (true) (Kret (PV.own (4) (1) (List.length x2+1)) ([[(1,false,Blk.cols mq [Col.int .i64 tq]),(0,false,Blk.cols mp [Col.int .i64 tp]),(4,true,Blk.cols (List.length x2+1) [Col.int .i64 fun j=>bif Nat.blt j (List.length x2) then S.at' x2 j else x0])]]) (5)) (False)) (False)) (False)) (Kret (PV.own (2) (1) (List.length x2)) ([[(1,false,Blk.cols mq [Col.int .i64 tq]),(0,false,Blk.cols mp [Col.int .i64 tp]),(2,true,Blk.cols (List.length x2) [Col.int .i64 fun j=>S.at' x2 j])]]) (3)))
theorem t55_0 (test:TT) (Kst:KS) (Kret:KR) (ap np mp:Nat) (tp:NI) (aq nq mq:Nat) (tq:NI) (x0 x1:Int) (x2:List Int):run test Tryz.env true noX true 400 ⟨115,hd Tryz.f115 0,zipT [1,5,6,20,21,22] [PV.loose (PA.mk (0) (1) ap (0)) np,
 PV.own (2) (1) (List.length x2),PV.int .i64 x0,
 PV.loose (PA.mk (1) (1) aq (0)) nq,PV.int .i64 (↑nq:Int),
 PV.int .i64 x1],[[(2,(true,Blk.cols (List.length x2) [Col.int .i64 fun j=>S.at' x2 j]))],[(0,(false,.cols mp [.int .i64 tp])),(1,(false,.cols mq [.int .i64 tq]))]],3⟩ (proj 2 [1,5,6,20,21,22] Kst Kret)=
  T55_0 test Kst Kret ap np mp tp aq nq mq tq x0 x1 x2:=by kernel_rfl
noncomputable def T55_1 (test:TT) (Kst:KS) (Kret:KR) (ap np mp:Nat) (tp:NI) (aq nq mq:Nat) (tq:NI) (x0 x1:Int) (x2:List Int):Prop:=test (decide (x1<(↑np:Int))) (test (decide ((0:Int)≤x1∧x1<(↑np:Int))) (test (decide (Int.toNat x1+ap<mp)) (test (lim .i64 (tp (Int.toNat x1+ap)+x0)) (test (decide (x1<(↑nq:Int))) (test (decide ((0:Int)≤x1∧x1<(↑nq:Int))) (test (decide (Int.toNat x1+aq<mq)) (test (lim .i64 (tp (Int.toNat x1+ap)+x0+tq (Int.toNat x1+aq))) (test (decide (tp (Int.toNat x1+ap)+x0+tq (Int.toNat x1+aq)≥1000000)) (test (lim .i64 (tp (Int.toNat x1+ap)+x0+tq (Int.toNat x1+aq)-1000000)) (test (decide (List.length x2+1≤1000000)) (test (decide (List.length x2≤List.length x2)) (test (true) (test (lim .i64 (x1+1)) (Kst (hd Tryz.f115 0) ([PV.loose (PA.mk (1) (1) aq (0)) nq,PV.own (4) (1) (List.length x2+1),PV.int .i64 (1:Int),PV.loose (PA.mk (0) (1) ap (0)) np,PV.int .i64 (↑np:Int),PV.int .i64 (x1+1)]) ([[(1,false,Blk.cols mq [Col.int .i64 tq]),(0,false,Blk.cols mp [Col.int .i64 tp]),(4,true,Blk.cols (List.length x2+1) [Col.int .i64 fun j=>bif Nat.blt j (List.length x2) then S.at' x2 j else tp (Int.toNat x1+ap)+x0+tq (Int.toNat x1+aq)-1000000])]]) (5)) (False)) (False)) (False)) (False)) (False)) (test (decide (List.length x2+1≤1000000)) (test (decide (List.length x2≤List.length x2)) (test (true) (test (lim .i64 (x1+1)) (Kst (hd Tryz.f115 0) ([PV.loose (PA.mk (1) (1) aq (0)) nq,PV.own (4) (1) (List.length x2+1),PV.int .i64 (0:Int),PV.loose (PA.mk (0) (1) ap (0)) np,PV.int .i64 (↑np:Int),PV.int .i64 (x1+1)]) ([[(1,false,Blk.cols mq [Col.int .i64 tq]),(0,false,Blk.cols mp [Col.int .i64 tp]),(4,true,Blk.cols (List.length x2+1) [Col.int .i64 fun j=>bif Nat.blt j (List.length x2) then S.at' x2 j else tp (Int.toNat x1+ap)+x0+tq (Int.toNat x1+aq)])]]) (5)) (False)) (False)) (False)) (False))) (False)) (False)) (False)) (test (decide (tp (Int.toNat x1+ap)+x0≥1000000)) (test (lim .i64 (tp (Int.toNat x1+ap)+x0-1000000)) (test (decide (List.length x2+1≤1000000)) (test (decide (List.length x2≤List.length x2)) (test (true) (test (lim .i64 (x1+1)) (Kst (hd Tryz.f115 0) ([PV.loose (PA.mk (1) (1) aq (0)) nq,PV.own (4) (1) (List.length x2+1),PV.int .i64 (1:Int),PV.loose (PA.mk (0) (1) ap (0)) np,PV.int .i64 (↑np:Int),PV.int .i64 (x1+1)]) ([[(1,false,Blk.cols mq [Col.int .i64 tq]),(0,false,Blk.cols mp [Col.int .i64 tp]),(4,true,Blk.cols (List.length x2+1) [Col.int .i64 fun j=>bif Nat.blt j (List.length x2) then S.at' x2 j else tp (Int.toNat x1+ap)+x0-1000000])]]) (5)) (False)) (False)) (False)) (False)) (False)) (test (decide (List.length x2+1≤1000000)) (test (decide (List.length x2≤List.length x2)) (test (true) (test (lim .i64 (x1+1)) (Kst (hd Tryz.f115 0) ([PV.loose (PA.mk (1) (1) aq (0)) nq,PV.own (4) (1) (List.length x2+1),PV.int .i64 (0:Int),PV.loose (PA.mk (0) (1) ap (0)) np,PV.int .i64 (↑np:Int),PV.int .i64 (x1+1)]) ([[(1,false,Blk.cols mq [Col.int .i64 tq]),(0,false,Blk.cols mp [Col.int .i64 tp]),(4,true,Blk.cols (List.length x2+1) [Col.int .i64 fun j=>bif Nat.blt j (List.length x2) then S.at' x2 j else tp (Int.toNat x1+ap)+x0])]]) (5)) (False)) (False)) (False)) (False)))) (False)) (False)) (False)) (test (decide (x0>0)) (test (decide (List.length x2+1≤1000000)) (test (decide (List.length x2≤List.length x2)) (test (true) (Kret (PV.own (4) (1) (List.length x2+1)) ([[(1,false,Blk.cols mq [Col.int .i64 tq]),(0,false,Blk.cols mp [Col.int .i64 tp]),(4,true,Blk.cols (List.length x2+1) [Col.int .i64 fun j=>bif Nat.blt j (List.length x2) then S.at' x2 j else x0])]]) (5)) (False)) (False)) (False)) (Kret (PV.own (2) (1) (List.length x2)) ([[(1,false,Blk.cols mq [Col.int .i64 tq]),(0,false,Blk.cols mp [Col.int .i64 tp]),(2,true,Blk.cols (List.length x2) [Col.int .i64 fun j=>S.at' x2 j])]]) (3)))
theorem t55_1 (test:TT) (Kst:KS) (Kret:KR) (ap np mp:Nat) (tp:NI) (aq nq mq:Nat) (tq:NI) (x0 x1:Int) (x2:List Int):run test Tryz.env true noX true 400 ⟨115,hd Tryz.f115 0,zipT [1,5,6,20,21,22] [PV.loose (PA.mk (1) (1) aq (0)) nq,
 PV.own (2) (1) (List.length x2),PV.int .i64 x0,
 PV.loose (PA.mk (0) (1) ap (0)) np,PV.int .i64 (↑np:Int),
 PV.int .i64 x1],[[(2,(true,Blk.cols (List.length x2) [Col.int .i64 fun j=>S.at' x2 j]))],[(0,(false,.cols mp [.int .i64 tp])),(1,(false,.cols mq [.int .i64 tq]))]],3⟩ (proj 2 [1,5,6,20,21,22] Kst Kret)=
  T55_1 test Kst Kret ap np mp tp aq nq mq tq x0 x1 x2:=by kernel_rfl
noncomputable abbrev J55 (ap np mp:Nat) (tp:NI) (aq nq mq:Nat) (tq:NI):Rt55→Heap:=fun r=> [newL (2+1) ((N55 ap np mp tp aq nq mq tq) r)++ [(0,(false,.cols mp [.int .i64 tp])),(1,(false,.cols mq [.int .i64 tq]))]]
attribute [local irreducible] Int.subNatNat in
theorem be55 (ap np mp:Nat) (tp:NI) (aq nq mq:Nat) (tq:NI) (Kst:KS) (Kret:KR) (x:St55⊕Rt55) (hS:HS 2 400 ((I55 ap np mp tp aq nq mq tq)) Kst x) (hR:HR 2 400 ((V55 ap np mp tp aq nq mq tq)) (J55 ap np mp tp aq nq mq tq) Kret x) (h:p55 ap np mp tp aq nq mq tq=some x):Te55 cond Kst Kret ap np mp tp aq nq mq tq:=by
  unfold Te55
  unfold p55 at h
  refine bif_split h (fun c0 h=>bif_split h (fun c1 h=>bif_split h (fun c2 h=> ?_) (fun c2 h=> ?_)) (fun c1 h=> ?_)) (fun c0 h=>bif_split h (fun c1 h=>bif_split h (fun c2 h=> ?_) (fun c2 h=> ?_)) (fun c1 h=> ?_))
  all_goals first
    |exact no_some h
    |exact stop_at hS _ h (fun n=>bif Nat.beq n 2 then 2 else n) rfl rfl rfl ⟨(rn_loose (use_lo rfl) rfl rfl rfl),⟨(rn_own (use_own rfl) rfl mkl_len),⟨(rn_int rfl),⟨(rn_loose (use_lo rfl) rfl rfl rfl),⟨(rn_int rfl),⟨(rn_int rfl),trivial⟩⟩⟩⟩⟩⟩ rfl (entl_new (use_own rfl) rfl (Nat.le_of_eq mkl_len) (rcs_int (fun _ hj=>col_mkl (fun (t:Int)=>t) hj) rcs_nil) (entl_bor (use_lo rfl) rfl rfl (entl_bor (use_lo rfl) rfl rfl entl_nil)))
attribute [local irreducible] Int.subNatNat in
theorem b55_0 (ap np mp:Nat) (tp:NI) (aq nq mq:Nat) (tq:NI) (Kst:KS) (Kret:KR) (x:St55⊕Rt55) (hS:HS 2 400 ((I55 ap np mp tp aq nq mq tq)) Kst x) (hR:HR 2 400 ((V55 ap np mp tp aq nq mq tq)) (J55 ap np mp tp aq nq mq tq) Kret x) (x0 x1:Int) (x2:List Int) (h:q55 ap np mp tp aq nq mq tq (.h0 x0 x1 x2)=some x):T55_0 cond Kst Kret ap np mp tp aq nq mq tq x0 x1 x2:=by
  unfold T55_0
  rw [q55] at h
  refine bif_split h (fun c0 h=>bif_split h (fun c1 h=>bif_split h (fun c2 h=>bif_split h (fun c3 h=>bif_split h (fun c4 h=>bif_split h (fun c5 h=>bif_split h (fun c6 h=>bif_split h (fun c7 h=>bif_split h (fun c8 h=>bif_split h (fun c9 h=>bif_split h (fun c10 h=>bif_split h (fun c11 h=>cond_yes rfl (bif_split h (fun c12 h=> ?_) (fun c12 h=> ?_))) (fun c11 h=> ?_)) (fun c10 h=> ?_)) (fun c9 h=> ?_)) (fun c8 h=>bif_split h (fun c9 h=>bif_split h (fun c10 h=>cond_yes rfl (bif_split h (fun c11 h=> ?_) (fun c11 h=> ?_))) (fun c10 h=> ?_)) (fun c9 h=> ?_))) (fun c7 h=> ?_)) (fun c6 h=> ?_)) (fun c5 h=> ?_)) (fun c4 h=>bif_split h (fun c5 h=>bif_split h (fun c6 h=>bif_split h (fun c7 h=>bif_split h (fun c8 h=>cond_yes rfl (bif_split h (fun c9 h=> ?_) (fun c9 h=> ?_))) (fun c8 h=> ?_)) (fun c7 h=> ?_)) (fun c6 h=> ?_)) (fun c5 h=>bif_split h (fun c6 h=>bif_split h (fun c7 h=>cond_yes rfl (bif_split h (fun c8 h=> ?_) (fun c8 h=> ?_))) (fun c7 h=> ?_)) (fun c6 h=> ?_)))) (fun c3 h=> ?_)) (fun c2 h=> ?_)) (fun c1 h=> ?_)) (fun c0 h=>bif_split h (fun c1 h=>bif_split h (fun c2 h=>bif_split h (fun c3 h=>cond_yes rfl (ret_at hR _ h (fun n=>bif Nat.beq n 3 then 4 else n) rfl rfl rfl (rn_own (use_own rfl) rfl (snoc_len' rfl)) rfl (entl_new (use_own rfl) rfl (Nat.le_of_eq (snoc_len' rfl)) (rcs_int (col_snoc' (fun (t:Int)=>t) rfl (fun _ _=>rfl)) rcs_nil) (entl_bor (use_lo rfl) rfl rfl (entl_bor (use_lo rfl) rfl rfl entl_nil))))) (fun c3 h=> ?_)) (fun c2 h=> ?_)) (fun c1 h=>ret_at hR _ h (fun n=>bif Nat.beq n 3 then 2 else n) rfl rfl rfl (rn_own (use_own rfl) rfl rfl) rfl (entl_new (use_own rfl) rfl (Nat.le_of_eq rfl) (rcs_int (fun _ _=>rfl) rcs_nil) (entl_bor (use_lo rfl) rfl rfl (entl_bor (use_lo rfl) rfl rfl entl_nil)))))
  all_goals first
    |exact no_some h
    |exact stop_at hS _ h (fun n=>bif Nat.beq n 2 then 4 else n) rfl rfl rfl ⟨(rn_loose (use_lo rfl) rfl rfl rfl),⟨(rn_own (use_own rfl) rfl (snoc_len' rfl)),⟨(rn_int rfl),⟨(rn_loose (use_lo rfl) rfl rfl rfl),⟨(rn_int rfl),⟨(rn_int rfl),trivial⟩⟩⟩⟩⟩⟩ rfl (entl_new (use_own rfl) rfl (Nat.le_of_eq (snoc_len' rfl)) (rcs_int (col_snoc' (fun (t:Int)=>t) rfl (fun _ _=>rfl)) rcs_nil) (entl_bor (use_lo rfl) rfl rfl (entl_bor (use_lo rfl) rfl rfl entl_nil)))
attribute [local irreducible] Int.subNatNat in
theorem b55_1 (ap np mp:Nat) (tp:NI) (aq nq mq:Nat) (tq:NI) (Kst:KS) (Kret:KR) (x:St55⊕Rt55) (hS:HS 2 400 ((I55 ap np mp tp aq nq mq tq)) Kst x) (hR:HR 2 400 ((V55 ap np mp tp aq nq mq tq)) (J55 ap np mp tp aq nq mq tq) Kret x) (x0 x1:Int) (x2:List Int) (h:q55 ap np mp tp aq nq mq tq (.h1 x0 x1 x2)=some x):T55_1 cond Kst Kret ap np mp tp aq nq mq tq x0 x1 x2:=by
  unfold T55_1
  rw [q55] at h
  refine bif_split h (fun c0 h=>bif_split h (fun c1 h=>bif_split h (fun c2 h=>bif_split h (fun c3 h=>bif_split h (fun c4 h=>bif_split h (fun c5 h=>bif_split h (fun c6 h=>bif_split h (fun c7 h=>bif_split h (fun c8 h=>bif_split h (fun c9 h=>bif_split h (fun c10 h=>bif_split h (fun c11 h=>cond_yes rfl (bif_split h (fun c12 h=> ?_) (fun c12 h=> ?_))) (fun c11 h=> ?_)) (fun c10 h=> ?_)) (fun c9 h=> ?_)) (fun c8 h=>bif_split h (fun c9 h=>bif_split h (fun c10 h=>cond_yes rfl (bif_split h (fun c11 h=> ?_) (fun c11 h=> ?_))) (fun c10 h=> ?_)) (fun c9 h=> ?_))) (fun c7 h=> ?_)) (fun c6 h=> ?_)) (fun c5 h=> ?_)) (fun c4 h=>bif_split h (fun c5 h=>bif_split h (fun c6 h=>bif_split h (fun c7 h=>bif_split h (fun c8 h=>cond_yes rfl (bif_split h (fun c9 h=> ?_) (fun c9 h=> ?_))) (fun c8 h=> ?_)) (fun c7 h=> ?_)) (fun c6 h=> ?_)) (fun c5 h=>bif_split h (fun c6 h=>bif_split h (fun c7 h=>cond_yes rfl (bif_split h (fun c8 h=> ?_) (fun c8 h=> ?_))) (fun c7 h=> ?_)) (fun c6 h=> ?_)))) (fun c3 h=> ?_)) (fun c2 h=> ?_)) (fun c1 h=> ?_)) (fun c0 h=>bif_split h (fun c1 h=>bif_split h (fun c2 h=>bif_split h (fun c3 h=>cond_yes rfl (ret_at hR _ h (fun n=>bif Nat.beq n 3 then 4 else n) rfl rfl rfl (rn_own (use_own rfl) rfl (snoc_len' rfl)) rfl (entl_new (use_own rfl) rfl (Nat.le_of_eq (snoc_len' rfl)) (rcs_int (col_snoc' (fun (t:Int)=>t) rfl (fun _ _=>rfl)) rcs_nil) (entl_bor (use_lo rfl) rfl rfl (entl_bor (use_lo rfl) rfl rfl entl_nil))))) (fun c3 h=> ?_)) (fun c2 h=> ?_)) (fun c1 h=>ret_at hR _ h (fun n=>bif Nat.beq n 3 then 2 else n) rfl rfl rfl (rn_own (use_own rfl) rfl rfl) rfl (entl_new (use_own rfl) rfl (Nat.le_of_eq rfl) (rcs_int (fun _ _=>rfl) rcs_nil) (entl_bor (use_lo rfl) rfl rfl (entl_bor (use_lo rfl) rfl rfl entl_nil)))))
  all_goals first
    |exact no_some h
    |exact stop_at hS _ h (fun n=>bif Nat.beq n 2 then 4 else n) rfl rfl rfl ⟨(rn_loose (use_lo rfl) rfl rfl rfl),⟨(rn_own (use_own rfl) rfl (snoc_len' rfl)),⟨(rn_int rfl),⟨(rn_loose (use_lo rfl) rfl rfl rfl),⟨(rn_int rfl),⟨(rn_int rfl),trivial⟩⟩⟩⟩⟩⟩ rfl (entl_new (use_own rfl) rfl (Nat.le_of_eq (snoc_len' rfl)) (rcs_int (col_snoc' (fun (t:Int)=>t) rfl (fun _ _=>rfl)) rcs_nil) (entl_bor (use_lo rfl) rfl rfl (entl_bor (use_lo rfl) rfl rfl entl_nil)))
theorem a55 (ap np mp:Nat) (tp:NI) (aq nq mq:Nat) (tq:NI) {r:Rt55} (h:Goes ((q55 ap np mp tp aq nq mq tq)) ((p55 ap np mp tp aq nq mq tq)) r):CallR Tryz.prog 115 [.loose ⟨0,1,ap,0⟩ np,.loose ⟨1,1,aq,0⟩ nq] [[(0,(false,.cols mp [.int .i64 tp])),(1,(false,.cols mq [.int .i64 tq]))]] 2 ((V55 ap np mp tp aq nq mq tq) r) ((J55 ap np mp tp aq nq mq tq) r) 400∧ ∃ F,Tryz.prog.funcs[115]? =some F∧F.body.isSome=true∧(F.name== "runtime.NumGoroutine")=false:=by
  refine dec_calls (f:=115) (lo:=2) (hi:=400) Tryz.envOk Tryz.mixed noX_ok ((I55 ap np mp tp aq nq mq tq)) ((V55 ap np mp tp aq nq mq tq)) (J55 ap np mp tp aq nq mq tq) (fn:=mkFn Tryz.f115) (ts:= [1,5,6,20,21,22]) (n:=400) rfl (by decide) (by simp) (names_of rfl) ?_ ?_ ?_ h
  · intro s; cases s<;>exact ⟨hd_ok _ _,by simp [I55],names_of rfl,Nat.le_of_ble_eq_true rfl⟩
  · intro Kst Kret x hS hR h
    exact Holds.eq (te55 cond Kst Kret ap np mp tp aq nq mq tq) (be55 ap np mp tp aq nq mq tq Kst Kret x hS hR h)
  · intro Kst Kret x hS hR s h
    cases s with
    |h0 x0 x1 x2=>exact Holds.eq (t55_0 cond Kst Kret ap np mp tp aq nq mq tq x0 x1 x2) (b55_0 ap np mp tp aq nq mq tq Kst Kret x hS hR x0 x1 x2 h)
    |h1 x0 x1 x2=>exact Holds.eq (t55_1 cond Kst Kret ap np mp tp aq nq mq tq x0 x1 x2) (b55_1 ap np mp tp aq nq mq tq Kst Kret x hS hR x0 x1 x2 h)
noncomputable abbrev w55 {α:Type} (g:Nat→Nat→Nat→(Nat→Int)→Nat→Nat→Nat→(Nat→Int)→α) (x:(Nat×Nat×Nat×(Nat→Int)×Unit)×(Nat×Nat×Nat×(Nat→Int)×Unit)×Unit):α:=g x.1.1 x.1.2.1 x.1.2.2.1 x.1.2.2.2.1 x.2.1.1 x.2.1.2.1 x.2.1.2.2.1 x.2.1.2.2.2.1
noncomputable def k55:Con:=⟨115,[.one (.list [.int .i64]),.one (.list [.int .i64])],w55 (fun ap np mp tp aq nq mq tq=>decide ((ap+np≤mp∧aq+nq≤mq)∧(np≤1000∧nq≤1000)∧S.okG np (fun j=>tp (j+ap))=true∧S.okG nq (fun j=>tq (j+aq))=true)),w55 (fun ap np mp tp aq nq mq tq=>(V55 ap np mp tp aq nq mq tq) (S.grp (S.val np (fun j=>tp (j+ap))+S.val nq (fun j=>tq (j+aq))))),w55 (fun ap np mp tp aq nq mq tq=>(N55 ap np mp tp aq nq mq tq) (S.grp (S.val np (fun j=>tp (j+ap))+S.val nq (fun j=>tq (j+aq))))),fun _ _=> .dead⟩
theorem s55_h1 (ap np mp:Nat) (tp:Nat→Int) (aq nq mq:Nat) (tq:Nat→Int) (hp:ap+np≤mp∧aq+nq≤mq) (hn:nq≤np∧np≤1000) (g1:S.okG np (fun j=>tp (j+ap))=true) (g2:S.okG nq (fun j=>tq (j+aq))=true): ∀ (k i:Nat) (c:Int) (L:List Int),i+k=np→L.length=i→(0≤c∧c≤1)→Comes (q55 ap np mp tp aq nq mq tq) (.h1 c (i:Int) L) (L++S.grp (c+S.valF (fun j=>tp (j+ap)) i k+S.valF (S.ext nq (fun j=>tq (j+aq))) i k)):=by
  obtain ⟨hp1,hp2⟩:=hp
  have d1:=(okG_iff.mp g1).1
  have d2:=(okG_iff.mp g2).1
  intro k
  induction k with
  | zero=>
    intro i c L hi hL hc
    simp only [S.valF]
    apply Comes.of
    by_cases h0:c=0
    · subst h0
      simp only [Int.add_zero,grp_zero,List.append_nil]
      show Goes _ _ _
      (first|rw [q55]|unfold q55)
      repeat' (first|with_reducible refine goes_if (fun h=> ?_) (fun h=> ?_)<;>(try simp only [SH] at h)|exact goes_none.mpr (by omega))
      all_goals first|(exfalso; omega)|exact goes_inr.mpr rfl
    · have:c=1:=by omega
      subst this
      simp only [Int.add_zero,grp_one,← snoc_eq]
      show Goes _ _ _
      (first|rw [q55]|unfold q55)
      repeat' (first|with_reducible refine goes_if (fun h=> ?_) (fun h=> ?_)<;>(try simp only [SH] at h)|exact goes_none.mpr (by omega))
      all_goals first|(exfalso; omega)|exact goes_inr.mpr rfl
  | succ k ih=>
    intro i c L hi hL hc
    have hpos:=suf_pos g1 (i:=i) (by omega)
    rw [show np-i=k+1 by omega] at hpos
    have hb:=d1 i (by omega)
    have hb2:=ext_dig d2 i
    have n1:=valF_nn (t:=(fun j=>tp (j+ap))) (k:=k) (i:=i+1) fun j h1 h2=>(d1 j (by omega)).1
    have n2:=valF_nn (t:=S.ext nq (fun j=>tq (j+aq))) (k:=k) (i:=i+1) fun j h1 h2=>(ext_dig d2 j).1
    have ih0:=ih (i+1) 0 (S.snoc L (tp (i+ap)+c+S.ext nq (fun j=>tq (j+aq)) i)) (by omega) (by rw [snoc_len]; omega) (by omega)
    have ih1:=ih (i+1) 1 (S.snoc L (tp (i+ap)+c+S.ext nq (fun j=>tq (j+aq)) i-1000000)) (by omega) (by rw [snoc_len]; omega) (by omega)
    rw [snoc_app] at ih0 ih1
    simp only [S.valF] at hpos ⊢
    (try dsimp only at hb)
    generalize S.valF (fun j=>tp (j+ap)) (i+1) k=vp at*
    generalize S.valF (S.ext nq (fun j=>tq (j+aq))) (i+1) k=vq at*
    have t0:tp (i+ap)+c+S.ext nq (fun j=>tq (j+aq)) i<1000000→S.grp (c+(tp (i+ap)+1000000*vp)+(S.ext nq (fun j=>tq (j+aq)) i+1000000*vq))=(tp (i+ap)+c+S.ext nq (fun j=>tq (j+aq)) i)::S.grp (0+vp+vq):=fun h=>by
      rw [show c+(tp (i+ap)+1000000*vp)+(S.ext nq (fun j=>tq (j+aq)) i+1000000*vq)=(tp (i+ap)+c+S.ext nq (fun j=>tq (j+aq)) i)+1000000*(0+vp+vq) by omega]
      exact grp_step (by omega) (by omega) (by omega)
    have t1:1000000≤tp (i+ap)+c+S.ext nq (fun j=>tq (j+aq)) i→S.grp (c+(tp (i+ap)+1000000*vp)+(S.ext nq (fun j=>tq (j+aq)) i+1000000*vq))=(tp (i+ap)+c+S.ext nq (fun j=>tq (j+aq)) i-1000000)::S.grp (1+vp+vq):=fun h=>by
      rw [show c+(tp (i+ap)+1000000*vp)+(S.ext nq (fun j=>tq (j+aq)) i+1000000*vq)=(tp (i+ap)+c+S.ext nq (fun j=>tq (j+aq)) i-1000000)+1000000*(1+vp+vq) by omega]
      exact grp_step (by omega) (by omega) (by omega)
    by_cases hq:i<nq
    · have e:S.ext nq (fun j=>tq (j+aq)) i=tq (i+aq):=if_pos hq
      rw [e] at t0 t1 ih0 ih1 hb2 ⊢
      by_cases h0:tp (i+ap)+c+tq (i+aq)<1000000
      · rw [t0 h0]
        apply Comes.of
        show Goes _ _ _
        (first|rw [q55]|unfold q55)
        repeat' (first|with_reducible refine goes_if (fun h=> ?_) (fun h=> ?_)<;>(try simp only [SH] at h)|exact goes_none.mpr (by omega))
        all_goals first|(exfalso; omega)|exact ih0
      · rw [t1 (by omega)]
        apply Comes.of
        show Goes _ _ _
        (first|rw [q55]|unfold q55)
        repeat' (first|with_reducible refine goes_if (fun h=> ?_) (fun h=> ?_)<;>(try simp only [SH] at h)|exact goes_none.mpr (by omega))
        all_goals first|(exfalso; omega)|exact ih1
    · have e:S.ext nq (fun j=>tq (j+aq)) i=0:=if_neg hq
      simp only [e,Int.add_zero] at t0 t1 ih0 ih1 hb2 ⊢
      by_cases h0:tp (i+ap)+c<1000000
      · rw [t0 h0]
        apply Comes.of
        show Goes _ _ _
        (first|rw [q55]|unfold q55)
        repeat' (first|with_reducible refine goes_if (fun h=> ?_) (fun h=> ?_)<;>(try simp only [SH] at h)|exact goes_none.mpr (by omega))
        all_goals first|(exfalso; omega)|exact ih0
      · rw [t1 (by omega)]
        apply Comes.of
        show Goes _ _ _
        (first|rw [q55]|unfold q55)
        repeat' (first|with_reducible refine goes_if (fun h=> ?_) (fun h=> ?_)<;>(try simp only [SH] at h)|exact goes_none.mpr (by omega))
        all_goals first|(exfalso; omega)|exact ih1
theorem s55_h0 (ap np mp:Nat) (tp:Nat→Int) (aq nq mq:Nat) (tq:Nat→Int) (hp:ap+np≤mp∧aq+nq≤mq) (hn:np≤nq∧nq≤1000) (g1:S.okG nq (fun j=>tq (j+aq))=true) (g2:S.okG np (fun j=>tp (j+ap))=true): ∀ (k i:Nat) (c:Int) (L:List Int),i+k=nq→L.length=i→(0≤c∧c≤1)→Comes (q55 ap np mp tp aq nq mq tq) (.h0 c (i:Int) L) (L++S.grp (c+S.valF (fun j=>tq (j+aq)) i k+S.valF (S.ext np (fun j=>tp (j+ap))) i k)):=by
  obtain ⟨hp1,hp2⟩:=hp
  have d1:=(okG_iff.mp g1).1
  have d2:=(okG_iff.mp g2).1
  intro k
  induction k with
  | zero=>
    intro i c L hi hL hc
    simp only [S.valF]
    apply Comes.of
    by_cases h0:c=0
    · subst h0
      simp only [Int.add_zero,grp_zero,List.append_nil]
      show Goes _ _ _
      (first|rw [q55]|unfold q55)
      repeat' (first|with_reducible refine goes_if (fun h=> ?_) (fun h=> ?_)<;>(try simp only [SH] at h)|exact goes_none.mpr (by omega))
      all_goals first|(exfalso; omega)|exact goes_inr.mpr rfl
    · have:c=1:=by omega
      subst this
      simp only [Int.add_zero,grp_one,← snoc_eq]
      show Goes _ _ _
      (first|rw [q55]|unfold q55)
      repeat' (first|with_reducible refine goes_if (fun h=> ?_) (fun h=> ?_)<;>(try simp only [SH] at h)|exact goes_none.mpr (by omega))
      all_goals first|(exfalso; omega)|exact goes_inr.mpr rfl
  | succ k ih=>
    intro i c L hi hL hc
    have hpos:=suf_pos g1 (i:=i) (by omega)
    rw [show nq-i=k+1 by omega] at hpos
    have hb:=d1 i (by omega)
    have hb2:=ext_dig d2 i
    have n1:=valF_nn (t:=(fun j=>tq (j+aq))) (k:=k) (i:=i+1) fun j h1 h2=>(d1 j (by omega)).1
    have n2:=valF_nn (t:=S.ext np (fun j=>tp (j+ap))) (k:=k) (i:=i+1) fun j h1 h2=>(ext_dig d2 j).1
    have ih0:=ih (i+1) 0 (S.snoc L (tq (i+aq)+c+S.ext np (fun j=>tp (j+ap)) i)) (by omega) (by rw [snoc_len]; omega) (by omega)
    have ih1:=ih (i+1) 1 (S.snoc L (tq (i+aq)+c+S.ext np (fun j=>tp (j+ap)) i-1000000)) (by omega) (by rw [snoc_len]; omega) (by omega)
    rw [snoc_app] at ih0 ih1
    simp only [S.valF] at hpos ⊢
    (try dsimp only at hb)
    generalize S.valF (fun j=>tq (j+aq)) (i+1) k=vp at*
    generalize S.valF (S.ext np (fun j=>tp (j+ap))) (i+1) k=vq at*
    have t0:tq (i+aq)+c+S.ext np (fun j=>tp (j+ap)) i<1000000→S.grp (c+(tq (i+aq)+1000000*vp)+(S.ext np (fun j=>tp (j+ap)) i+1000000*vq))=(tq (i+aq)+c+S.ext np (fun j=>tp (j+ap)) i)::S.grp (0+vp+vq):=fun h=>by
      rw [show c+(tq (i+aq)+1000000*vp)+(S.ext np (fun j=>tp (j+ap)) i+1000000*vq)=(tq (i+aq)+c+S.ext np (fun j=>tp (j+ap)) i)+1000000*(0+vp+vq) by omega]
      exact grp_step (by omega) (by omega) (by omega)
    have t1:1000000≤tq (i+aq)+c+S.ext np (fun j=>tp (j+ap)) i→S.grp (c+(tq (i+aq)+1000000*vp)+(S.ext np (fun j=>tp (j+ap)) i+1000000*vq))=(tq (i+aq)+c+S.ext np (fun j=>tp (j+ap)) i-1000000)::S.grp (1+vp+vq):=fun h=>by
      rw [show c+(tq (i+aq)+1000000*vp)+(S.ext np (fun j=>tp (j+ap)) i+1000000*vq)=(tq (i+aq)+c+S.ext np (fun j=>tp (j+ap)) i-1000000)+1000000*(1+vp+vq) by omega]
      exact grp_step (by omega) (by omega) (by omega)
    by_cases hq:i<np
    · have e:S.ext np (fun j=>tp (j+ap)) i=tp (i+ap):=if_pos hq
      rw [e] at t0 t1 ih0 ih1 hb2 ⊢
      by_cases h0:tq (i+aq)+c+tp (i+ap)<1000000
      · rw [t0 h0]
        apply Comes.of
        show Goes _ _ _
        (first|rw [q55]|unfold q55)
        repeat' (first|with_reducible refine goes_if (fun h=> ?_) (fun h=> ?_)<;>(try simp only [SH] at h)|exact goes_none.mpr (by omega))
        all_goals first|(exfalso; omega)|exact ih0
      · rw [t1 (by omega)]
        apply Comes.of
        show Goes _ _ _
        (first|rw [q55]|unfold q55)
        repeat' (first|with_reducible refine goes_if (fun h=> ?_) (fun h=> ?_)<;>(try simp only [SH] at h)|exact goes_none.mpr (by omega))
        all_goals first|(exfalso; omega)|exact ih1
    · have e:S.ext np (fun j=>tp (j+ap)) i=0:=if_neg hq
      simp only [e,Int.add_zero] at t0 t1 ih0 ih1 hb2 ⊢
      by_cases h0:tq (i+aq)+c<1000000
      · rw [t0 h0]
        apply Comes.of
        show Goes _ _ _
        (first|rw [q55]|unfold q55)
        repeat' (first|with_reducible refine goes_if (fun h=> ?_) (fun h=> ?_)<;>(try simp only [SH] at h)|exact goes_none.mpr (by omega))
        all_goals first|(exfalso; omega)|exact ih0
      · rw [t1 (by omega)]
        apply Comes.of
        show Goes _ _ _
        (first|rw [q55]|unfold q55)
        repeat' (first|with_reducible refine goes_if (fun h=> ?_) (fun h=> ?_)<;>(try simp only [SH] at h)|exact goes_none.mpr (by omega))
        all_goals first|(exfalso; omega)|exact ih1
theorem s55 (ap np mp:Nat) (tp:Nat→Int) (aq nq mq:Nat) (tq:Nat→Int) (hp:(ap+np≤mp∧aq+nq≤mq)∧(np≤1000∧nq≤1000)∧S.okG np (fun j=>tp (j+ap))=true∧S.okG nq (fun j=>tq (j+aq))=true):Goes ((q55 ap np mp tp aq nq mq tq)) ((p55 ap np mp tp aq nq mq tq)) (S.grp (S.val np (fun j=>tp (j+ap))+S.val nq (fun j=>tq (j+aq)))):=by
  obtain ⟨hp1,⟨hp2,hp3⟩,g1,g2⟩:=hp
  by_cases hn:np<nq
  · have hm:=s55_h0 ap np mp tp aq nq mq tq hp1 (by omega) g2 g1 nq 0 0 [] (by omega) rfl (by omega)
    rw [ext_val,Nat.sub_zero,Nat.min_eq_right (by omega),Int.zero_add,List.nil_append,Int.add_comm] at hm
    have e0:(S.mkl 0 fun _=>(0:Int))= []:=rfl
    show Goes _ _ _
    unfold p55
    repeat' (first|with_reducible refine goes_if (fun h=> ?_) (fun h=> ?_)<;>(try simp only [SH] at h)|exact goes_none.mpr (by omega))
    all_goals first|(exfalso; omega)|exact hm
  · have hm:=s55_h1 ap np mp tp aq nq mq tq hp1 (by omega) g1 g2 np 0 0 [] (by omega) rfl (by omega)
    rw [ext_val,Nat.sub_zero,Nat.min_eq_right (by omega),Int.zero_add,List.nil_append] at hm
    show Goes _ _ _
    unfold p55
    repeat' (first|with_reducible refine goes_if (fun h=> ?_) (fun h=> ?_)<;>(try simp only [SH] at h)|exact goes_none.mpr (by omega))
    all_goals first|(exfalso; omega)|exact hm
theorem k55_ok:k55.ok Tryz.prog:=by
  intro x hx
  obtain ⟨⟨ap,np,mp,tp,_⟩,⟨aq,nq,mq,tq,_⟩,_⟩:=x
  obtain ⟨h1,h2⟩:=a55 ap np mp tp aq nq mq tq (s55 ap np mp tp aq nq mq tq (of_dec hx rfl))
  exact ⟨⟨400,(by decide:2+1+1≤400),h1⟩,h2⟩
noncomputable def xB0 (test:Bool→Prop→Prop→Prop):Ext:=consX test [k69,k65,k69v,k65v,k60,k61,k44,k73,k55,k45]
theorem xB0_ok:ExtOk Tryz.prog (xB0 cond):=consX_ok ⟨k69_ok,k65_ok,k69v_ok,k65v_ok,k60_ok,k61_ok,k44_ok,k73_ok,k55_ok,k45_ok,trivial⟩
namespace S
noncomputable def grpP (v:Int):Nat×List Int:=((grp v).length,grp v)
def sgB (ng:Bool) (v:Int):Bool:=ng&&decide (0<v)
end S
inductive St58 where
  |h0 (x0:Int) (x1:Int) (x2:List Int)
abbrev Rt58:=Nat×List Int
noncomputable def V58 (ap np mp:Nat) (tp:NI) (aq nq mq:Nat) (tq:NI) (r:Rt58):PV:=PV.loose (PA.mk (3) (1) (0) (0)) r.1
noncomputable def N58 (ap np mp:Nat) (tp:NI) (aq nq mq:Nat) (tq:NI) (r:Rt58):List Blk:= [Blk.cols (List.length r.2) [Col.int .i64 fun j=>S.at' r.2 j]]
noncomputable def I58 (ap np mp:Nat) (tp:NI) (aq nq mq:Nat) (tq:NI):St58→Hd
  | .h0 x0 x1 x2=>⟨hd Tryz.f117 0,[PV.loose (PA.mk (0) (1) ap (0)) np,
 PV.loose (PA.mk (1) (1) aq (0)) nq,
 PV.own (2) (1) (List.length x2),PV.int .i64 x0,PV.int .i64 x1],[[(2,(true,Blk.cols (List.length x2) [Col.int .i64 fun j=>S.at' x2 j]))],[(0,(false,.cols mp [.int .i64 tp])),(1,(false,.cols mq [.int .i64 tq]))]],3⟩
noncomputable def q58 (ap np mp:Nat) (tp:NI) (aq nq mq:Nat) (tq:NI):St58→Option (St58⊕Rt58)| .h0 x0 x1 x2=>bif (decide (x1<(↑np:Int))) then (bif (decide ((0:Int)≤x1∧x1<(↑np:Int))) then (bif (decide (Int.toNat x1+ap<mp)) then (bif (decide (x1<(↑nq:Int))) then (bif (decide ((0:Int)≤x1∧x1<(↑nq:Int))) then (bif (decide (Int.toNat x1+aq<mq)) then (bif (lim .i64 (tp (Int.toNat x1+ap)+tq (Int.toNat x1+aq))) then (bif (lim .i64 (tp (Int.toNat x1+ap)+tq (Int.toNat x1+aq)+x0)) then (bif (decide (List.length x2+1≤1000000)) then (bif (decide (List.length x2≤List.length x2)) then (bif (lim .i64 (Int.tdiv (tp (Int.toNat x1+ap)+tq (Int.toNat x1+aq)+x0) (1000000:Int))) then (bif (lim .i64 (x1+1)) then (some (.inl (.h0 (Int.tdiv (tp (Int.toNat x1+ap)+tq (Int.toNat x1+aq)+x0) (1000000:Int)) (x1+1) (S.snoc x2 (Int.tmod (tp (Int.toNat x1+ap)+tq (Int.toNat x1+aq)+x0) (1000000:Int)))))) else (none)) else (none)) else (none)) else (none)) else (none)) else (none)) else (none)) else (none)) else (bif (lim .i64 (tp (Int.toNat x1+ap)+0)) then (bif (lim .i64 (tp (Int.toNat x1+ap)+0+x0)) then (bif (decide (List.length x2+1≤1000000)) then (bif (decide (List.length x2≤List.length x2)) then (bif (lim .i64 (Int.tdiv (tp (Int.toNat x1+ap)+0+x0) (1000000:Int))) then (bif (lim .i64 (x1+1)) then (some (.inl (.h0 (Int.tdiv (tp (Int.toNat x1+ap)+0+x0) (1000000:Int)) (x1+1) (S.snoc x2 (Int.tmod (tp (Int.toNat x1+ap)+0+x0) (1000000:Int)))))) else (none)) else (none)) else (none)) else (none)) else (none)) else (none))) else (none)) else (none)) else (bif (decide (x1<(↑nq:Int))) then (bif (decide ((0:Int)≤x1∧x1<(↑nq:Int))) then (bif (decide (Int.toNat x1+aq<mq)) then (bif (lim .i64 ((0:Int)+tq (Int.toNat x1+aq))) then (bif (lim .i64 ((0:Int)+tq (Int.toNat x1+aq)+x0)) then (bif (decide (List.length x2+1≤1000000)) then (bif (decide (List.length x2≤List.length x2)) then (bif (lim .i64 (Int.tdiv ((0:Int)+tq (Int.toNat x1+aq)+x0) (1000000:Int))) then (bif (lim .i64 (x1+1)) then (some (.inl (.h0 (Int.tdiv ((0:Int)+tq (Int.toNat x1+aq)+x0) (1000000:Int)) (x1+1) (S.snoc x2 (Int.tmod ((0:Int)+tq (Int.toNat x1+aq)+x0) (1000000:Int)))))) else (none)) else (none)) else (none)) else (none)) else (none)) else (none)) else (none)) else (none)) else (bif (decide (List.length x2+1≤1000000)) then (bif (decide (List.length x2≤List.length x2)) then (bif (decide (List.length x2+1≤List.length x2+1)) then (some (.inr (List.length (S.trim (S.mkl (List.length x2+1) fun j=>bif Nat.blt j (List.length x2) then S.at' x2 j else x0)),S.trim (S.mkl (List.length x2+1) fun j=>bif Nat.blt j (List.length x2) then S.at' x2 j else x0)))) else (none)) else (none)) else (none)))
noncomputable def p58 (ap np mp:Nat) (tp:NI) (aq nq mq:Nat) (tq:NI):Option (St58⊕Rt58):=some (.inl (.h0 ((0:Int)) ((0:Int)) ([])))
noncomputable def Te58 (test:TT) (Kst:KS) (Kret:KR) (ap np mp:Nat) (tp:NI) (aq nq mq:Nat) (tq:NI):Prop:=Kst (hd Tryz.f117 0) ([PV.loose (PA.mk (0) (1) ap (0)) np,PV.loose (PA.mk (1) (1) aq (0)) nq,PV.nils,PV.int .i64 (0:Int),PV.int .i64 (0:Int)]) ([[(1,false,Blk.cols mq [Col.int .i64 tq]),(0,false,Blk.cols mp [Col.int .i64 tp])]]) (2)
theorem te58 (test:TT) (Kst:KS) (Kret:KR) (ap np mp:Nat) (tp:NI) (aq nq mq:Nat) (tq:NI):run test Tryz.env true (xB0 test) true 400 ⟨117,[.cd (mkFn Tryz.f117).body],argT 0 [.loose ⟨0,1,ap,0⟩ np,.loose ⟨1,1,aq,0⟩ nq],[[],[(0,(false,.cols mp [.int .i64 tp])),(1,(false,.cols mq [.int .i64 tq]))]],2⟩ (proj 2 [0,1,5,6,7] Kst Kret)=
  Te58 test Kst Kret ap np mp tp aq nq mq tq:=by kernel_rfl
noncomputable abbrev u58_0_0 (mq:Nat) (tq:NI):=(1,false,Blk.cols mq [Col.int .i64 tq])
noncomputable abbrev u58_0_1 (mp:Nat) (tp:NI):=(0,false,Blk.cols mp [Col.int .i64 tp])
noncomputable abbrev u58_0_2 (x0:Int) (x2:List Int):=S.trim (S.mkl (List.length x2+1) fun j=>bif Nat.blt j (List.length x2) then S.at' x2 j else x0)
noncomputable def T58_0 (test:TT) (Kst:KS) (Kret:KR) (ap np mp:Nat) (tp:NI) (aq nq mq:Nat) (tq:NI) (x0:Int) (x1:Int) (x2:List Int):Prop:=test (decide (x1<(↑np:Int))) (test (decide (x1<(↑np:Int))) (test (decide ((0:Int)≤x1∧x1<(↑np:Int))) (test (decide (Int.toNat x1+ap<mp)) (test (decide (x1<(↑nq:Int))) (test (decide ((0:Int)≤x1∧x1<(↑nq:Int))) (test (decide (Int.toNat x1+aq<mq)) (test (lim .i64 (tp (Int.toNat x1+ap)+tq (Int.toNat x1+aq))) (test (lim .i64 (tp (Int.toNat x1+ap)+tq (Int.toNat x1+aq)+x0)) (test (false) (False) (test (decide (List.length x2+1≤1000000)) (test (decide (List.length x2≤List.length x2)) (test (true) (test (false) (False) (test (lim .i64 (Int.tdiv (tp (Int.toNat x1+ap)+tq (Int.toNat x1+aq)+x0) (1000000:Int))) (test (lim .i64 (x1+1)) (Kst (hd Tryz.f117 0) ([PV.loose (PA.mk (0) (1) ap (0)) np,PV.loose (PA.mk (1) (1) aq (0)) nq,PV.own (4) (1) (List.length x2+1),PV.int .i64 (Int.tdiv (tp (Int.toNat x1+ap)+tq (Int.toNat x1+aq)+x0) (1000000:Int)),PV.int .i64 (x1+1)]) ([[(u58_0_0 mq tq),(u58_0_1 mp tp),(4,true,Blk.cols (List.length x2+1) [Col.int .i64 fun j=>bif Nat.blt j (List.length x2) then S.at' x2 j else Int.tmod (tp (Int.toNat x1+ap)+tq (Int.toNat x1+aq)+x0) (1000000:Int)])]]) (5)) (False)) (False))) (False)) (False)) (False))) (False)) (False)) (False)) (False)) (test (lim .i64 (tp (Int.toNat x1+ap)+0)) (test (lim .i64 (tp (Int.toNat x1+ap)+0+x0)) (test (false) (False) (test (decide (List.length x2+1≤1000000)) (test (decide (List.length x2≤List.length x2)) (test (true) (test (false) (False) (test (lim .i64 (Int.tdiv (tp (Int.toNat x1+ap)+0+x0) (1000000:Int))) (test (lim .i64 (x1+1)) (Kst (hd Tryz.f117 0) ([PV.loose (PA.mk (0) (1) ap (0)) np,PV.loose (PA.mk (1) (1) aq (0)) nq,PV.own (4) (1) (List.length x2+1),PV.int .i64 (Int.tdiv (tp (Int.toNat x1+ap)+0+x0) (1000000:Int)),PV.int .i64 (x1+1)]) ([[(u58_0_0 mq tq),(u58_0_1 mp tp),(4,true,Blk.cols (List.length x2+1) [Col.int .i64 fun j=>bif Nat.blt j (List.length x2) then S.at' x2 j else Int.tmod (tp (Int.toNat x1+ap)+0+x0) (1000000:Int)])]]) (5)) (False)) (False))) (False)) (False)) (False))) (False)) (False))) (False)) (False)) (test (decide (x1<(↑nq:Int))) (test (decide ((0:Int)≤x1∧x1<(↑nq:Int))) (test (decide (Int.toNat x1+aq<mq)) (test (lim .i64 ((0:Int)+tq (Int.toNat x1+aq))) (test (lim .i64 ((0:Int)+tq (Int.toNat x1+aq)+x0)) (test (false) (False) (test (decide (List.length x2+1≤1000000)) (test (decide (List.length x2≤List.length x2)) (test (true) (test (false) (False) (test (lim .i64 (Int.tdiv ((0:Int)+tq (Int.toNat x1+aq)+x0) (1000000:Int))) (test (lim .i64 (x1+1)) (Kst (hd Tryz.f117 0) ([PV.loose (PA.mk (0) (1) ap (0)) np,PV.loose (PA.mk (1) (1) aq (0)) nq,PV.own (4) (1) (List.length x2+1),PV.int .i64 (Int.tdiv ((0:Int)+tq (Int.toNat x1+aq)+x0) (1000000:Int)),PV.int .i64 (x1+1)]) ([[(u58_0_0 mq tq),(u58_0_1 mp tp),(4,true,Blk.cols (List.length x2+1) [Col.int .i64 fun j=>bif Nat.blt j (List.length x2) then S.at' x2 j else Int.tmod ((0:Int)+tq (Int.toNat x1+aq)+x0) (1000000:Int)])]]) (5)) (False)) (False))) (False)) (False)) (False))) (False)) (False)) (False)) (False)) (test (true) (test (lim .i64 ((0:Int)+x0)) (test (false) (False) (test (decide (List.length x2+1≤1000000)) (test (decide (List.length x2≤List.length x2)) (test (true) (test (false) (False) (test (lim .i64 (Int.tdiv ((0:Int)+x0) (1000000:Int))) (test (lim .i64 (x1+1)) (Kst (hd Tryz.f117 0) ([PV.loose (PA.mk (0) (1) ap (0)) np,PV.loose (PA.mk (1) (1) aq (0)) nq,PV.own (4) (1) (List.length x2+1),PV.int .i64 (Int.tdiv ((0:Int)+x0) (1000000:Int)),PV.int .i64 (x1+1)]) ([[(u58_0_0 mq tq),(u58_0_1 mp tp),(4,true,Blk.cols (List.length x2+1) [Col.int .i64 fun j=>bif Nat.blt j (List.length x2) then S.at' x2 j else Int.tmod ((0:Int)+x0) (1000000:Int)])]]) (5)) (False)) (False))) (False)) (False)) (False))) (False)) (False)))) (test (decide (x1<(↑nq:Int))) (test (decide (x1<(↑np:Int))) (test (decide ((0:Int)≤x1∧x1<(↑np:Int))) (test (decide (Int.toNat x1+ap<mp)) (test (decide (x1<(↑nq:Int))) (test (decide ((0:Int)≤x1∧x1<(↑nq:Int))) (test (decide (Int.toNat x1+aq<mq)) (test (lim .i64 (tp (Int.toNat x1+ap)+tq (Int.toNat x1+aq))) (test (lim .i64 (tp (Int.toNat x1+ap)+tq (Int.toNat x1+aq)+x0)) (test (false) (False) (test (decide (List.length x2+1≤1000000)) (test (decide (List.length x2≤List.length x2)) (test (true) (test (false) (False) (test (lim .i64 (Int.tdiv (tp (Int.toNat x1+ap)+tq (Int.toNat x1+aq)+x0) (1000000:Int))) (test (lim .i64 (x1+1)) (Kst (hd Tryz.f117 0) ([PV.loose (PA.mk (0) (1) ap (0)) np,PV.loose (PA.mk (1) (1) aq (0)) nq,PV.own (4) (1) (List.length x2+1),PV.int .i64 (Int.tdiv (tp (Int.toNat x1+ap)+tq (Int.toNat x1+aq)+x0) (1000000:Int)),PV.int .i64 (x1+1)]) ([[(u58_0_0 mq tq),(u58_0_1 mp tp),(4,true,Blk.cols (List.length x2+1) [Col.int .i64 fun j=>bif Nat.blt j (List.length x2) then S.at' x2 j else Int.tmod (tp (Int.toNat x1+ap)+tq (Int.toNat x1+aq)+x0) (1000000:Int)])]]) (5)) (False)) (False))) (False)) (False)) (False))) (False)) (False)) (False)) (False)) (test (lim .i64 (tp (Int.toNat x1+ap)+0)) (test (lim .i64 (tp (Int.toNat x1+ap)+0+x0)) (test (false) (False) (test (decide (List.length x2+1≤1000000)) (test (decide (List.length x2≤List.length x2)) (test (true) (test (false) (False) (test (lim .i64 (Int.tdiv (tp (Int.toNat x1+ap)+0+x0) (1000000:Int))) (test (lim .i64 (x1+1)) (Kst (hd Tryz.f117 0) ([PV.loose (PA.mk (0) (1) ap (0)) np,PV.loose (PA.mk (1) (1) aq (0)) nq,PV.own (4) (1) (List.length x2+1),PV.int .i64 (Int.tdiv (tp (Int.toNat x1+ap)+0+x0) (1000000:Int)),PV.int .i64 (x1+1)]) ([[(u58_0_0 mq tq),(u58_0_1 mp tp),(4,true,Blk.cols (List.length x2+1) [Col.int .i64 fun j=>bif Nat.blt j (List.length x2) then S.at' x2 j else Int.tmod (tp (Int.toNat x1+ap)+0+x0) (1000000:Int)])]]) (5)) (False)) (False))) (False)) (False)) (False))) (False)) (False))) (False)) (False)) (test (decide (x1<(↑nq:Int))) (test (decide ((0:Int)≤x1∧x1<(↑nq:Int))) (test (decide (Int.toNat x1+aq<mq)) (test (lim .i64 ((0:Int)+tq (Int.toNat x1+aq))) (test (lim .i64 ((0:Int)+tq (Int.toNat x1+aq)+x0)) (test (false) (False) (test (decide (List.length x2+1≤1000000)) (test (decide (List.length x2≤List.length x2)) (test (true) (test (false) (False) (test (lim .i64 (Int.tdiv ((0:Int)+tq (Int.toNat x1+aq)+x0) (1000000:Int))) (test (lim .i64 (x1+1)) (Kst (hd Tryz.f117 0) ([PV.loose (PA.mk (0) (1) ap (0)) np,PV.loose (PA.mk (1) (1) aq (0)) nq,PV.own (4) (1) (List.length x2+1),PV.int .i64 (Int.tdiv ((0:Int)+tq (Int.toNat x1+aq)+x0) (1000000:Int)),PV.int .i64 (x1+1)]) ([[(u58_0_0 mq tq),(u58_0_1 mp tp),(4,true,Blk.cols (List.length x2+1) [Col.int .i64 fun j=>bif Nat.blt j (List.length x2) then S.at' x2 j else Int.tmod ((0:Int)+tq (Int.toNat x1+aq)+x0) (1000000:Int)])]]) (5)) (False)) (False))) (False)) (False)) (False))) (False)) (False)) (False)) (False)) (test (true) (test (lim .i64 ((0:Int)+x0)) (test (false) (False) (test (decide (List.length x2+1≤1000000)) (test (decide (List.length x2≤List.length x2)) (test (true) (test (false) (False) (test (lim .i64 (Int.tdiv ((0:Int)+x0) (1000000:Int))) (test (lim .i64 (x1+1)) (Kst (hd Tryz.f117 0) ([PV.loose (PA.mk (0) (1) ap (0)) np,PV.loose (PA.mk (1) (1) aq (0)) nq,PV.own (4) (1) (List.length x2+1),PV.int .i64 (Int.tdiv ((0:Int)+x0) (1000000:Int)),PV.int .i64 (x1+1)]) ([[(u58_0_0 mq tq),(u58_0_1 mp tp),(4,true,Blk.cols (List.length x2+1) [Col.int .i64 fun j=>bif Nat.blt j (List.length x2) then S.at' x2 j else Int.tmod ((0:Int)+x0) (1000000:Int)])]]) (5)) (False)) (False))) (False)) (False)) (False))) (False)) (False)))) (test (decide (List.length x2+1≤1000000)) (test (decide (List.length x2≤List.length x2)) (test (true) (test (decide (List.length x2+1≤List.length x2+1)) (test (decide (List.length x2+1≤1000000)) (Kret (PV.own (4) (1) (List.length (u58_0_2 x0 x2))) ([[(u58_0_0 mq tq),(u58_0_1 mp tp),(4,true,Blk.cols (List.length (u58_0_2 x0 x2)) [Col.int .i64 fun j=>S.at' (u58_0_2 x0 x2) j])]]) (6)) (False)) (False)) (False)) (False)) (False)))
theorem t58_0 (test:TT) (Kst:KS) (Kret:KR) (ap np mp:Nat) (tp:NI) (aq nq mq:Nat) (tq:NI) (x0 x1:Int) (x2:List Int):run test Tryz.env true (xB0 test) true 400 ⟨117,hd Tryz.f117 0,zipT [0,1,5,6,7] [PV.loose (PA.mk (0) (1) ap (0)) np,
 PV.loose (PA.mk (1) (1) aq (0)) nq,
 PV.own (2) (1) (List.length x2),PV.int .i64 x0,PV.int .i64 x1],[[(2,(true,Blk.cols (List.length x2) [Col.int .i64 fun j=>S.at' x2 j]))],[(0,(false,.cols mp [.int .i64 tp])),(1,(false,.cols mq [.int .i64 tq]))]],3⟩ (proj 2 [0,1,5,6,7] Kst Kret)=
  T58_0 test Kst Kret ap np mp tp aq nq mq tq x0 x1 x2:=by kernel_rfl
noncomputable abbrev J58 (ap np mp:Nat) (tp:NI) (aq nq mq:Nat) (tq:NI):Rt58→Heap:=fun r=> [newL (2+1) ((N58 ap np mp tp aq nq mq tq) r)++ [(0,(false,.cols mp [.int .i64 tp])),(1,(false,.cols mq [.int .i64 tq]))]]
attribute [local irreducible] Int.subNatNat in
theorem be58 (ap np mp:Nat) (tp:NI) (aq nq mq:Nat) (tq:NI) (Kst:KS) (Kret:KR) (x:St58⊕Rt58) (hS:HS 2 400 ((I58 ap np mp tp aq nq mq tq)) Kst x) (hR:HR 2 400 ((V58 ap np mp tp aq nq mq tq)) (J58 ap np mp tp aq nq mq tq) Kret x) (h:(some (.inl (.h0 ((0:Int)) ((0:Int)) ([]))):Option (St58⊕Rt58))=some x):Te58 cond Kst Kret ap np mp tp aq nq mq tq:=by
  unfold Te58
  exact stop_at hS _ h (fun n=>bif Nat.beq n 2 then 399 else n) rfl rfl rfl ⟨(rn_loose (use_lo rfl) rfl rfl rfl),⟨(rn_loose (use_lo rfl) rfl rfl rfl),⟨(rn_own_nils rfl),⟨(rn_int rfl),⟨(rn_int rfl),trivial⟩⟩⟩⟩⟩ rfl (entl_fresh (use_own rfl) (fresh_ok rfl) (entl_bor (use_lo rfl) rfl rfl (entl_bor (use_lo rfl) rfl rfl entl_nil)))
attribute [local irreducible] Int.subNatNat in
theorem b58_0 (ap np mp:Nat) (tp:NI) (aq nq mq:Nat) (tq:NI) (Kst:KS) (Kret:KR) (x:St58⊕Rt58) (hS:HS 2 400 ((I58 ap np mp tp aq nq mq tq)) Kst x) (hR:HR 2 400 ((V58 ap np mp tp aq nq mq tq)) (J58 ap np mp tp aq nq mq tq) Kret x) (x0 x1:Int) (x2:List Int) (h:q58 ap np mp tp aq nq mq tq (.h0 x0 x1 x2)=some x):T58_0 cond Kst Kret ap np mp tp aq nq mq tq x0 x1 x2:=by
  unfold T58_0
  rw [q58] at h
  refine bif_split h (fun c0 h=>cond_yes c0 (bif_split h (fun c1 h=>bif_split h (fun c2 h=>bif_split h (fun c3 h=>bif_split h (fun c4 h=>bif_split h (fun c5 h=>bif_split h (fun c6 h=>bif_split h (fun c7 h=>cond_no rfl (bif_split h (fun c8 h=>bif_split h (fun c9 h=>cond_yes rfl (cond_no rfl (bif_split h (fun c10 h=>bif_split h (fun c11 h=> ?_) (fun c11 h=> ?_)) (fun c10 h=> ?_)))) (fun c9 h=> ?_)) (fun c8 h=> ?_))) (fun c7 h=> ?_)) (fun c6 h=> ?_)) (fun c5 h=> ?_)) (fun c4 h=> ?_)) (fun c3 h=>bif_split h (fun c4 h=>bif_split h (fun c5 h=>cond_no rfl (bif_split h (fun c6 h=>bif_split h (fun c7 h=>cond_yes rfl (cond_no rfl (bif_split h (fun c8 h=>bif_split h (fun c9 h=> ?_) (fun c9 h=> ?_)) (fun c8 h=> ?_)))) (fun c7 h=> ?_)) (fun c6 h=> ?_))) (fun c5 h=> ?_)) (fun c4 h=> ?_))) (fun c2 h=> ?_)) (fun c1 h=> ?_))) (fun c0 h=>bif_split h (fun c1 h=>cond_no c0 (cond_yes c1 (bif_split h (fun c2 h=>bif_split h (fun c3 h=>bif_split h (fun c4 h=>bif_split h (fun c5 h=>cond_no rfl (bif_split h (fun c6 h=>bif_split h (fun c7 h=>cond_yes rfl (cond_no rfl (bif_split h (fun c8 h=>bif_split h (fun c9 h=> ?_) (fun c9 h=> ?_)) (fun c8 h=> ?_)))) (fun c7 h=> ?_)) (fun c6 h=> ?_))) (fun c5 h=> ?_)) (fun c4 h=> ?_)) (fun c3 h=> ?_)) (fun c2 h=> ?_)))) (fun c1 h=>bif_split h (fun c2 h=>bif_split h (fun c3 h=>cond_yes rfl (bif_split h (fun c4 h=>cond_yes c2 (ret_at hR _ h (fun n=>bif Nat.beq n 3 then 4 else n) rfl rfl rfl (rn_own_loose (use_own rfl) rfl rfl rfl) rfl (entl_new (use_own rfl) rfl (Nat.le_of_eq rfl) (rcs_int (fun _ _=>rfl) rcs_nil) (entl_bor (use_lo rfl) rfl rfl (entl_bor (use_lo rfl) rfl rfl entl_nil))))) (fun c4 h=> ?_))) (fun c3 h=> ?_)) (fun c2 h=> ?_)))
  all_goals first
    |exact no_some h
    |exact stop_at hS _ h (fun n=>bif Nat.beq n 2 then 4 else n) rfl rfl rfl ⟨(rn_loose (use_lo rfl) rfl rfl rfl),⟨(rn_loose (use_lo rfl) rfl rfl rfl),⟨(rn_own (use_own rfl) rfl (snoc_len' rfl)),⟨(rn_int rfl),⟨(rn_int rfl),trivial⟩⟩⟩⟩⟩ rfl (entl_new (use_own rfl) rfl (Nat.le_of_eq (snoc_len' rfl)) (rcs_int (col_snoc' (fun (t:Int)=>t) rfl (fun _ _=>rfl)) rcs_nil) (entl_bor (use_lo rfl) rfl rfl (entl_bor (use_lo rfl) rfl rfl entl_nil)))
theorem a58 (ap np mp:Nat) (tp:NI) (aq nq mq:Nat) (tq:NI) {r:Rt58} (h:Goes ((q58 ap np mp tp aq nq mq tq)) ((p58 ap np mp tp aq nq mq tq)) r):CallR Tryz.prog 117 [.loose ⟨0,1,ap,0⟩ np,.loose ⟨1,1,aq,0⟩ nq] [[(0,(false,.cols mp [.int .i64 tp])),(1,(false,.cols mq [.int .i64 tq]))]] 2 ((V58 ap np mp tp aq nq mq tq) r) ((J58 ap np mp tp aq nq mq tq) r) 400∧ ∃ F,Tryz.prog.funcs[117]? =some F∧F.body.isSome=true∧(F.name== "runtime.NumGoroutine")=false:=by
  refine dec_calls (f:=117) (lo:=2) (hi:=400) Tryz.envOk Tryz.mixed xB0_ok ((I58 ap np mp tp aq nq mq tq)) ((V58 ap np mp tp aq nq mq tq)) (J58 ap np mp tp aq nq mq tq) (fn:=mkFn Tryz.f117) (ts:= [0,1,5,6,7]) (n:=400) rfl (by decide) (by simp) (names_of rfl) ?_ ?_ ?_ h
  · intro s; cases s<;>exact ⟨hd_ok _ _,by simp [I58],names_of rfl,Nat.le_of_ble_eq_true rfl⟩
  · intro Kst Kret x hS hR h
    exact Holds.eq (te58 cond Kst Kret ap np mp tp aq nq mq tq) (be58 ap np mp tp aq nq mq tq Kst Kret x hS hR h)
  · intro Kst Kret x hS hR s h
    cases s with
    |h0 x0 x1 x2=>exact Holds.eq (t58_0 cond Kst Kret ap np mp tp aq nq mq tq x0 x1 x2) (b58_0 ap np mp tp aq nq mq tq Kst Kret x hS hR x0 x1 x2 h)
noncomputable abbrev w58 {α:Type} (g:Nat→Nat→Nat→(Nat→Int)→Nat→Nat→Nat→(Nat→Int)→α) (x:(Nat×Nat×Nat×(Nat→Int)×Unit)×(Nat×Nat×Nat×(Nat→Int)×Unit)×Unit):α:=g x.1.1 x.1.2.1 x.1.2.2.1 x.1.2.2.2.1 x.2.1.1 x.2.1.2.1 x.2.1.2.2.1 x.2.1.2.2.2.1
noncomputable def k58:Con:=⟨117,[.one (.list [.int .i64]),.one (.list [.int .i64])],w58 (fun ap np mp tp aq nq mq tq=>decide ((ap+np≤mp∧aq+nq≤mq)∧(np≤1000∧nq≤1000)∧S.okG np (fun j=>tp (j+ap))=true∧S.okG nq (fun j=>tq (j+aq))=true)),w58 (fun ap np mp tp aq nq mq tq=>(V58 ap np mp tp aq nq mq tq) ((S.grpP (S.val np (fun j=>tp (j+ap))+S.val nq (fun j=>tq (j+aq)))).1,(S.grpP (S.val np (fun j=>tp (j+ap))+S.val nq (fun j=>tq (j+aq)))).2)),w58 (fun ap np mp tp aq nq mq tq=>(N58 ap np mp tp aq nq mq tq) ((S.grpP (S.val np (fun j=>tp (j+ap))+S.val nq (fun j=>tq (j+aq)))).1,(S.grpP (S.val np (fun j=>tp (j+ap))+S.val nq (fun j=>tq (j+aq)))).2)),fun _ _=> .dead⟩
theorem s58' (ap np mp:Nat) (tp:Nat→Int) (aq nq mq:Nat) (tq:Nat→Int) (hp:(ap+np≤mp∧aq+nq≤mq)∧(np≤1000∧nq≤1000)∧S.okG np (fun j=>tp (j+ap))=true∧S.okG nq (fun j=>tq (j+aq))=true): ∀ (k i:Nat) (c:Int) (L:List Int),i+k=max np nq→L.length=i→(0≤c∧c≤1)→ ∃ D:List Int,(∀ y ∈ D,0≤y∧y<1000000)∧S.valL D=c+S.valF (S.ext np (fun j=>tp (j+ap))) i k+S.valF (S.ext nq (fun j=>tq (j+aq))) i k∧Comes (q58 ap np mp tp aq nq mq tq) (.h0 c (i:Int) L) ((S.trim (L++D)).length,S.trim (L++D)):=by
  obtain ⟨⟨hp1,hp2⟩,⟨hp3,hp4⟩,g1,g2⟩:=hp
  have d1:=(okG_iff.mp g1).1
  have d2:=(okG_iff.mp g2).1
  intro k
  induction k with
  |zero=>
    intro i c L hi hL hc
    refine ⟨[c],dig_cons (by omega) (fun y hy=>by cases hy),by simp only [S.valL,S.valF]; omega,?_⟩
    rw [← mk_snoc]
    apply Comes.of
    show Goes _ _ _
    (first|rw [q58]|unfold q58)
    repeat' (first|with_reducible refine goes_if (fun h=> ?_) (fun h=> ?_)<;>(try simp only [SH] at h)|exact goes_none.mpr (by omega))
    all_goals first|(exfalso; omega)|exact goes_inr.mpr rfl
  | succ k ih=>
    intro i c L hi hL hc
    have hb:=ext_dig d1 i
    have hb2:=ext_dig d2 i
    obtain ⟨D,h1,h2,h3⟩:=ih (i+1) ((S.ext np (fun j=>tp (j+ap)) i+S.ext nq (fun j=>tq (j+aq)) i+c) / 1000000) (S.snoc L ((S.ext np (fun j=>tp (j+ap)) i+S.ext nq (fun j=>tq (j+aq)) i+c) % 1000000)) (by omega) (by rw [snoc_len]; omega) (by omega)
    refine ⟨((S.ext np (fun j=>tp (j+ap)) i+S.ext nq (fun j=>tq (j+aq)) i+c) % 1000000)::D,dig_cons (by omega) h1,by simp only [S.valL,S.valF]; rw [h2]; omega,?_⟩
    rw [snoc_app] at h3
    have tB:=tdB (x:=S.ext np (fun j=>tp (j+ap)) i+S.ext nq (fun j=>tq (j+aq)) i+c) (by omega)
    have mB:=tmB (x:=S.ext np (fun j=>tp (j+ap)) i+S.ext nq (fun j=>tq (j+aq)) i+c) (by omega)
    rw [← tB,← mB] at h3
    rw [← mB]
    have tb:0≤Int.tdiv (S.ext np (fun j=>tp (j+ap)) i+S.ext nq (fun j=>tq (j+aq)) i+c) 1000000∧Int.tdiv (S.ext np (fun j=>tp (j+ap)) i+S.ext nq (fun j=>tq (j+aq)) i+c) 1000000≤1:=by rw [tB]; omega
    have e1:S.ext np (fun j=>tp (j+ap)) i=if i<np then tp (i+ap) else 0:=rfl
    have e2:S.ext nq (fun j=>tq (j+aq)) i=if i<nq then tq (i+aq) else 0:=rfl
    by_cases c1:i<np
    · rw [if_pos c1] at e1
      by_cases c2:i<nq
      · rw [if_pos c2] at e2
        simp only [e1,e2] at h3 tb hb hb2 ⊢
        clear tB mB ih h2
        apply Comes.of
        show Goes _ _ _
        (first|rw [q58]|unfold q58)
        repeat' (first|with_reducible refine goes_if (fun h=> ?_) (fun h=> ?_)<;>(try simp only [SH] at h)|exact goes_none.mpr (by omega))
        all_goals first|(exfalso; omega)|exact h3
      · rw [if_neg c2] at e2
        simp only [e1,e2] at h3 tb hb hb2 ⊢
        clear tB mB ih h2
        apply Comes.of
        show Goes _ _ _
        (first|rw [q58]|unfold q58)
        repeat' (first|with_reducible refine goes_if (fun h=> ?_) (fun h=> ?_)<;>(try simp only [SH] at h)|exact goes_none.mpr (by omega))
        all_goals first|(exfalso; omega)|exact h3
    · rw [if_neg c1] at e1
      by_cases c2:i<nq
      · rw [if_pos c2] at e2
        simp only [e1,e2] at h3 tb hb hb2 ⊢
        clear tB mB ih h2
        apply Comes.of
        show Goes _ _ _
        (first|rw [q58]|unfold q58)
        repeat' (first|with_reducible refine goes_if (fun h=> ?_) (fun h=> ?_)<;>(try simp only [SH] at h)|exact goes_none.mpr (by omega))
        all_goals first|(exfalso; omega)|exact h3
      · exfalso; omega
theorem s58 (ap np mp:Nat) (tp:Nat→Int) (aq nq mq:Nat) (tq:Nat→Int) (hp:(ap+np≤mp∧aq+nq≤mq)∧(np≤1000∧nq≤1000)∧S.okG np (fun j=>tp (j+ap))=true∧S.okG nq (fun j=>tq (j+aq))=true):Goes ((q58 ap np mp tp aq nq mq tq)) ((p58 ap np mp tp aq nq mq tq)) ((S.grpP (S.val np (fun j=>tp (j+ap))+S.val nq (fun j=>tq (j+aq)))).1,(S.grpP (S.val np (fun j=>tp (j+ap))+S.val nq (fun j=>tq (j+aq)))).2):=by
  obtain ⟨D,h1,h2,h3⟩:=s58' ap np mp tp aq nq mq tq hp (max np nq) 0 0 [] (by omega) rfl (by omega)
  rw [ext_val,ext_val,Nat.sub_zero,Nat.sub_zero,Nat.min_eq_right (by omega),Nat.min_eq_right (by omega),Int.zero_add] at h2
  rw [List.nil_append,trim_grp h1,h2] at h3
  exact h3
theorem k58_ok:k58.ok Tryz.prog:=by
  intro x hx
  obtain ⟨⟨ap,np,mp,tp,_⟩,⟨aq,nq,mq,tq,_⟩,_⟩:=x
  obtain ⟨h1,h2⟩:=a58 ap np mp tp aq nq mq tq (s58 ap np mp tp aq nq mq tq (of_dec hx rfl))
  exact ⟨⟨400,(by decide:2+1+1≤400),h1⟩,h2⟩
inductive St56 where
  |h0 (x0:Int) (x1:Int) (x2:List Int)
abbrev Rt56:=List Int
noncomputable def V56 (ap np mp:Nat) (tp:NI) (aq nq mq:Nat) (tq:NI) (r:Rt56):PV:=PV.own (3) (1) (List.length r)
noncomputable def N56 (ap np mp:Nat) (tp:NI) (aq nq mq:Nat) (tq:NI) (r:Rt56):List Blk:= [Blk.cols (List.length r) [Col.int .i64 fun j=>S.at' r j]]
noncomputable def I56 (ap np mp:Nat) (tp:NI) (aq nq mq:Nat) (tq:NI):St56→Hd
  | .h0 x0 x1 x2=>⟨hd Tryz.f116 0,[PV.loose (PA.mk (1) (1) aq (0)) nq,
 PV.own (2) (1) (List.length x2),PV.int .i64 x0,
 PV.loose (PA.mk (0) (1) ap (0)) np,PV.int .i64 (↑np:Int),
 PV.int .i64 x1],[[(2,(true,Blk.cols (List.length x2) [Col.int .i64 fun j=>S.at' x2 j]))],[(0,(false,.cols mp [.int .i64 tp])),(1,(false,.cols mq [.int .i64 tq]))]],3⟩
noncomputable def q56 (ap np mp:Nat) (tp:NI) (aq nq mq:Nat) (tq:NI):St56→Option (St56⊕Rt56)| .h0 x0 x1 x2=>bif (decide (x1<(↑np:Int))) then (bif (decide ((0:Int)≤x1∧x1<(↑np:Int))) then (bif (decide (Int.toNat x1+ap<mp)) then (bif (lim .i64 (tp (Int.toNat x1+ap)-x0)) then (bif (decide (x1<(↑nq:Int))) then (bif (decide ((0:Int)≤x1∧x1<(↑nq:Int))) then (bif (decide (Int.toNat x1+aq<mq)) then (bif (lim .i64 (tp (Int.toNat x1+ap)-x0-tq (Int.toNat x1+aq))) then (bif (decide (tp (Int.toNat x1+ap)-x0-tq (Int.toNat x1+aq)<0)) then (bif (lim .i64 (tp (Int.toNat x1+ap)-x0-tq (Int.toNat x1+aq)+1000000)) then (bif (decide (List.length x2+1≤1000000)) then (bif (decide (List.length x2≤List.length x2)) then (bif (lim .i64 (x1+1)) then (some (.inl (.h0 ((1:Int)) (x1+1) (S.snoc x2 (tp (Int.toNat x1+ap)-x0-tq (Int.toNat x1+aq)+1000000))))) else (none)) else (none)) else (none)) else (none)) else (bif (decide (List.length x2+1≤1000000)) then (bif (decide (List.length x2≤List.length x2)) then (bif (lim .i64 (x1+1)) then (some (.inl (.h0 ((0:Int)) (x1+1) (S.snoc x2 (tp (Int.toNat x1+ap)-x0-tq (Int.toNat x1+aq)))))) else (none)) else (none)) else (none))) else (none)) else (none)) else (none)) else (bif (decide (tp (Int.toNat x1+ap)-x0<0)) then (bif (lim .i64 (tp (Int.toNat x1+ap)-x0+1000000)) then (bif (decide (List.length x2+1≤1000000)) then (bif (decide (List.length x2≤List.length x2)) then (bif (lim .i64 (x1+1)) then (some (.inl (.h0 ((1:Int)) (x1+1) (S.snoc x2 (tp (Int.toNat x1+ap)-x0+1000000))))) else (none)) else (none)) else (none)) else (none)) else (bif (decide (List.length x2+1≤1000000)) then (bif (decide (List.length x2≤List.length x2)) then (bif (lim .i64 (x1+1)) then (some (.inl (.h0 ((0:Int)) (x1+1) (S.snoc x2 (tp (Int.toNat x1+ap)-x0))))) else (none)) else (none)) else (none)))) else (none)) else (none)) else (none)) else (bif (decide (List.length x2≤List.length x2)) then (bif (decide (List.length x2≤1000000)) then (some (.inr (S.trim (S.mkl (List.length x2) fun j=>S.at' x2 j)))) else (none)) else (none))
noncomputable def p56 (ap np mp:Nat) (tp:NI) (aq nq mq:Nat) (tq:NI):Option (St56⊕Rt56):=bif (decide ((0:Int)≤0∧(0:Int)≤(↑np:Int)∧(↑np:Int)≤1000000)) then (some (.inl (.h0 ((0:Int)) ((0:Int)) (S.mkl (0) fun j=>0)))) else (none)
noncomputable def Te56 (test:TT) (Kst:KS) (Kret:KR) (ap np mp:Nat) (tp:NI) (aq nq mq:Nat) (tq:NI):Prop:=test (decide ((0:Int)≤0∧(0:Int)≤(↑np:Int)∧(↑np:Int)≤1000000)) (Kst (hd Tryz.f116 0) ([PV.loose (PA.mk (1) (1) aq (0)) nq,PV.own (2) (1) (0),PV.int .i64 (0:Int),PV.loose (PA.mk (0) (1) ap (0)) np,PV.int .i64 (↑np:Int),PV.int .i64 (0:Int)]) ([[(1,false,Blk.cols mq [Col.int .i64 tq]),(0,false,Blk.cols mp [Col.int .i64 tp]),(2,true,Blk.cols (0) [Col.int .i64 fun (x:Nat)=>0])]]) (3)) (False)
theorem te56 (test:TT) (Kst:KS) (Kret:KR) (ap np mp:Nat) (tp:NI) (aq nq mq:Nat) (tq:NI):run test Tryz.env true (xB0 test) true 400 ⟨116,[.cd (mkFn Tryz.f116).body],argT 0 [.loose ⟨0,1,ap,0⟩ np,.loose ⟨1,1,aq,0⟩ nq],[[],[(0,(false,.cols mp [.int .i64 tp])),(1,(false,.cols mq [.int .i64 tq]))]],2⟩ (proj 2 [1,5,6,12,13,14] Kst Kret)=
  Te56 test Kst Kret ap np mp tp aq nq mq tq:=by kernel_rfl
noncomputable def T56_0 (test:TT) (Kst:KS) (Kret:KR) (ap np mp:Nat) (tp:NI) (aq nq mq:Nat) (tq:NI) (x0 x1:Int) (x2:List Int):Prop:=test (decide (x1<(↑np:Int))) (test (decide ((0:Int)≤x1∧x1<(↑np:Int))) (test (decide (Int.toNat x1+ap<mp)) (test (lim .i64 (tp (Int.toNat x1+ap)-x0)) (test (decide (x1<(↑nq:Int))) (test (decide ((0:Int)≤x1∧x1<(↑nq:Int))) (test (decide (Int.toNat x1+aq<mq)) (test (lim .i64 (tp (Int.toNat x1+ap)-x0-tq (Int.toNat x1+aq))) (test (decide (tp (Int.toNat x1+ap)-x0-tq (Int.toNat x1+aq)<0)) (test (lim .i64 (tp (Int.toNat x1+ap)-x0-tq (Int.toNat x1+aq)+1000000)) (test (decide (List.length x2+1≤1000000)) (test (decide (List.length x2≤List.length x2)) (test (true) (test (lim .i64 (x1+1)) (Kst (hd Tryz.f116 0) ([PV.loose (PA.mk (1) (1) aq (0)) nq,PV.own (4) (1) (List.length x2+1),PV.int .i64 (1:Int),PV.loose (PA.mk (0) (1) ap (0)) np,PV.int .i64 (↑np:Int),PV.int .i64 (x1+1)]) ([[(1,false,Blk.cols mq [Col.int .i64 tq]),(0,false,Blk.cols mp [Col.int .i64 tp]),(4,true,Blk.cols (List.length x2+1) [Col.int .i64 fun j=>bif Nat.blt j (List.length x2) then S.at' x2 j else tp (Int.toNat x1+ap)-x0-tq (Int.toNat x1+aq)+1000000])]]) (5)) (False)) (False)) (False)) (False)) (False)) (test (decide (List.length x2+1≤1000000)) (test (decide (List.length x2≤List.length x2)) (test (true) (test (lim .i64 (x1+1)) (Kst (hd Tryz.f116 0) ([PV.loose (PA.mk (1) (1) aq (0)) nq,PV.own (4) (1) (List.length x2+1),PV.int .i64 (0:Int),PV.loose (PA.mk (0) (1) ap (0)) np,PV.int .i64 (↑np:Int),PV.int .i64 (x1+1)]) ([[(1,false,Blk.cols mq [Col.int .i64 tq]),(0,false,Blk.cols mp [Col.int .i64 tp]),(4,true,Blk.cols (List.length x2+1) [Col.int .i64 fun j=>bif Nat.blt j (List.length x2) then S.at' x2 j else tp (Int.toNat x1+ap)-x0-tq (Int.toNat x1+aq)])]]) (5)) (False)) (False)) (False)) (False))) (False)) (False)) (False)) (test (decide (tp (Int.toNat x1+ap)-x0<0)) (test (lim .i64 (tp (Int.toNat x1+ap)-x0+1000000)) (test (decide (List.length x2+1≤1000000)) (test (decide (List.length x2≤List.length x2)) (test (true) (test (lim .i64 (x1+1)) (Kst (hd Tryz.f116 0) ([PV.loose (PA.mk (1) (1) aq (0)) nq,PV.own (4) (1) (List.length x2+1),PV.int .i64 (1:Int),PV.loose (PA.mk (0) (1) ap (0)) np,PV.int .i64 (↑np:Int),PV.int .i64 (x1+1)]) ([[(1,false,Blk.cols mq [Col.int .i64 tq]),(0,false,Blk.cols mp [Col.int .i64 tp]),(4,true,Blk.cols (List.length x2+1) [Col.int .i64 fun j=>bif Nat.blt j (List.length x2) then S.at' x2 j else tp (Int.toNat x1+ap)-x0+1000000])]]) (5)) (False)) (False)) (False)) (False)) (False)) (test (decide (List.length x2+1≤1000000)) (test (decide (List.length x2≤List.length x2)) (test (true) (test (lim .i64 (x1+1)) (Kst (hd Tryz.f116 0) ([PV.loose (PA.mk (1) (1) aq (0)) nq,PV.own (4) (1) (List.length x2+1),PV.int .i64 (0:Int),PV.loose (PA.mk (0) (1) ap (0)) np,PV.int .i64 (↑np:Int),PV.int .i64 (x1+1)]) ([[(1,false,Blk.cols mq [Col.int .i64 tq]),(0,false,Blk.cols mp [Col.int .i64 tp]),(4,true,Blk.cols (List.length x2+1) [Col.int .i64 fun j=>bif Nat.blt j (List.length x2) then S.at' x2 j else tp (Int.toNat x1+ap)-x0])]]) (5)) (False)) (False)) (False)) (False)))) (False)) (False)) (False)) (test (decide (List.length x2≤List.length x2)) (test (decide (List.length x2≤1000000)) (Kret (PV.own (2) (1) (List.length (S.trim (S.mkl (List.length x2) fun j=>S.at' x2 j)))) ([[(1,false,Blk.cols mq [Col.int .i64 tq]),(0,false,Blk.cols mp [Col.int .i64 tp]),(2,true,Blk.cols (List.length (S.trim (S.mkl (List.length x2) fun j=>S.at' x2 j))) [Col.int .i64 fun j=>S.at' (S.trim (S.mkl (List.length x2) fun j=>S.at' x2 j)) j])]]) (4)) (False)) (False))
theorem t56_0 (test:TT) (Kst:KS) (Kret:KR) (ap np mp:Nat) (tp:NI) (aq nq mq:Nat) (tq:NI) (x0 x1:Int) (x2:List Int):run test Tryz.env true (xB0 test) true 400 ⟨116,hd Tryz.f116 0,zipT [1,5,6,12,13,14] [PV.loose (PA.mk (1) (1) aq (0)) nq,
 PV.own (2) (1) (List.length x2),PV.int .i64 x0,
 PV.loose (PA.mk (0) (1) ap (0)) np,PV.int .i64 (↑np:Int),
 PV.int .i64 x1],[[(2,(true,Blk.cols (List.length x2) [Col.int .i64 fun j=>S.at' x2 j]))],[(0,(false,.cols mp [.int .i64 tp])),(1,(false,.cols mq [.int .i64 tq]))]],3⟩ (proj 2 [1,5,6,12,13,14] Kst Kret)=
  T56_0 test Kst Kret ap np mp tp aq nq mq tq x0 x1 x2:=by kernel_rfl
noncomputable abbrev J56 (ap np mp:Nat) (tp:NI) (aq nq mq:Nat) (tq:NI):Rt56→Heap:=fun r=> [newL (2+1) ((N56 ap np mp tp aq nq mq tq) r)++ [(0,(false,.cols mp [.int .i64 tp])),(1,(false,.cols mq [.int .i64 tq]))]]
attribute [local irreducible] Int.subNatNat in
theorem be56 (ap np mp:Nat) (tp:NI) (aq nq mq:Nat) (tq:NI) (Kst:KS) (Kret:KR) (x:St56⊕Rt56) (hS:HS 2 400 ((I56 ap np mp tp aq nq mq tq)) Kst x) (hR:HR 2 400 ((V56 ap np mp tp aq nq mq tq)) (J56 ap np mp tp aq nq mq tq) Kret x) (h:p56 ap np mp tp aq nq mq tq=some x):Te56 cond Kst Kret ap np mp tp aq nq mq tq:=by
  unfold Te56
  unfold p56 at h
  exact bif_split h (fun c0 h=>stop_at hS _ h (fun n=>bif Nat.beq n 2 then 2 else n) rfl rfl rfl ⟨(rn_loose (use_lo rfl) rfl rfl rfl),⟨(rn_own (use_own rfl) rfl mkl_len),⟨(rn_int rfl),⟨(rn_loose (use_lo rfl) rfl rfl rfl),⟨(rn_int rfl),⟨(rn_int rfl),trivial⟩⟩⟩⟩⟩⟩ rfl (entl_new (use_own rfl) rfl (Nat.le_of_eq mkl_len) (rcs_int (fun _ hj=>col_mkl (fun (t:Int)=>t) hj) rcs_nil) (entl_bor (use_lo rfl) rfl rfl (entl_bor (use_lo rfl) rfl rfl entl_nil)))) (fun c0 h=>no_some h)
attribute [local irreducible] Int.subNatNat in
theorem b56_0 (ap np mp:Nat) (tp:NI) (aq nq mq:Nat) (tq:NI) (Kst:KS) (Kret:KR) (x:St56⊕Rt56) (hS:HS 2 400 ((I56 ap np mp tp aq nq mq tq)) Kst x) (hR:HR 2 400 ((V56 ap np mp tp aq nq mq tq)) (J56 ap np mp tp aq nq mq tq) Kret x) (x0 x1:Int) (x2:List Int) (h:q56 ap np mp tp aq nq mq tq (.h0 x0 x1 x2)=some x):T56_0 cond Kst Kret ap np mp tp aq nq mq tq x0 x1 x2:=by
  unfold T56_0
  rw [q56] at h
  refine bif_split h (fun c0 h=>bif_split h (fun c1 h=>bif_split h (fun c2 h=>bif_split h (fun c3 h=>bif_split h (fun c4 h=>bif_split h (fun c5 h=>bif_split h (fun c6 h=>bif_split h (fun c7 h=>bif_split h (fun c8 h=>bif_split h (fun c9 h=>bif_split h (fun c10 h=>bif_split h (fun c11 h=>cond_yes rfl (bif_split h (fun c12 h=> ?_) (fun c12 h=> ?_))) (fun c11 h=> ?_)) (fun c10 h=> ?_)) (fun c9 h=> ?_)) (fun c8 h=>bif_split h (fun c9 h=>bif_split h (fun c10 h=>cond_yes rfl (bif_split h (fun c11 h=> ?_) (fun c11 h=> ?_))) (fun c10 h=> ?_)) (fun c9 h=> ?_))) (fun c7 h=> ?_)) (fun c6 h=> ?_)) (fun c5 h=> ?_)) (fun c4 h=>bif_split h (fun c5 h=>bif_split h (fun c6 h=>bif_split h (fun c7 h=>bif_split h (fun c8 h=>cond_yes rfl (bif_split h (fun c9 h=> ?_) (fun c9 h=> ?_))) (fun c8 h=> ?_)) (fun c7 h=> ?_)) (fun c6 h=> ?_)) (fun c5 h=>bif_split h (fun c6 h=>bif_split h (fun c7 h=>cond_yes rfl (bif_split h (fun c8 h=> ?_) (fun c8 h=> ?_))) (fun c7 h=> ?_)) (fun c6 h=> ?_)))) (fun c3 h=> ?_)) (fun c2 h=> ?_)) (fun c1 h=> ?_)) (fun c0 h=>bif_split h (fun c1 h=>bif_split h (fun c2 h=>ret_at hR _ h (fun n=>bif Nat.beq n 3 then 2 else n) rfl rfl rfl (rn_own (use_own rfl) rfl rfl) rfl (entl_new (use_own rfl) rfl (Nat.le_of_eq rfl) (rcs_int (fun _ _=>rfl) rcs_nil) (entl_bor (use_lo rfl) rfl rfl (entl_bor (use_lo rfl) rfl rfl entl_nil)))) (fun c2 h=> ?_)) (fun c1 h=> ?_))
  all_goals first
    |exact no_some h
    |exact stop_at hS _ h (fun n=>bif Nat.beq n 2 then 4 else n) rfl rfl rfl ⟨(rn_loose (use_lo rfl) rfl rfl rfl),⟨(rn_own (use_own rfl) rfl (snoc_len' rfl)),⟨(rn_int rfl),⟨(rn_loose (use_lo rfl) rfl rfl rfl),⟨(rn_int rfl),⟨(rn_int rfl),trivial⟩⟩⟩⟩⟩⟩ rfl (entl_new (use_own rfl) rfl (Nat.le_of_eq (snoc_len' rfl)) (rcs_int (col_snoc' (fun (t:Int)=>t) rfl (fun _ _=>rfl)) rcs_nil) (entl_bor (use_lo rfl) rfl rfl (entl_bor (use_lo rfl) rfl rfl entl_nil)))
theorem a56 (ap np mp:Nat) (tp:NI) (aq nq mq:Nat) (tq:NI) {r:Rt56} (h:Goes ((q56 ap np mp tp aq nq mq tq)) ((p56 ap np mp tp aq nq mq tq)) r):CallR Tryz.prog 116 [.loose ⟨0,1,ap,0⟩ np,.loose ⟨1,1,aq,0⟩ nq] [[(0,(false,.cols mp [.int .i64 tp])),(1,(false,.cols mq [.int .i64 tq]))]] 2 ((V56 ap np mp tp aq nq mq tq) r) ((J56 ap np mp tp aq nq mq tq) r) 400∧ ∃ F,Tryz.prog.funcs[116]? =some F∧F.body.isSome=true∧(F.name== "runtime.NumGoroutine")=false:=by
  refine dec_calls (f:=116) (lo:=2) (hi:=400) Tryz.envOk Tryz.mixed xB0_ok ((I56 ap np mp tp aq nq mq tq)) ((V56 ap np mp tp aq nq mq tq)) (J56 ap np mp tp aq nq mq tq) (fn:=mkFn Tryz.f116) (ts:= [1,5,6,12,13,14]) (n:=400) rfl (by decide) (by simp) (names_of rfl) ?_ ?_ ?_ h
  · intro s; cases s<;>exact ⟨hd_ok _ _,by simp [I56],names_of rfl,Nat.le_of_ble_eq_true rfl⟩
  · intro Kst Kret x hS hR h
    exact Holds.eq (te56 cond Kst Kret ap np mp tp aq nq mq tq) (be56 ap np mp tp aq nq mq tq Kst Kret x hS hR h)
  · intro Kst Kret x hS hR s h
    cases s with
    |h0 x0 x1 x2=>exact Holds.eq (t56_0 cond Kst Kret ap np mp tp aq nq mq tq x0 x1 x2) (b56_0 ap np mp tp aq nq mq tq Kst Kret x hS hR x0 x1 x2 h)
noncomputable abbrev w56 {α:Type} (g:Nat→Nat→Nat→(Nat→Int)→Nat→Nat→Nat→(Nat→Int)→α) (x:(Nat×Nat×Nat×(Nat→Int)×Unit)×(Nat×Nat×Nat×(Nat→Int)×Unit)×Unit):α:=g x.1.1 x.1.2.1 x.1.2.2.1 x.1.2.2.2.1 x.2.1.1 x.2.1.2.1 x.2.1.2.2.1 x.2.1.2.2.2.1
noncomputable def k56:Con:=⟨116,[.one (.list [.int .i64]),.one (.list [.int .i64])],w56 (fun ap np mp tp aq nq mq tq=>decide ((ap+np≤mp∧aq+nq≤mq)∧(np≤1000∧nq≤1000)∧S.okG np (fun j=>tp (j+ap))=true∧S.okG nq (fun j=>tq (j+aq))=true∧S.val nq (fun j=>tq (j+aq))≤S.val np (fun j=>tp (j+ap)))),w56 (fun ap np mp tp aq nq mq tq=>(V56 ap np mp tp aq nq mq tq) (S.grp (S.val np (fun j=>tp (j+ap))-S.val nq (fun j=>tq (j+aq))))),w56 (fun ap np mp tp aq nq mq tq=>(N56 ap np mp tp aq nq mq tq) (S.grp (S.val np (fun j=>tp (j+ap))-S.val nq (fun j=>tq (j+aq))))),fun _ _=> .dead⟩
theorem s56' (ap np mp:Nat) (tp:Nat→Int) (aq nq mq:Nat) (tq:Nat→Int) (hp:(ap+np≤mp∧aq+nq≤mq)∧(np≤1000∧nq≤1000)∧S.okG np (fun j=>tp (j+ap))=true∧S.okG nq (fun j=>tq (j+aq))=true): ∀ (k i:Nat) (c:Int) (L:List Int),i+k=np→L.length=i→(0≤c∧c≤1)→c+S.valF (fun j=>tq (j+aq)) i (nq-i)≤S.valF (fun j=>tp (j+ap)) i k→ ∃ D:List Int,(∀ y ∈ D,0≤y∧y<1000000)∧S.valL D=S.valF (fun j=>tp (j+ap)) i k-S.valF (fun j=>tq (j+aq)) i (nq-i)-c∧Comes (q56 ap np mp tp aq nq mq tq) (.h0 c (i:Int) L) (S.trim (L++D)):=by
  obtain ⟨⟨hp1,hp2⟩,⟨hp3,hp4⟩,g1,g2⟩:=hp
  have d1:=(okG_iff.mp g1).1
  have d2:=(okG_iff.mp g2).1
  intro k
  induction k with
  |zero=>
    intro i c L hi hL hc hv
    have hn2:=suf_nn d2 (i:=i)
    simp only [S.valF] at hv ⊢
    refine ⟨[],fun y hy=>(by cases hy),by simp only [S.valL]; omega,?_⟩
    rw [List.append_nil,← trim_at]
    apply Comes.of
    show Goes _ _ _
    (first|rw [q56]|unfold q56)
    repeat' (first|with_reducible refine goes_if (fun h=> ?_) (fun h=> ?_)<;>(try simp only [SH] at h)|exact goes_none.mpr (by omega))
    all_goals first|(exfalso; omega)|exact goes_inr.mpr rfl
  | succ k ih=>
    intro i c L hi hL hc hv
    have hb:=d1 i (by omega)
    simp only [S.valF] at hv ⊢
    (try dsimp only at hb)
    by_cases c2:i<nq
    · have hb2:=d2 i c2
      (try dsimp only at hb2)
      rw [suf_step c2] at hv ⊢
      (try dsimp only at hv)
      by_cases h0:tp (i+ap)-c-tq (i+aq)<0
      · obtain ⟨D,h1,h2,h3⟩:=ih (i+1) 1 (S.snoc L (tp (i+ap)-c-tq (i+aq)+1000000)) (by omega) (by rw [snoc_len]; omega) (by omega) (by omega)
        refine ⟨(tp (i+ap)-c-tq (i+aq)+1000000)::D,dig_cons (by omega) h1,by simp only [S.valL]; rw [h2]; (try dsimp only); omega,?_⟩
        rw [snoc_app] at h3
        generalize S.valF _ _ _=v1 at*
        generalize S.valF _ _ _=v2 at*
        have ex:tp (i+ap)-tq (i+aq)-c=tp (i+ap)-c-tq (i+aq):=by omega
        clear ih h2
        apply Comes.of
        show Goes _ _ _
        (first|rw [q56]|unfold q56)
        repeat' (first|with_reducible refine goes_if (fun h=> ?_) (fun h=> ?_)<;>(try simp only [SH] at h)|exact goes_none.mpr (by omega))
        all_goals first|(exfalso; omega)|exact h3|(rw [Int.toNat_natCast,ex]; exact h3)
      · obtain ⟨D,h1,h2,h3⟩:=ih (i+1) 0 (S.snoc L (tp (i+ap)-c-tq (i+aq))) (by omega) (by rw [snoc_len]; omega) (by omega) (by omega)
        refine ⟨(tp (i+ap)-c-tq (i+aq))::D,dig_cons (by omega) h1,by simp only [S.valL]; rw [h2]; (try dsimp only); omega,?_⟩
        rw [snoc_app] at h3
        generalize S.valF _ _ _=v1 at*
        generalize S.valF _ _ _=v2 at*
        have ex:tp (i+ap)-tq (i+aq)-c=tp (i+ap)-c-tq (i+aq):=by omega
        clear ih h2
        apply Comes.of
        show Goes _ _ _
        (first|rw [q56]|unfold q56)
        repeat' (first|with_reducible refine goes_if (fun h=> ?_) (fun h=> ?_)<;>(try simp only [SH] at h)|exact goes_none.mpr (by omega))
        all_goals first|(exfalso; omega)|exact h3|(rw [Int.toNat_natCast,ex]; exact h3)
    · rw [show nq-i=0 by omega] at hv ⊢
      simp only [S.valF] at hv ⊢
      (try dsimp only at hv)
      have e0:nq-(i+1)=0:=by omega
      by_cases h0:tp (i+ap)-c<0
      · obtain ⟨D,h1,h2,h3⟩:=ih (i+1) 1 (S.snoc L (tp (i+ap)-c+1000000)) (by omega) (by rw [snoc_len]; omega) (by omega) (by rw [e0]; simp only [S.valF]; omega)
        rw [e0] at h2
        simp only [S.valF] at h2
        refine ⟨(tp (i+ap)-c+1000000)::D,dig_cons (by omega) h1,by simp only [S.valL]; rw [h2]; (try dsimp only); omega,?_⟩
        rw [snoc_app] at h3
        generalize S.valF _ _ _=v1 at*
        have ex:tp (i+ap)-0-c=tp (i+ap)-c:=by omega
        clear ih h2
        apply Comes.of
        show Goes _ _ _
        (first|rw [q56]|unfold q56)
        repeat' (first|with_reducible refine goes_if (fun h=> ?_) (fun h=> ?_)<;>(try simp only [SH] at h)|exact goes_none.mpr (by omega))
        all_goals first|(exfalso; omega)|exact h3|(rw [Int.toNat_natCast,ex]; exact h3)
      · obtain ⟨D,h1,h2,h3⟩:=ih (i+1) 0 (S.snoc L (tp (i+ap)-c)) (by omega) (by rw [snoc_len]; omega) (by omega) (by rw [e0]; simp only [S.valF]; omega)
        rw [e0] at h2
        simp only [S.valF] at h2
        refine ⟨(tp (i+ap)-c)::D,dig_cons (by omega) h1,by simp only [S.valL]; rw [h2]; (try dsimp only); omega,?_⟩
        rw [snoc_app] at h3
        generalize S.valF _ _ _=v1 at*
        have ex:tp (i+ap)-0-c=tp (i+ap)-c:=by omega
        clear ih h2
        apply Comes.of
        show Goes _ _ _
        (first|rw [q56]|unfold q56)
        repeat' (first|with_reducible refine goes_if (fun h=> ?_) (fun h=> ?_)<;>(try simp only [SH] at h)|exact goes_none.mpr (by omega))
        all_goals first|(exfalso; omega)|exact h3|(rw [Int.toNat_natCast,ex]; exact h3)
theorem s56 (ap np mp:Nat) (tp:Nat→Int) (aq nq mq:Nat) (tq:Nat→Int) (hp:(ap+np≤mp∧aq+nq≤mq)∧(np≤1000∧nq≤1000)∧S.okG np (fun j=>tp (j+ap))=true∧S.okG nq (fun j=>tq (j+aq))=true∧S.val nq (fun j=>tq (j+aq))≤S.val np (fun j=>tp (j+ap))):Goes ((q56 ap np mp tp aq nq mq tq)) ((p56 ap np mp tp aq nq mq tq)) (S.grp (S.val np (fun j=>tp (j+ap))-S.val nq (fun j=>tq (j+aq)))):=by
  obtain ⟨⟨hp1,hp2⟩,⟨hp3,hp4⟩,g1,g2,hv⟩:=hp
  obtain ⟨D,h1,h2,h3⟩:=s56' ap np mp tp aq nq mq tq ⟨⟨hp1,hp2⟩,⟨hp3,hp4⟩,g1,g2⟩ np 0 0 [] (by omega) rfl (by omega) (by rw [Int.zero_add]; exact hv)
  rw [List.nil_append,trim_grp h1,h2,Int.sub_zero,Nat.sub_zero] at h3
  show Goes _ _ _
  unfold p56
  repeat' (first|with_reducible refine goes_if (fun h=> ?_) (fun h=> ?_)<;>(try simp only [SH] at h)|exact goes_none.mpr (by omega))
  all_goals first|(exfalso; omega)|exact h3
theorem k56_ok:k56.ok Tryz.prog:=by
  intro x hx
  obtain ⟨⟨ap,np,mp,tp,_⟩,⟨aq,nq,mq,tq,_⟩,_⟩:=x
  obtain ⟨h1,h2⟩:=a56 ap np mp tp aq nq mq tq (s56 ap np mp tp aq nq mq tq (of_dec hx rfl))
  exact ⟨⟨400,(by decide:2+1+1≤400),h1⟩,h2⟩
inductive St59 where
  |h0 (x0:Int) (x1:Int) (x2:List Int)
abbrev Rt59:=List Int
noncomputable def V59 (ap np mp:Nat) (tp:NI) (aq nq mq:Nat) (tq:NI) (r:Rt59):PV:=PV.own (3) (1) (List.length r)
noncomputable def N59 (ap np mp:Nat) (tp:NI) (aq nq mq:Nat) (tq:NI) (r:Rt59):List Blk:= [Blk.cols (List.length r) [Col.int .i64 fun j=>S.at' r j]]
noncomputable def I59 (ap np mp:Nat) (tp:NI) (aq nq mq:Nat) (tq:NI):St59→Hd
  | .h0 x0 x1 x2=>⟨hd Tryz.f118 0,[PV.loose (PA.mk (0) (1) ap (0)) np,
 PV.loose (PA.mk (1) (1) aq (0)) nq,
 PV.own (2) (1) (List.length x2),PV.int .i64 x0,PV.int .i64 x1],[[(2,(true,Blk.cols (List.length x2) [Col.int .i64 fun j=>S.at' x2 j]))],[(0,(false,.cols mp [.int .i64 tp])),(1,(false,.cols mq [.int .i64 tq]))]],3⟩
noncomputable def q59 (ap np mp:Nat) (tp:NI) (aq nq mq:Nat) (tq:NI):St59→Option (St59⊕Rt59)| .h0 x0 x1 x2=>bif (decide (x1<(↑np:Int))) then (bif (decide ((0:Int)≤x1∧x1<(↑np:Int))) then (bif (decide (Int.toNat x1+ap<mp)) then (bif (decide (x1<(↑nq:Int))) then (bif (decide ((0:Int)≤x1∧x1<(↑nq:Int))) then (bif (decide (Int.toNat x1+aq<mq)) then (bif (lim .i64 (tp (Int.toNat x1+ap)-tq (Int.toNat x1+aq))) then (bif (lim .i64 (tp (Int.toNat x1+ap)-tq (Int.toNat x1+aq)-x0)) then (bif (decide (tp (Int.toNat x1+ap)-tq (Int.toNat x1+aq)-x0<0)) then (bif (lim .i64 (tp (Int.toNat x1+ap)-tq (Int.toNat x1+aq)-x0+1000000)) then (bif (decide (List.length x2+1≤1000000)) then (bif (decide (List.length x2≤List.length x2)) then (bif (lim .i64 (x1+1)) then (some (.inl (.h0 ((1:Int)) (x1+1) (S.snoc x2 (tp (Int.toNat x1+ap)-tq (Int.toNat x1+aq)-x0+1000000))))) else (none)) else (none)) else (none)) else (none)) else (bif (decide (List.length x2+1≤1000000)) then (bif (decide (List.length x2≤List.length x2)) then (bif (lim .i64 (x1+1)) then (some (.inl (.h0 ((0:Int)) (x1+1) (S.snoc x2 (tp (Int.toNat x1+ap)-tq (Int.toNat x1+aq)-x0))))) else (none)) else (none)) else (none))) else (none)) else (none)) else (none)) else (none)) else (bif (lim .i64 (tp (Int.toNat x1+ap)-0)) then (bif (lim .i64 (tp (Int.toNat x1+ap)-0-x0)) then (bif (decide (tp (Int.toNat x1+ap)-0-x0<0)) then (bif (lim .i64 (tp (Int.toNat x1+ap)-0-x0+1000000)) then (bif (decide (List.length x2+1≤1000000)) then (bif (decide (List.length x2≤List.length x2)) then (bif (lim .i64 (x1+1)) then (some (.inl (.h0 ((1:Int)) (x1+1) (S.snoc x2 (tp (Int.toNat x1+ap)-0-x0+1000000))))) else (none)) else (none)) else (none)) else (none)) else (bif (decide (List.length x2+1≤1000000)) then (bif (decide (List.length x2≤List.length x2)) then (bif (lim .i64 (x1+1)) then (some (.inl (.h0 ((0:Int)) (x1+1) (S.snoc x2 (tp (Int.toNat x1+ap)-0-x0))))) else (none)) else (none)) else (none))) else (none)) else (none))) else (none)) else (none)) else (bif (decide (List.length x2≤List.length x2)) then (bif (decide (List.length x2≤1000000)) then (some (.inr (S.trim (S.mkl (List.length x2) fun j=>S.at' x2 j)))) else (none)) else (none))
noncomputable def p59 (ap np mp:Nat) (tp:NI) (aq nq mq:Nat) (tq:NI):Option (St59⊕Rt59):=some (.inl (.h0 ((0:Int)) ((0:Int)) ([])))
noncomputable def Te59 (test:TT) (Kst:KS) (Kret:KR) (ap np mp:Nat) (tp:NI) (aq nq mq:Nat) (tq:NI):Prop:=Kst (hd Tryz.f118 0) ([PV.loose (PA.mk (0) (1) ap (0)) np,PV.loose (PA.mk (1) (1) aq (0)) nq,PV.nils,PV.int .i64 (0:Int),PV.int .i64 (0:Int)]) ([[(1,false,Blk.cols mq [Col.int .i64 tq]),(0,false,Blk.cols mp [Col.int .i64 tp])]]) (2)
theorem te59 (test:TT) (Kst:KS) (Kret:KR) (ap np mp:Nat) (tp:NI) (aq nq mq:Nat) (tq:NI):run test Tryz.env true (xB0 test) true 400 ⟨118,[.cd (mkFn Tryz.f118).body],argT 0 [.loose ⟨0,1,ap,0⟩ np,.loose ⟨1,1,aq,0⟩ nq],[[],[(0,(false,.cols mp [.int .i64 tp])),(1,(false,.cols mq [.int .i64 tq]))]],2⟩ (proj 2 [0,1,5,6,7] Kst Kret)=
  Te59 test Kst Kret ap np mp tp aq nq mq tq:=by kernel_rfl
noncomputable def T59_0 (test:TT) (Kst:KS) (Kret:KR) (ap np mp:Nat) (tp:NI) (aq nq mq:Nat) (tq:NI) (x0 x1:Int) (x2:List Int):Prop:=test (decide (x1<(↑np:Int))) (test (decide ((0:Int)≤x1∧x1<(↑np:Int))) (test (decide (Int.toNat x1+ap<mp)) (test (decide (x1<(↑nq:Int))) (test (decide ((0:Int)≤x1∧x1<(↑nq:Int))) (test (decide (Int.toNat x1+aq<mq)) (test (lim .i64 (tp (Int.toNat x1+ap)-tq (Int.toNat x1+aq))) (test (lim .i64 (tp (Int.toNat x1+ap)-tq (Int.toNat x1+aq)-x0)) (test (decide (tp (Int.toNat x1+ap)-tq (Int.toNat x1+aq)-x0<0)) (test (lim .i64 (tp (Int.toNat x1+ap)-tq (Int.toNat x1+aq)-x0+1000000)) (test (decide (List.length x2+1≤1000000)) (test (decide (List.length x2≤List.length x2)) (test (true) (test (lim .i64 (x1+1)) (Kst (hd Tryz.f118 0) ([PV.loose (PA.mk (0) (1) ap (0)) np,PV.loose (PA.mk (1) (1) aq (0)) nq,PV.own (4) (1) (List.length x2+1),PV.int .i64 (1:Int),PV.int .i64 (x1+1)]) ([[(1,false,Blk.cols mq [Col.int .i64 tq]),(0,false,Blk.cols mp [Col.int .i64 tp]),(4,true,Blk.cols (List.length x2+1) [Col.int .i64 fun j=>bif Nat.blt j (List.length x2) then S.at' x2 j else tp (Int.toNat x1+ap)-tq (Int.toNat x1+aq)-x0+1000000])]]) (5)) (False)) (False)) (False)) (False)) (False)) (test (decide (List.length x2+1≤1000000)) (test (decide (List.length x2≤List.length x2)) (test (true) (test (lim .i64 (x1+1)) (Kst (hd Tryz.f118 0) ([PV.loose (PA.mk (0) (1) ap (0)) np,PV.loose (PA.mk (1) (1) aq (0)) nq,PV.own (4) (1) (List.length x2+1),PV.int .i64 (0:Int),PV.int .i64 (x1+1)]) ([[(1,false,Blk.cols mq [Col.int .i64 tq]),(0,false,Blk.cols mp [Col.int .i64 tp]),(4,true,Blk.cols (List.length x2+1) [Col.int .i64 fun j=>bif Nat.blt j (List.length x2) then S.at' x2 j else tp (Int.toNat x1+ap)-tq (Int.toNat x1+aq)-x0])]]) (5)) (False)) (False)) (False)) (False))) (False)) (False)) (False)) (False)) (test (lim .i64 (tp (Int.toNat x1+ap)-0)) (test (lim .i64 (tp (Int.toNat x1+ap)-0-x0)) (test (decide (tp (Int.toNat x1+ap)-0-x0<0)) (test (lim .i64 (tp (Int.toNat x1+ap)-0-x0+1000000)) (test (decide (List.length x2+1≤1000000)) (test (decide (List.length x2≤List.length x2)) (test (true) (test (lim .i64 (x1+1)) (Kst (hd Tryz.f118 0) ([PV.loose (PA.mk (0) (1) ap (0)) np,PV.loose (PA.mk (1) (1) aq (0)) nq,PV.own (4) (1) (List.length x2+1),PV.int .i64 (1:Int),PV.int .i64 (x1+1)]) ([[(1,false,Blk.cols mq [Col.int .i64 tq]),(0,false,Blk.cols mp [Col.int .i64 tp]),(4,true,Blk.cols (List.length x2+1) [Col.int .i64 fun j=>bif Nat.blt j (List.length x2) then S.at' x2 j else tp (Int.toNat x1+ap)-0-x0+1000000])]]) (5)) (False)) (False)) (False)) (False)) (False)) (test (decide (List.length x2+1≤1000000)) (test (decide (List.length x2≤List.length x2)) (test (true) (test (lim .i64 (x1+1)) (Kst (hd Tryz.f118 0) ([PV.loose (PA.mk (0) (1) ap (0)) np,PV.loose (PA.mk (1) (1) aq (0)) nq,PV.own (4) (1) (List.length x2+1),PV.int .i64 (0:Int),PV.int .i64 (x1+1)]) ([[(1,false,Blk.cols mq [Col.int .i64 tq]),(0,false,Blk.cols mp [Col.int .i64 tp]),(4,true,Blk.cols (List.length x2+1) [Col.int .i64 fun j=>bif Nat.blt j (List.length x2) then S.at' x2 j else tp (Int.toNat x1+ap)-0-x0])]]) (5)) (False)) (False)) (False)) (False))) (False)) (False))) (False)) (False)) (test (decide (List.length x2≤List.length x2)) (test (decide (List.length x2≤1000000)) (Kret (PV.own (2) (1) (List.length (S.trim (S.mkl (List.length x2) fun j=>S.at' x2 j)))) ([[(1,false,Blk.cols mq [Col.int .i64 tq]),(0,false,Blk.cols mp [Col.int .i64 tp]),(2,true,Blk.cols (List.length (S.trim (S.mkl (List.length x2) fun j=>S.at' x2 j))) [Col.int .i64 fun j=>S.at' (S.trim (S.mkl (List.length x2) fun j=>S.at' x2 j)) j])]]) (4)) (False)) (False))
theorem t59_0 (test:TT) (Kst:KS) (Kret:KR) (ap np mp:Nat) (tp:NI) (aq nq mq:Nat) (tq:NI) (x0 x1:Int) (x2:List Int):run test Tryz.env true (xB0 test) true 400 ⟨118,hd Tryz.f118 0,zipT [0,1,5,6,7] [PV.loose (PA.mk (0) (1) ap (0)) np,
 PV.loose (PA.mk (1) (1) aq (0)) nq,
 PV.own (2) (1) (List.length x2),PV.int .i64 x0,PV.int .i64 x1],[[(2,(true,Blk.cols (List.length x2) [Col.int .i64 fun j=>S.at' x2 j]))],[(0,(false,.cols mp [.int .i64 tp])),(1,(false,.cols mq [.int .i64 tq]))]],3⟩ (proj 2 [0,1,5,6,7] Kst Kret)=
  T59_0 test Kst Kret ap np mp tp aq nq mq tq x0 x1 x2:=by kernel_rfl
noncomputable abbrev J59 (ap np mp:Nat) (tp:NI) (aq nq mq:Nat) (tq:NI):Rt59→Heap:=fun r=> [newL (2+1) ((N59 ap np mp tp aq nq mq tq) r)++ [(0,(false,.cols mp [.int .i64 tp])),(1,(false,.cols mq [.int .i64 tq]))]]
attribute [local irreducible] Int.subNatNat in
theorem be59 (ap np mp:Nat) (tp:NI) (aq nq mq:Nat) (tq:NI) (Kst:KS) (Kret:KR) (x:St59⊕Rt59) (hS:HS 2 400 ((I59 ap np mp tp aq nq mq tq)) Kst x) (hR:HR 2 400 ((V59 ap np mp tp aq nq mq tq)) (J59 ap np mp tp aq nq mq tq) Kret x) (h:(some (.inl (.h0 ((0:Int)) ((0:Int)) ([]))):Option (St59⊕Rt59))=some x):Te59 cond Kst Kret ap np mp tp aq nq mq tq:=by
  unfold Te59
  exact stop_at hS _ h (fun n=>bif Nat.beq n 2 then 399 else n) rfl rfl rfl ⟨(rn_loose (use_lo rfl) rfl rfl rfl),⟨(rn_loose (use_lo rfl) rfl rfl rfl),⟨(rn_own_nils rfl),⟨(rn_int rfl),⟨(rn_int rfl),trivial⟩⟩⟩⟩⟩ rfl (entl_fresh (use_own rfl) (fresh_ok rfl) (entl_bor (use_lo rfl) rfl rfl (entl_bor (use_lo rfl) rfl rfl entl_nil)))
attribute [local irreducible] Int.subNatNat in
theorem b59_0 (ap np mp:Nat) (tp:NI) (aq nq mq:Nat) (tq:NI) (Kst:KS) (Kret:KR) (x:St59⊕Rt59) (hS:HS 2 400 ((I59 ap np mp tp aq nq mq tq)) Kst x) (hR:HR 2 400 ((V59 ap np mp tp aq nq mq tq)) (J59 ap np mp tp aq nq mq tq) Kret x) (x0 x1:Int) (x2:List Int) (h:q59 ap np mp tp aq nq mq tq (.h0 x0 x1 x2)=some x):T59_0 cond Kst Kret ap np mp tp aq nq mq tq x0 x1 x2:=by
  unfold T59_0
  rw [q59] at h
  refine bif_split h (fun c0 h=>bif_split h (fun c1 h=>bif_split h (fun c2 h=>bif_split h (fun c3 h=>bif_split h (fun c4 h=>bif_split h (fun c5 h=>bif_split h (fun c6 h=>bif_split h (fun c7 h=>bif_split h (fun c8 h=>bif_split h (fun c9 h=>bif_split h (fun c10 h=>bif_split h (fun c11 h=>cond_yes rfl (bif_split h (fun c12 h=> ?_) (fun c12 h=> ?_))) (fun c11 h=> ?_)) (fun c10 h=> ?_)) (fun c9 h=> ?_)) (fun c8 h=>bif_split h (fun c9 h=>bif_split h (fun c10 h=>cond_yes rfl (bif_split h (fun c11 h=> ?_) (fun c11 h=> ?_))) (fun c10 h=> ?_)) (fun c9 h=> ?_))) (fun c7 h=> ?_)) (fun c6 h=> ?_)) (fun c5 h=> ?_)) (fun c4 h=> ?_)) (fun c3 h=>bif_split h (fun c4 h=>bif_split h (fun c5 h=>bif_split h (fun c6 h=>bif_split h (fun c7 h=>bif_split h (fun c8 h=>bif_split h (fun c9 h=>cond_yes rfl (bif_split h (fun c10 h=> ?_) (fun c10 h=> ?_))) (fun c9 h=> ?_)) (fun c8 h=> ?_)) (fun c7 h=> ?_)) (fun c6 h=>bif_split h (fun c7 h=>bif_split h (fun c8 h=>cond_yes rfl (bif_split h (fun c9 h=> ?_) (fun c9 h=> ?_))) (fun c8 h=> ?_)) (fun c7 h=> ?_))) (fun c5 h=> ?_)) (fun c4 h=> ?_))) (fun c2 h=> ?_)) (fun c1 h=> ?_)) (fun c0 h=>bif_split h (fun c1 h=>bif_split h (fun c2 h=>ret_at hR _ h (fun n=>bif Nat.beq n 3 then 2 else n) rfl rfl rfl (rn_own (use_own rfl) rfl rfl) rfl (entl_new (use_own rfl) rfl (Nat.le_of_eq rfl) (rcs_int (fun _ _=>rfl) rcs_nil) (entl_bor (use_lo rfl) rfl rfl (entl_bor (use_lo rfl) rfl rfl entl_nil)))) (fun c2 h=> ?_)) (fun c1 h=> ?_))
  all_goals first
    |exact no_some h
    |exact stop_at hS _ h (fun n=>bif Nat.beq n 2 then 4 else n) rfl rfl rfl ⟨(rn_loose (use_lo rfl) rfl rfl rfl),⟨(rn_loose (use_lo rfl) rfl rfl rfl),⟨(rn_own (use_own rfl) rfl (snoc_len' rfl)),⟨(rn_int rfl),⟨(rn_int rfl),trivial⟩⟩⟩⟩⟩ rfl (entl_new (use_own rfl) rfl (Nat.le_of_eq (snoc_len' rfl)) (rcs_int (col_snoc' (fun (t:Int)=>t) rfl (fun _ _=>rfl)) rcs_nil) (entl_bor (use_lo rfl) rfl rfl (entl_bor (use_lo rfl) rfl rfl entl_nil)))
theorem a59 (ap np mp:Nat) (tp:NI) (aq nq mq:Nat) (tq:NI) {r:Rt59} (h:Goes ((q59 ap np mp tp aq nq mq tq)) ((p59 ap np mp tp aq nq mq tq)) r):CallR Tryz.prog 118 [.loose ⟨0,1,ap,0⟩ np,.loose ⟨1,1,aq,0⟩ nq] [[(0,(false,.cols mp [.int .i64 tp])),(1,(false,.cols mq [.int .i64 tq]))]] 2 ((V59 ap np mp tp aq nq mq tq) r) ((J59 ap np mp tp aq nq mq tq) r) 400∧ ∃ F,Tryz.prog.funcs[118]? =some F∧F.body.isSome=true∧(F.name== "runtime.NumGoroutine")=false:=by
  refine dec_calls (f:=118) (lo:=2) (hi:=400) Tryz.envOk Tryz.mixed xB0_ok ((I59 ap np mp tp aq nq mq tq)) ((V59 ap np mp tp aq nq mq tq)) (J59 ap np mp tp aq nq mq tq) (fn:=mkFn Tryz.f118) (ts:= [0,1,5,6,7]) (n:=400) rfl (by decide) (by simp) (names_of rfl) ?_ ?_ ?_ h
  · intro s; cases s<;>exact ⟨hd_ok _ _,by simp [I59],names_of rfl,Nat.le_of_ble_eq_true rfl⟩
  · intro Kst Kret x hS hR h
    exact Holds.eq (te59 cond Kst Kret ap np mp tp aq nq mq tq) (be59 ap np mp tp aq nq mq tq Kst Kret x hS hR h)
  · intro Kst Kret x hS hR s h
    cases s with
    |h0 x0 x1 x2=>exact Holds.eq (t59_0 cond Kst Kret ap np mp tp aq nq mq tq x0 x1 x2) (b59_0 ap np mp tp aq nq mq tq Kst Kret x hS hR x0 x1 x2 h)
noncomputable abbrev w59 {α:Type} (g:Nat→Nat→Nat→(Nat→Int)→Nat→Nat→Nat→(Nat→Int)→α) (x:(Nat×Nat×Nat×(Nat→Int)×Unit)×(Nat×Nat×Nat×(Nat→Int)×Unit)×Unit):α:=g x.1.1 x.1.2.1 x.1.2.2.1 x.1.2.2.2.1 x.2.1.1 x.2.1.2.1 x.2.1.2.2.1 x.2.1.2.2.2.1
noncomputable def k59:Con:=⟨118,[.one (.list [.int .i64]),.one (.list [.int .i64])],w59 (fun ap np mp tp aq nq mq tq=>decide ((ap+np≤mp∧aq+nq≤mq)∧(np≤1000∧nq≤1000)∧S.okG np (fun j=>tp (j+ap))=true∧S.okG nq (fun j=>tq (j+aq))=true∧S.val nq (fun j=>tq (j+aq))≤S.val np (fun j=>tp (j+ap)))),w59 (fun ap np mp tp aq nq mq tq=>(V59 ap np mp tp aq nq mq tq) (S.grp (S.val np (fun j=>tp (j+ap))-S.val nq (fun j=>tq (j+aq))))),w59 (fun ap np mp tp aq nq mq tq=>(N59 ap np mp tp aq nq mq tq) (S.grp (S.val np (fun j=>tp (j+ap))-S.val nq (fun j=>tq (j+aq))))),fun _ _=> .dead⟩
theorem s59' (ap np mp:Nat) (tp:Nat→Int) (aq nq mq:Nat) (tq:Nat→Int) (hp:(ap+np≤mp∧aq+nq≤mq)∧(np≤1000∧nq≤1000)∧S.okG np (fun j=>tp (j+ap))=true∧S.okG nq (fun j=>tq (j+aq))=true): ∀ (k i:Nat) (c:Int) (L:List Int),i+k=np→L.length=i→(0≤c∧c≤1)→c+S.valF (fun j=>tq (j+aq)) i (nq-i)≤S.valF (fun j=>tp (j+ap)) i k→ ∃ D:List Int,(∀ y ∈ D,0≤y∧y<1000000)∧S.valL D=S.valF (fun j=>tp (j+ap)) i k-S.valF (fun j=>tq (j+aq)) i (nq-i)-c∧Comes (q59 ap np mp tp aq nq mq tq) (.h0 c (i:Int) L) (S.trim (L++D)):=by
  obtain ⟨⟨hp1,hp2⟩,⟨hp3,hp4⟩,g1,g2⟩:=hp
  have d1:=(okG_iff.mp g1).1
  have d2:=(okG_iff.mp g2).1
  intro k
  induction k with
  |zero=>
    intro i c L hi hL hc hv
    have hn2:=suf_nn d2 (i:=i)
    simp only [S.valF] at hv ⊢
    refine ⟨[],fun y hy=>(by cases hy),by simp only [S.valL]; omega,?_⟩
    rw [List.append_nil,← trim_at]
    apply Comes.of
    show Goes _ _ _
    (first|rw [q59]|unfold q59)
    repeat' (first|with_reducible refine goes_if (fun h=> ?_) (fun h=> ?_)<;>(try simp only [SH] at h)|exact goes_none.mpr (by omega))
    all_goals first|(exfalso; omega)|exact goes_inr.mpr rfl
  | succ k ih=>
    intro i c L hi hL hc hv
    have hb:=d1 i (by omega)
    simp only [S.valF] at hv ⊢
    (try dsimp only at hb)
    by_cases c2:i<nq
    · have hb2:=d2 i c2
      (try dsimp only at hb2)
      rw [suf_step c2] at hv ⊢
      (try dsimp only at hv)
      by_cases h0:tp (i+ap)-c-tq (i+aq)<0
      · obtain ⟨D,h1,h2,h3⟩:=ih (i+1) 1 (S.snoc L (tp (i+ap)-c-tq (i+aq)+1000000)) (by omega) (by rw [snoc_len]; omega) (by omega) (by omega)
        refine ⟨(tp (i+ap)-c-tq (i+aq)+1000000)::D,dig_cons (by omega) h1,by simp only [S.valL]; rw [h2]; (try dsimp only); omega,?_⟩
        rw [snoc_app] at h3
        generalize S.valF _ _ _=v1 at*
        generalize S.valF _ _ _=v2 at*
        have ex:tp (i+ap)-tq (i+aq)-c=tp (i+ap)-c-tq (i+aq):=by omega
        clear ih h2
        apply Comes.of
        show Goes _ _ _
        (first|rw [q59]|unfold q59)
        repeat' (first|with_reducible refine goes_if (fun h=> ?_) (fun h=> ?_)<;>(try simp only [SH] at h)|exact goes_none.mpr (by omega))
        all_goals first|(exfalso; omega)|exact h3|(rw [Int.toNat_natCast,ex]; exact h3)
      · obtain ⟨D,h1,h2,h3⟩:=ih (i+1) 0 (S.snoc L (tp (i+ap)-c-tq (i+aq))) (by omega) (by rw [snoc_len]; omega) (by omega) (by omega)
        refine ⟨(tp (i+ap)-c-tq (i+aq))::D,dig_cons (by omega) h1,by simp only [S.valL]; rw [h2]; (try dsimp only); omega,?_⟩
        rw [snoc_app] at h3
        generalize S.valF _ _ _=v1 at*
        generalize S.valF _ _ _=v2 at*
        have ex:tp (i+ap)-tq (i+aq)-c=tp (i+ap)-c-tq (i+aq):=by omega
        clear ih h2
        apply Comes.of
        show Goes _ _ _
        (first|rw [q59]|unfold q59)
        repeat' (first|with_reducible refine goes_if (fun h=> ?_) (fun h=> ?_)<;>(try simp only [SH] at h)|exact goes_none.mpr (by omega))
        all_goals first|(exfalso; omega)|exact h3|(rw [Int.toNat_natCast,ex]; exact h3)
    · rw [show nq-i=0 by omega] at hv ⊢
      simp only [S.valF] at hv ⊢
      (try dsimp only at hv)
      have e0:nq-(i+1)=0:=by omega
      by_cases h0:tp (i+ap)-c<0
      · obtain ⟨D,h1,h2,h3⟩:=ih (i+1) 1 (S.snoc L (tp (i+ap)-c+1000000)) (by omega) (by rw [snoc_len]; omega) (by omega) (by rw [e0]; simp only [S.valF]; omega)
        rw [e0] at h2
        simp only [S.valF] at h2
        refine ⟨(tp (i+ap)-c+1000000)::D,dig_cons (by omega) h1,by simp only [S.valL]; rw [h2]; (try dsimp only); omega,?_⟩
        rw [snoc_app] at h3
        generalize S.valF _ _ _=v1 at*
        have ex:tp (i+ap)-0-c=tp (i+ap)-c:=by omega
        clear ih h2
        apply Comes.of
        show Goes _ _ _
        (first|rw [q59]|unfold q59)
        repeat' (first|with_reducible refine goes_if (fun h=> ?_) (fun h=> ?_)<;>(try simp only [SH] at h)|exact goes_none.mpr (by omega))
        all_goals first|(exfalso; omega)|exact h3|(rw [Int.toNat_natCast,ex]; exact h3)
      · obtain ⟨D,h1,h2,h3⟩:=ih (i+1) 0 (S.snoc L (tp (i+ap)-c)) (by omega) (by rw [snoc_len]; omega) (by omega) (by rw [e0]; simp only [S.valF]; omega)
        rw [e0] at h2
        simp only [S.valF] at h2
        refine ⟨(tp (i+ap)-c)::D,dig_cons (by omega) h1,by simp only [S.valL]; rw [h2]; (try dsimp only); omega,?_⟩
        rw [snoc_app] at h3
        generalize S.valF _ _ _=v1 at*
        have ex:tp (i+ap)-0-c=tp (i+ap)-c:=by omega
        clear ih h2
        apply Comes.of
        show Goes _ _ _
        (first|rw [q59]|unfold q59)
        repeat' (first|with_reducible refine goes_if (fun h=> ?_) (fun h=> ?_)<;>(try simp only [SH] at h)|exact goes_none.mpr (by omega))
        all_goals first|(exfalso; omega)|exact h3|(rw [Int.toNat_natCast,ex]; exact h3)
theorem s59 (ap np mp:Nat) (tp:Nat→Int) (aq nq mq:Nat) (tq:Nat→Int) (hp:(ap+np≤mp∧aq+nq≤mq)∧(np≤1000∧nq≤1000)∧S.okG np (fun j=>tp (j+ap))=true∧S.okG nq (fun j=>tq (j+aq))=true∧S.val nq (fun j=>tq (j+aq))≤S.val np (fun j=>tp (j+ap))):Goes ((q59 ap np mp tp aq nq mq tq)) ((p59 ap np mp tp aq nq mq tq)) (S.grp (S.val np (fun j=>tp (j+ap))-S.val nq (fun j=>tq (j+aq)))):=by
  obtain ⟨⟨hp1,hp2⟩,⟨hp3,hp4⟩,g1,g2,hv⟩:=hp
  obtain ⟨D,h1,h2,h3⟩:=s59' ap np mp tp aq nq mq tq ⟨⟨hp1,hp2⟩,⟨hp3,hp4⟩,g1,g2⟩ np 0 0 [] (by omega) rfl (by omega) (by rw [Int.zero_add]; exact hv)
  rw [List.nil_append,trim_grp h1,h2,Int.sub_zero,Nat.sub_zero] at h3
  show Goes _ _ _
  unfold p59
  repeat' (first|with_reducible refine goes_if (fun h=> ?_) (fun h=> ?_)<;>(try simp only [SH] at h)|exact goes_none.mpr (by omega))
  all_goals first|(exfalso; omega)|exact h3
theorem k59_ok:k59.ok Tryz.prog:=by
  intro x hx
  obtain ⟨⟨ap,np,mp,tp,_⟩,⟨aq,nq,mq,tq,_⟩,_⟩:=x
  obtain ⟨h1,h2⟩:=a59 ap np mp tp aq nq mq tq (s59 ap np mp tp aq nq mq tq (of_dec hx rfl))
  exact ⟨⟨400,(by decide:2+1+1≤400),h1⟩,h2⟩
abbrev St46:=Empty
abbrev Rt46:=Bool×List Int
noncomputable def V46 (ng:Bool) (ap np mp:Nat) (tp:NI) (r:Rt46):PV:=PV.agg [PV.bool r.1,PV.own (2) (1) (List.length r.2)]
noncomputable def N46 (ng:Bool) (ap np mp:Nat) (tp:NI) (r:Rt46):List Blk:= [Blk.cols (List.length r.2) [Col.int .i64 fun j=>S.at' r.2 j]]
noncomputable def I46 (ng:Bool) (ap np mp:Nat) (tp:NI):St46→Hd:=fun s=>s.elim
noncomputable def q46 (ng:Bool) (ap np mp:Nat) (tp:NI):St46→Option (St46⊕Rt46):=fun s=>s.elim
noncomputable def p46 (ng:Bool) (ap np mp:Nat) (tp:NI):Option (St46⊕Rt46):=bif (decide (ap+np≤mp∧np≤1000000)) then (bif (ng) then (bif (decide ((↑(S.trimN np fun j=>tp (j+ap)):Int)>0)) then (bif (decide ((0+S.trimN np fun j=>tp (j+ap))≤1000000)) then (bif (decide ((ap+S.trimN np fun j=>tp (j+ap))≤mp)) then (some (.inr (true,S.mkl (0+S.trimN np fun j=>tp (j+ap)) fun j=>tp (j+ap)))) else (none)) else (none)) else (bif (decide ((0+S.trimN np fun j=>tp (j+ap))≤1000000)) then (bif (decide ((ap+S.trimN np fun j=>tp (j+ap))≤mp)) then (some (.inr (false,S.mkl (0+S.trimN np fun j=>tp (j+ap)) fun j=>tp (j+ap)))) else (none)) else (none))) else (bif (decide ((0+S.trimN np fun j=>tp (j+ap))≤1000000)) then (bif (decide ((ap+S.trimN np fun j=>tp (j+ap))≤mp)) then (some (.inr (false,S.mkl (0+S.trimN np fun j=>tp (j+ap)) fun j=>tp (j+ap)))) else (none)) else (none))) else (none)
noncomputable abbrev u46_e_0 (ap np mp:Nat) (tp:NI):=([[(0,false,Blk.cols mp [Col.int .i64 tp]),(4,true,Blk.cols (0+S.trimN np fun j=>tp (j+ap)) [Col.int .i64 fun j=>tp (j+ap)])]])
noncomputable def Te46 (test:TT) (Kst:KS) (Kret:KR) (ng:Bool) (ap np mp:Nat) (tp:NI):Prop:=test (decide (ap+np≤mp∧np≤1000000)) (test (ng) (test (decide ((↑(S.trimN np fun j=>tp (j+ap)):Int)>0)) (test (decide ((0+S.trimN np fun j=>tp (j+ap))≤1000000)) (test (true) (test (decide ((ap+S.trimN np fun j=>tp (j+ap))≤mp)) (Kret (PV.agg [PV.tf true,PV.own (4) (1) (0+S.trimN np fun j=>tp (j+ap))]) (u46_e_0 ap np mp tp) (5)) (False)) (False)) (False)) (test (decide ((0+S.trimN np fun j=>tp (j+ap))≤1000000)) (test (true) (test (decide ((ap+S.trimN np fun j=>tp (j+ap))≤mp)) (Kret (PV.agg [PV.tf false,PV.own (4) (1) (0+S.trimN np fun j=>tp (j+ap))]) (u46_e_0 ap np mp tp) (5)) (False)) (False)) (False))) (test (decide ((0+S.trimN np fun j=>tp (j+ap))≤1000000)) (test (true) (test (decide ((ap+S.trimN np fun j=>tp (j+ap))≤mp)) (Kret (PV.agg [PV.tf false,PV.own (4) (1) (0+S.trimN np fun j=>tp (j+ap))]) (u46_e_0 ap np mp tp) (5)) (False)) (False)) (False))) (False)
theorem te46 (test:TT) (Kst:KS) (Kret:KR) (ng:Bool) (ap np mp:Nat) (tp:NI):run test Tryz.env true (xB0 test) true 400 ⟨90,[.cd (mkFn Tryz.f90).body],argT 0 [.bool ng,.loose ⟨0,1,ap,0⟩ np],[[],[(0,(false,.cols mp [.int .i64 tp]))]],1⟩ (proj 1 [] Kst Kret)=
  Te46 test Kst Kret ng ap np mp tp:=by kernel_rfl
noncomputable abbrev J46 (ng:Bool) (ap np mp:Nat) (tp:NI):Rt46→Heap:=fun r=> [newL (1+1) ((N46 ng ap np mp tp) r)++ [(0,(false,.cols mp [.int .i64 tp]))]]
attribute [local irreducible] Int.subNatNat in
theorem be46 (ng:Bool) (ap np mp:Nat) (tp:NI) (Kst:KS) (Kret:KR) (x:St46⊕Rt46) (hS:HS 1 400 ((I46 ng ap np mp tp)) Kst x) (hR:HR 1 400 ((V46 ng ap np mp tp)) (J46 ng ap np mp tp) Kret x) (h:p46 ng ap np mp tp=some x):Te46 cond Kst Kret ng ap np mp tp:=by
  unfold Te46
  unfold p46 at h
  refine bif_split h (fun c0 h=>bif_split h (fun c1 h=>bif_split h (fun c2 h=>bif_split h (fun c3 h=>cond_yes rfl (bif_split h (fun c4 h=> ?_) (fun c4 h=> ?_))) (fun c3 h=> ?_)) (fun c2 h=>bif_split h (fun c3 h=>cond_yes rfl (bif_split h (fun c4 h=> ?_) (fun c4 h=> ?_))) (fun c3 h=> ?_))) (fun c1 h=>bif_split h (fun c2 h=>cond_yes rfl (bif_split h (fun c3 h=> ?_) (fun c3 h=> ?_))) (fun c2 h=> ?_))) (fun c0 h=> ?_)
  all_goals first
    |exact no_some h
    |exact ret_at hR _ h (fun n=>bif Nat.beq n 2 then 4 else n) rfl rfl rfl (rn_agg ⟨(rn_bool_tf rfl),(rn_own (use_own rfl) rfl mkl_len),trivial⟩) rfl (entl_new (use_own rfl) rfl (Nat.le_of_eq mkl_len) (rcs_int (fun _ hj=>col_mkl (fun (t:Int)=>t) hj) rcs_nil) (entl_bor (use_lo rfl) rfl rfl entl_nil))
theorem a46 (ng:Bool) (ap np mp:Nat) (tp:NI) {r:Rt46} (h:Goes ((q46 ng ap np mp tp)) ((p46 ng ap np mp tp)) r):CallR Tryz.prog 90 [.bool ng,.loose ⟨0,1,ap,0⟩ np] [[(0,(false,.cols mp [.int .i64 tp]))]] 1 ((V46 ng ap np mp tp) r) ((J46 ng ap np mp tp) r) 400∧ ∃ F,Tryz.prog.funcs[90]? =some F∧F.body.isSome=true∧(F.name== "runtime.NumGoroutine")=false:=by
  refine dec_calls (f:=90) (lo:=1) (hi:=400) Tryz.envOk Tryz.mixed xB0_ok ((I46 ng ap np mp tp)) ((V46 ng ap np mp tp)) (J46 ng ap np mp tp) (fn:=mkFn Tryz.f90) (ts:= []) (n:=400) rfl (by decide) (by simp) (names_of rfl) ?_ ?_ ?_ h
  · intro s; exact s.elim
  · intro Kst Kret x hS hR h
    exact Holds.eq (te46 cond Kst Kret ng ap np mp tp) (be46 ng ap np mp tp Kst Kret x hS hR h)
  · intro Kst Kret x hS hR s h; exact s.elim
noncomputable abbrev w46 {α:Type} (g:Bool→Nat→Nat→Nat→(Nat→Int)→α) (x:Bool×(Nat×Nat×Nat×(Nat→Int)×Unit)×Unit):α:=g x.1 x.2.1.1 x.2.1.2.1 x.2.1.2.2.1 x.2.1.2.2.2.1
noncomputable def k46:Con:=⟨90,[.one (.plain (.bool)),.one (.list [.int .i64])],w46 (fun ng ap np mp tp=>decide (ap+np≤mp∧np≤1000000∧S.okD np (fun j=>tp (j+ap))=true)),w46 (fun ng ap np mp tp=>(V46 ng ap np mp tp) (S.sgB ng (S.val np (fun j=>tp (j+ap))),S.grp (S.val np (fun j=>tp (j+ap))))),w46 (fun ng ap np mp tp=>(N46 ng ap np mp tp) (S.sgB ng (S.val np (fun j=>tp (j+ap))),S.grp (S.val np (fun j=>tp (j+ap))))),fun _ _=> .dead⟩
theorem s46 (ng:Bool) (ap np mp:Nat) (tp:Nat→Int) (hp:ap+np≤mp∧np≤1000000∧S.okD np (fun j=>tp (j+ap))=true):Goes ((q46 ng ap np mp tp)) ((p46 ng ap np mp tp)) ((S.sgB ng (S.val np (fun j=>tp (j+ap))),S.grp (S.val np (fun j=>tp (j+ap))))):=by
  obtain ⟨hp1,hp2,hp3⟩:=hp
  have e1:=trim_mk (n:=np) (t:=(fun j=>tp (j+ap)))
  have hl:S.trimN np (fun j=>tp (j+ap))≤np:=by
    have:=(trim_take (L:=S.mkl np (fun j=>tp (j+ap)))).1
    rw [mkl_len] at this
    exact this
  have e2:(0<S.trimN np (fun j=>tp (j+ap)))↔0<S.val np (fun j=>tp (j+ap)):=by
    unfold S.trimN
    rw [trim_mkl hp3]
    constructor
    · intro h
      refine Int.not_le.mp fun h2=> ?_
      rw [grp_neg h2] at h
      exact absurd h (by simp)
    · exact len_pos
  rw [← trim_mkl hp3,← e1]
  generalize S.val np (fun j=>tp (j+ap))=v at*
  unfold S.sgB
  unfold p46
  rw [Nat.zero_add]
  generalize S.trimN np (fun j=>tp (j+ap))=k at*
  by_cases hk:0<k
  · rw [decide_eq_true (e2.mp hk)]
    cases ng
    repeat' (first|with_reducible refine goes_if (fun h=> ?_) (fun h=> ?_)<;>(try simp only [SH] at h)|exact goes_none.mpr (by omega))
    all_goals first|(exfalso; omega)|exact goes_inr.mpr rfl|simp at*
  · rw [decide_eq_false (fun h=>hk (e2.mpr h))]
    cases ng
    repeat' (first|with_reducible refine goes_if (fun h=> ?_) (fun h=> ?_)<;>(try simp only [SH] at h)|exact goes_none.mpr (by omega))
    all_goals first|(exfalso; omega)|exact goes_inr.mpr rfl|simp at*
theorem k46_ok:k46.ok Tryz.prog:=by
  intro x hx
  obtain ⟨ng,⟨ap,np,mp,tp,_⟩,_⟩:=x
  obtain ⟨h1,h2⟩:=a46 ng ap np mp tp (s46 ng ap np mp tp (of_dec hx rfl))
  exact ⟨⟨400,(by decide:1+1+1≤400),h1⟩,h2⟩
namespace S
def okI (ng:Bool) (n:Nat) (t:Nat→Int):Bool:=decide (n≤80)&&(okG n t&&(decide (0<n)|| !ng))
def sv (ng:Bool) (v:Int):Int:=bif ng then-v else v
noncomputable def bigI (v:Int):Bool×List Int:=(decide (v<0),grp (v.natAbs:Int))
end S
theorem okI_iff {ng:Bool} {n:Nat} {t:Nat→Int}:S.okI ng n t=true↔n≤80∧S.okG n t=true∧(0<n∨ng=false):=by
  unfold S.okI
  rw [Bool.and_eq_true,Bool.and_eq_true,Bool.or_eq_true,decide_eq_true_eq,decide_eq_true_eq,Bool.not_eq_true']
inductive St18 where
  |h0 (x0:Int)
abbrev Rt18:=Bool
noncomputable def V18 (ng:Bool) (ap np mp:Nat) (tp:NI) (r:Rt18):PV:=PV.bool r
noncomputable def N18 (ng:Bool) (ap np mp:Nat) (tp:NI) (r:Rt18):List Blk:= []
noncomputable def I18 (ng:Bool) (ap np mp:Nat) (tp:NI):St18→Hd
  | .h0 x0=>⟨hd Tryz.f51 0,[PV.ptr (PA.mk (1) (0) (0) (0)),
 PV.loose (PA.mk (0) (1) ap (0)) np,PV.int .i64 (↑np:Int),
 PV.int .i64 x0],[[(1,(true,Blk.cells [PV.bool ng,PV.loose (PA.mk (0) (1) ap (0)) np]))],[(0,(false,.cols mp [.int .i64 tp]))]],2⟩
noncomputable def q18 (ng:Bool) (ap np mp:Nat) (tp:NI):St18→Option (St18⊕Rt18)| .h0 x0=>bif (decide (x0<(↑np:Int))) then (bif (decide ((0:Int)≤x0∧x0<(↑np:Int))) then (bif (decide (Int.toNat x0+ap<mp)) then (bif (decide (tp (Int.toNat x0+ap)<0)) then (some (.inr (false))) else (bif (decide (tp (Int.toNat x0+ap)≥1000000)) then (some (.inr (false))) else (bif (lim .i64 (x0+1)) then (some (.inl (.h0 (x0+1)))) else (none)))) else (none)) else (none)) else (bif ((↑np:Int)==0) then (bif (ng) then (some (.inr (false))) else (some (.inr (true)))) else (bif (lim .i64 ((↑np:Int)-1)) then (bif (decide ((0:Int)≤(↑np:Int)-1∧(↑np:Int)-1<(↑np:Int))) then (bif (decide (Int.toNat ((↑np:Int)-1)+ap<mp)) then (bif (tp (Int.toNat ((↑np:Int)-1)+ap) != 0) then (some (.inr (true))) else (some (.inr (false)))) else (none)) else (none)) else (none)))
noncomputable def p18 (ng:Bool) (ap np mp:Nat) (tp:NI):Option (St18⊕Rt18):=bif (decide ((↑np:Int)>80)) then (some (.inr (false))) else (some (.inl (.h0 ((0:Int)))))
noncomputable def Te18 (test:TT) (Kst:KS) (Kret:KR) (ng:Bool) (ap np mp:Nat) (tp:NI):Prop:=test (decide ((↑np:Int)>80)) (Kret (PV.tf false) ([[(0,false,Blk.cols mp [Col.int .i64 tp])]]) (2)) (Kst (hd Tryz.f51 0) ([PV.ptr (PA.mk (1) (0) (0) (0)),PV.loose (PA.mk (0) (1) ap (0)) np,PV.int .i64 (↑np:Int),PV.int .i64 (0:Int)]) ([[(0,false,Blk.cols mp [Col.int .i64 tp]),(1,true,Blk.cells [PV.bool ng,PV.loose (PA.mk (0) (1) ap (0)) np])]]) (2))
theorem te18 (test:TT) (Kst:KS) (Kret:KR) (ng:Bool) (ap np mp:Nat) (tp:NI):run test Tryz.env true noX true 400 ⟨51,[.cd (mkFn Tryz.f51).body],argT 0 [.agg [.bool ng,.loose ⟨0,1,ap,0⟩ np]],[[],[(0,(false,.cols mp [.int .i64 tp]))]],1⟩ (proj 1 [1,10,11,12] Kst Kret)=
  Te18 test Kst Kret ng ap np mp tp:=by kernel_rfl
noncomputable abbrev u18_0_0 (mp:Nat) (tp:NI):=(0,false,Blk.cols mp [Col.int .i64 tp])
noncomputable def T18_0 (test:TT) (Kst:KS) (Kret:KR) (ng:Bool) (ap np mp:Nat) (tp:NI) (x0:Int):Prop:=test (decide (x0<(↑np:Int))) (test (decide ((0:Int)≤x0∧x0<(↑np:Int))) (test (decide (Int.toNat x0+ap<mp)) (test (decide (tp (Int.toNat x0+ap)<0)) (Kret (PV.tf false) ([[(u18_0_0 mp tp)]]) (2)) (test (decide (tp (Int.toNat x0+ap)≥1000000)) (Kret (PV.tf false) ([[(u18_0_0 mp tp)]]) (2)) (test (lim .i64 (x0+1)) (Kst (hd Tryz.f51 0) ([PV.ptr (PA.mk (1) (0) (0) (0)),PV.loose (PA.mk (0) (1) ap (0)) np,PV.int .i64 (↑np:Int),PV.int .i64 (x0+1)]) ([[(u18_0_0 mp tp),(1,true,Blk.cells [PV.bool ng,PV.loose (PA.mk (0) (1) ap (0)) np])]]) (2)) (False)))) (False)) (False)) (test ((↑np:Int)==0) (test (ng) (Kret (PV.tf false) ([[(u18_0_0 mp tp)]]) (2)) (Kret (PV.tf true) ([[(u18_0_0 mp tp)]]) (2))) (test (lim .i64 ((↑np:Int)-1)) (test (decide ((0:Int)≤(↑np:Int)-1∧(↑np:Int)-1<(↑np:Int))) (test (decide (Int.toNat ((↑np:Int)-1)+ap<mp)) (test (tp (Int.toNat ((↑np:Int)-1)+ap) != 0) (Kret (PV.tf true) ([[(u18_0_0 mp tp)]]) (2)) (Kret (PV.tf false) ([[(u18_0_0 mp tp)]]) (2))) (False)) (False)) (False)))
theorem t18_0 (test:TT) (Kst:KS) (Kret:KR) (ng:Bool) (ap np mp:Nat) (tp:NI) (x0:Int):run test Tryz.env true noX true 400 ⟨51,hd Tryz.f51 0,zipT [1,10,11,12] [PV.ptr (PA.mk (1) (0) (0) (0)),
 PV.loose (PA.mk (0) (1) ap (0)) np,PV.int .i64 (↑np:Int),
 PV.int .i64 x0],[[(1,(true,Blk.cells [PV.bool ng,PV.loose (PA.mk (0) (1) ap (0)) np]))],[(0,(false,.cols mp [.int .i64 tp]))]],2⟩ (proj 1 [1,10,11,12] Kst Kret)=
  T18_0 test Kst Kret ng ap np mp tp x0:=by kernel_rfl
noncomputable abbrev J18 (ng:Bool) (ap np mp:Nat) (tp:NI):Rt18→Heap:=fun r=> [newL (1+1) ((N18 ng ap np mp tp) r)++ [(0,(false,.cols mp [.int .i64 tp]))]]
attribute [local irreducible] Int.subNatNat in
theorem be18 (ng:Bool) (ap np mp:Nat) (tp:NI) (Kst:KS) (Kret:KR) (x:St18⊕Rt18) (hS:HS 1 400 ((I18 ng ap np mp tp)) Kst x) (hR:HR 1 400 ((V18 ng ap np mp tp)) (J18 ng ap np mp tp) Kret x) (h:p18 ng ap np mp tp=some x):Te18 cond Kst Kret ng ap np mp tp:=by
  unfold Te18
  unfold p18 at h
  exact bif_split h (fun c0 h=>ret_at hR _ h (fun n=>n) rfl rfl rfl (rn_bool_tf rfl) rfl (entl_bor (use_lo rfl) rfl rfl entl_nil)) (fun c0 h=>stop_at hS _ h (fun n=>bif Nat.beq n 1 then 1 else n) rfl rfl rfl ⟨(rn_ptr (use_own rfl) rfl rfl),⟨(rn_loose (use_lo rfl) rfl rfl rfl),⟨(rn_int rfl),⟨(rn_int rfl),trivial⟩⟩⟩⟩ rfl (entl_b (use_own rfl) rfl (by simp) (rb_cells ⟨(rn_bool rfl),(rn_loose (use_lo rfl) rfl rfl rfl),trivial⟩) (entl_bor (use_lo rfl) rfl rfl entl_nil)))
attribute [local irreducible] Int.subNatNat in
theorem b18_0 (ng:Bool) (ap np mp:Nat) (tp:NI) (Kst:KS) (Kret:KR) (x:St18⊕Rt18) (hS:HS 1 400 ((I18 ng ap np mp tp)) Kst x) (hR:HR 1 400 ((V18 ng ap np mp tp)) (J18 ng ap np mp tp) Kret x) (x0:Int) (h:q18 ng ap np mp tp (.h0 x0)=some x):T18_0 cond Kst Kret ng ap np mp tp x0:=by
  unfold T18_0
  rw [q18] at h
  refine bif_split h (fun c0 h=>bif_split h (fun c1 h=>bif_split h (fun c2 h=>bif_split h (fun c3 h=> ?_) (fun c3 h=>bif_split h (fun c4 h=> ?_) (fun c4 h=>bif_split h (fun c5 h=>stop_at hS _ h (fun n=>bif Nat.beq n 1 then 1 else n) rfl rfl rfl ⟨(rn_ptr (use_own rfl) rfl rfl),⟨(rn_loose (use_lo rfl) rfl rfl rfl),⟨(rn_int rfl),⟨(rn_int rfl),trivial⟩⟩⟩⟩ rfl (entl_b (use_own rfl) rfl (by simp) (rb_cells ⟨(rn_bool rfl),(rn_loose (use_lo rfl) rfl rfl rfl),trivial⟩) (entl_bor (use_lo rfl) rfl rfl entl_nil))) (fun c5 h=> ?_)))) (fun c2 h=> ?_)) (fun c1 h=> ?_)) (fun c0 h=>bif_split h (fun c1 h=>bif_split h (fun c2 h=> ?_) (fun c2 h=> ?_)) (fun c1 h=>bif_split h (fun c2 h=>bif_split h (fun c3 h=>bif_split h (fun c4 h=>bif_split h (fun c5 h=> ?_) (fun c5 h=> ?_)) (fun c4 h=> ?_)) (fun c3 h=> ?_)) (fun c2 h=> ?_)))
  all_goals first
    |exact ret_at hR _ h (fun n=>n) rfl rfl rfl (rn_bool_tf rfl) rfl (entl_bor (use_lo rfl) rfl rfl entl_nil)
    |exact no_some h
theorem a18 (ng:Bool) (ap np mp:Nat) (tp:NI) {r:Rt18} (h:Goes ((q18 ng ap np mp tp)) ((p18 ng ap np mp tp)) r):CallR Tryz.prog 51 [.agg [.bool ng,.loose ⟨0,1,ap,0⟩ np]] [[(0,(false,.cols mp [.int .i64 tp]))]] 1 ((V18 ng ap np mp tp) r) ((J18 ng ap np mp tp) r) 400∧ ∃ F,Tryz.prog.funcs[51]? =some F∧F.body.isSome=true∧(F.name== "runtime.NumGoroutine")=false:=by
  refine dec_calls (f:=51) (lo:=1) (hi:=400) Tryz.envOk Tryz.mixed noX_ok ((I18 ng ap np mp tp)) ((V18 ng ap np mp tp)) (J18 ng ap np mp tp) (fn:=mkFn Tryz.f51) (ts:= [1,10,11,12]) (n:=400) rfl (by decide) (by simp) (names_of rfl) ?_ ?_ ?_ h
  · intro s; cases s<;>exact ⟨hd_ok _ _,by simp [I18],names_of rfl,Nat.le_of_ble_eq_true rfl⟩
  · intro Kst Kret x hS hR h
    exact Holds.eq (te18 cond Kst Kret ng ap np mp tp) (be18 ng ap np mp tp Kst Kret x hS hR h)
  · intro Kst Kret x hS hR s h
    cases s with
    |h0 x0=>exact Holds.eq (t18_0 cond Kst Kret ng ap np mp tp x0) (b18_0 ng ap np mp tp Kst Kret x hS hR x0 h)
noncomputable abbrev w18 {α:Type} (g:Bool→Nat→Nat→Nat→(Nat→Int)→α) (x:(Bool×(Nat×Nat×Nat×(Nat→Int)×Unit)×Unit)×Unit):α:=g x.1.1 x.1.2.1.1 x.1.2.1.2.1 x.1.2.1.2.2.1 x.1.2.1.2.2.2.1
noncomputable def k18:Con:=⟨51,[.agg [.plain (.bool),.list [.int .i64]]],w18 (fun ng ap np mp tp=>decide (ap+np≤mp∧np≤1000000)),w18 (fun ng ap np mp tp=>(V18 ng ap np mp tp) (S.okI ng np (fun j=>tp (j+ap)))),w18 (fun ng ap np mp tp=>(N18 ng ap np mp tp) (S.okI ng np (fun j=>tp (j+ap)))),fun _ _=> .dead⟩
theorem s18' (ng:Bool) (ap np mp:Nat) (tp:Nat→Int) (hp:ap+np≤mp∧np≤1000000) (hn:np≤80): ∀ (k i:Nat),i+k=np→(∀ j,j<i→0≤tp (j+ap)∧tp (j+ap)<1000000)→Comes (q18 ng ap np mp tp) (.h0 (i:Int)) (S.okI ng np (fun j=>tp (j+ap))):=by
  obtain ⟨hp1,hp2⟩:=hp
  intro k
  induction k with
  | zero=>
    intro i hi hj
    obtain rfl:np=i:=by omega
    have hG:S.okG np (fun j=>tp (j+ap))=true↔(np=0∨tp (np-1+ap)≠0):=by
      rw [okG_iff]
      exact ⟨fun h=>h.2,fun h=>⟨hj,h⟩⟩
    have hI:=okI_iff (ng:=ng) (n:=np) (t:=(fun j=>tp (j+ap)))
    rw [hG] at hI
    have e1:((np:Int)-1).toNat=np-1:=by omega
    generalize S.okI ng np (fun j=>tp (j+ap))=R at*
    have hR:(np≤80∧(np=0∨tp (np-1+ap)≠0)∧(0<np∨ng=false))→true=R:=fun h=>(hI.mpr h).symm
    have hR': ¬ (np≤80∧(np=0∨tp (np-1+ap)≠0)∧(0<np∨ng=false))→false=R:=fun h=>by cases R; rfl; exact absurd (hI.mp rfl) h
    cases ng
    · apply Comes.of
      show Goes _ _ _
      (first|rw [q18]|unfold q18)
      repeat' (first|with_reducible refine goes_if (fun h=> ?_) (fun h=> ?_)<;>(try simp only [SH,e1] at h)|exact goes_none.mpr (by omega))
      all_goals first
        |(exfalso; omega)
        |(refine goes_inr.mpr (hR ⟨by omega,by omega,?_⟩); first|exact .inr rfl|(left; omega)|(left; rcases Nat.eq_zero_or_pos np with h|h<;>first|exact h|exact absurd (hl.1 h) (by decide)))
        |(refine goes_inr.mpr (hR' ?_); intro hx; first|(exact absurd hx.2.2 (by simp; omega))|omega|(have h3:=hx.2.1; omega))
        |(exfalso; simp at*; done)
    · apply Comes.of
      show Goes _ _ _
      (first|rw [q18]|unfold q18)
      repeat' (first|with_reducible refine goes_if (fun h=> ?_) (fun h=> ?_)<;>(try simp only [SH,e1] at h)|exact goes_none.mpr (by omega))
      all_goals first
        |(exfalso; omega)
        |(refine goes_inr.mpr (hR ⟨by omega,by omega,?_⟩); first|exact .inr rfl|(left; omega)|(left; rcases Nat.eq_zero_or_pos np with h|h<;>first|exact h|exact absurd (hl.1 h) (by decide)))
        |(refine goes_inr.mpr (hR' ?_); intro hx; first|(exact absurd hx.2.2 (by simp; omega))|omega|(have h3:=hx.2.1; omega))
        |(exfalso; simp at*; done)
  | succ k ih=>
    intro i hi hj
    by_cases hc:0≤tp (i+ap)∧tp (i+ap)<1000000
    · have ih:=ih (i+1) (by omega) (fun j hlt=>by
        rcases Nat.lt_or_eq_of_le (Nat.le_of_lt_succ hlt) with h2|h2
        · exact hj j h2
        · subst h2; exact hc)
      apply Comes.of
      show Goes _ _ _
      (first|rw [q18]|unfold q18)
      repeat' (first|with_reducible refine goes_if (fun h=> ?_) (fun h=> ?_)<;>(try simp only [SH] at h)|exact goes_none.mpr (by omega))
      all_goals first|(exfalso; omega)|exact ih
    · have hR:S.okI ng np (fun j=>tp (j+ap))=false:=by
        rw [Bool.eq_false_iff]
        intro h
        exact hc ((okG_iff.mp (okI_iff.mp h).2.1).1 i (by omega))
      rw [hR]
      apply Comes.of
      show Goes _ _ _
      (first|rw [q18]|unfold q18)
      repeat' (first|with_reducible refine goes_if (fun h=> ?_) (fun h=> ?_)<;>(try simp only [SH] at h)|exact goes_none.mpr (by omega))
      all_goals first|(exfalso; omega)|exact goes_inr.mpr rfl
theorem s18 (ng:Bool) (ap np mp:Nat) (tp:Nat→Int) (hp:ap+np≤mp∧np≤1000000):Goes ((q18 ng ap np mp tp)) ((p18 ng ap np mp tp)) (S.okI ng np (fun j=>tp (j+ap))):=by
  have hI:=okI_iff (ng:=ng) (n:=np) (t:=(fun j=>tp (j+ap)))
  rw [okG_iff] at hI
  by_cases hn:np≤80
  · skip
    have hm:=s18' ng ap np mp tp hp hn np 0 (by omega) (fun j hj=>absurd hj (Nat.not_lt_zero j))
    skip
    have hR': ¬ ((np=0∨tp (np-1+ap)≠0)∧(0<np∨ng=false))→false=S.okI ng np (fun j=>tp (j+ap)):=fun h=>by
      cases hx:S.okI ng np (fun j=>tp (j+ap))
      · rfl
      · exact absurd ⟨(hI.mp hx).2.1.2,(hI.mp hx).2.2⟩ h
    have e1:((np:Int)-1).toNat=np-1:=by omega
    generalize S.okI ng np (fun j=>tp (j+ap))=R at*
    obtain ⟨hp1,hp2⟩:=hp
    cases ng
    · skip
      show Goes _ _ _
      unfold p18
      repeat' (first|with_reducible refine goes_if (fun h=> ?_) (fun h=> ?_)<;>(try simp only [SH,e1] at h)|exact goes_none.mpr (by omega))
      all_goals first
        |(exfalso; omega)
        |exact hm
        |exact hm ⟨fun _=>rfl,fun h=>by omega⟩
        |(refine goes_inr.mpr (hR' ?_); intro hx; first|(exact absurd hx.2 (by simp; omega))|omega|(have h3:=hx.1; omega))
        |(exfalso; simp at*; done)
    · skip
      show Goes _ _ _
      unfold p18
      repeat' (first|with_reducible refine goes_if (fun h=> ?_) (fun h=> ?_)<;>(try simp only [SH,e1] at h)|exact goes_none.mpr (by omega))
      all_goals first
        |(exfalso; omega)
        |exact hm
        |exact hm ⟨fun h=>by omega,fun h=>by omega⟩
        |(refine goes_inr.mpr (hR' ?_); intro hx; first|(exact absurd hx.2 (by simp; omega))|omega|(have h3:=hx.1; omega))
        |(exfalso; simp at*; done)
  · have hR:S.okI ng np (fun j=>tp (j+ap))=false:=by
      rw [Bool.eq_false_iff]
      intro h
      exact hn (hI.mp h).1
    rw [hR]
    show Goes _ _ _
    unfold p18
    repeat' (first|with_reducible refine goes_if (fun h=> ?_) (fun h=> ?_)<;>(try simp only [SH] at h)|exact goes_none.mpr (by omega))
    all_goals first|(exfalso; omega)|exact goes_inr.mpr rfl
theorem k18_ok:k18.ok Tryz.prog:=by
  intro x hx
  obtain ⟨⟨ng,⟨ap,np,mp,tp,_⟩,_⟩,_⟩:=x
  obtain ⟨h1,h2⟩:=a18 ng ap np mp tp (s18 ng ap np mp tp (of_dec hx rfl))
  exact ⟨⟨400,(by decide:1+1+0≤400),h1⟩,h2⟩
inductive St19 where
  |h0 (x0:Int)
abbrev Rt19:=Bool
noncomputable def V19 (ng:Bool) (ap np mp:Nat) (tp:NI) (r:Rt19):PV:=PV.bool r
noncomputable def N19 (ng:Bool) (ap np mp:Nat) (tp:NI) (r:Rt19):List Blk:= []
noncomputable def I19 (ng:Bool) (ap np mp:Nat) (tp:NI):St19→Hd
  | .h0 x0=>⟨hd Tryz.f54 0,[PV.ptr (PA.mk (1) (0) (0) (0)),PV.int .i64 (↑np:Int),
 PV.int .i64 x0],[[(1,(true,Blk.cells [PV.bool ng,PV.loose (PA.mk (0) (1) ap (0)) np]))],[(0,(false,.cols mp [.int .i64 tp]))]],2⟩
noncomputable def q19 (ng:Bool) (ap np mp:Nat) (tp:NI):St19→Option (St19⊕Rt19)| .h0 x0=>bif (decide (x0<(↑np:Int))) then (bif (decide ((0:Int)≤x0∧x0<(↑np:Int))) then (bif (decide (Int.toNat x0+ap<mp)) then (bif (decide (tp (Int.toNat x0+ap)<0)) then (some (.inr (false))) else (bif (decide (tp (Int.toNat x0+ap)≥1000000)) then (some (.inr (false))) else (bif (lim .i64 (x0+1)) then (some (.inl (.h0 (x0+1)))) else (none)))) else (none)) else (none)) else (some (.inr (true)))
noncomputable def p19 (ng:Bool) (ap np mp:Nat) (tp:NI):Option (St19⊕Rt19):=bif (decide ((↑np:Int)>80)) then (some (.inr (false))) else (bif ((↑np:Int)==0) then (bif (ng) then (some (.inr (false))) else (bif (decide ((↑np:Int)>0)) then (bif (lim .i64 ((↑np:Int)-1)) then (bif (decide ((0:Int)≤(↑np:Int)-1∧(↑np:Int)-1<(↑np:Int))) then (bif (decide (Int.toNat ((↑np:Int)-1)+ap<mp)) then (bif (tp (Int.toNat ((↑np:Int)-1)+ap)==0) then (some (.inr (false))) else (some (.inl (.h0 ((0:Int)))))) else (none)) else (none)) else (none)) else (some (.inl (.h0 ((0:Int))))))) else (bif (decide ((↑np:Int)>0)) then (bif (lim .i64 ((↑np:Int)-1)) then (bif (decide ((0:Int)≤(↑np:Int)-1∧(↑np:Int)-1<(↑np:Int))) then (bif (decide (Int.toNat ((↑np:Int)-1)+ap<mp)) then (bif (tp (Int.toNat ((↑np:Int)-1)+ap)==0) then (some (.inr (false))) else (some (.inl (.h0 ((0:Int)))))) else (none)) else (none)) else (none)) else (some (.inl (.h0 ((0:Int)))))))
noncomputable abbrev u19_e_0 (ng:Bool) (ap np mp:Nat) (tp:NI):=([[(0,false,Blk.cols mp [Col.int .i64 tp]),(1,true,Blk.cells [PV.bool ng,PV.loose (PA.mk (0) (1) ap (0)) np])]])
noncomputable abbrev u19_e_1 (np:Nat):=([PV.ptr (PA.mk (1) (0) (0) (0)),PV.int .i64 (↑np:Int),PV.int .i64 (0:Int)])
noncomputable def Te19 (test:TT) (Kst:KS) (Kret:KR) (ng:Bool) (ap np mp:Nat) (tp:NI):Prop:=test (decide ((↑np:Int)>80)) (Kret (PV.tf false) ([[(0,false,Blk.cols mp [Col.int .i64 tp])]]) (2)) (test ((↑np:Int)==0) (test (ng) (Kret (PV.tf false) ([[(0,false,Blk.cols mp [Col.int .i64 tp])]]) (2)) (test (decide ((↑np:Int)>0)) (test (lim .i64 ((↑np:Int)-1)) (test (decide ((0:Int)≤(↑np:Int)-1∧(↑np:Int)-1<(↑np:Int))) (test (decide (Int.toNat ((↑np:Int)-1)+ap<mp)) (test (tp (Int.toNat ((↑np:Int)-1)+ap)==0) (Kret (PV.tf false) ([[(0,false,Blk.cols mp [Col.int .i64 tp])]]) (2)) (Kst (hd Tryz.f54 0) (u19_e_1 np) (u19_e_0 ng ap np mp tp) (2))) (False)) (False)) (False)) (Kst (hd Tryz.f54 0) (u19_e_1 np) (u19_e_0 ng ap np mp tp) (2)))) (test (decide ((↑np:Int)>0)) (test (lim .i64 ((↑np:Int)-1)) (test (decide ((0:Int)≤(↑np:Int)-1∧(↑np:Int)-1<(↑np:Int))) (test (decide (Int.toNat ((↑np:Int)-1)+ap<mp)) (test (tp (Int.toNat ((↑np:Int)-1)+ap)==0) (Kret (PV.tf false) ([[(0,false,Blk.cols mp [Col.int .i64 tp])]]) (2)) (Kst (hd Tryz.f54 0) (u19_e_1 np) (u19_e_0 ng ap np mp tp) (2))) (False)) (False)) (False)) (Kst (hd Tryz.f54 0) (u19_e_1 np) (u19_e_0 ng ap np mp tp) (2))))
theorem te19 (test:TT) (Kst:KS) (Kret:KR) (ng:Bool) (ap np mp:Nat) (tp:NI):run test Tryz.env true noX true 400 ⟨54,[.cd (mkFn Tryz.f54).body],argT 0 [.agg [.bool ng,.loose ⟨0,1,ap,0⟩ np]],[[],[(0,(false,.cols mp [.int .i64 tp]))]],1⟩ (proj 1 [1,3,4] Kst Kret)=
  Te19 test Kst Kret ng ap np mp tp:=by kernel_rfl
end Go.Ev
